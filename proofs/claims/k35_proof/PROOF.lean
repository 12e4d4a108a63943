import PyProof.Rows.All
import Wide.All
import OpenK.AllK
import Wide.FinOn
import Lean
import PyProof.EqAt
import PyProof.EqKinds
import PyProof.TupleCall
import KE.KSortKey
import KE.KLam
import PySem.Challenge.RW_shortrows_k35_bits_at_the_edge
namespace PySem.W.Fast
noncomputable def tw10491386734735123657:=0
noncomputable def tw4191518636727142895:=0
noncomputable def tw14202111977615900366:=0
noncomputable def tw8901435653817214930:=0
noncomputable def tw7544382036807212732:=0
noncomputable def tw8890842148439074725:=0
noncomputable def tw7337344165864310722:=0
noncomputable def tw15574772040652034604:=0
noncomputable def tw6132118020587874455:=0
noncomputable def tw17429171712222739231:=0
noncomputable def tw7062446356661936360:=0
noncomputable def tw13339603368098353553:=0
noncomputable def tw17036975240846593740:=0
noncomputable def tw8546785116305157299:=0
noncomputable def tw17304636058387219154:=0
noncomputable def tw10734069762616725260:=0
noncomputable def tw2441536156127778041:=0
noncomputable def tw1381105167636605347:=0
noncomputable def tw4890679184879470523:=0
noncomputable def tw15727763355127671334:=0
noncomputable def tw13656312890694823510:=0
noncomputable def tw8583154117618301118:=0
noncomputable def tw13985280906602629995:=0
noncomputable def tw18063938561155436904:=0
noncomputable def tw2430210335237938184:=0
noncomputable def tw13838054515807147451:=0
noncomputable def tw15564385818683235751:=0
noncomputable def tw11555762347296534909:=0
noncomputable def tw4435375697514724486:=0
noncomputable def tw12535453156788592451:=0
noncomputable def tw7951741262345698093:=0
noncomputable def tw5258659431576358361:=0
noncomputable def tw6373908450212780208:=0
noncomputable def tw13496400246424260454:=0
noncomputable def tw9406657352363321036:=0
noncomputable def tw9568156080357843608:=0
noncomputable def tw3039451195950342475:=0
noncomputable def tw12639589298120842037:=0
noncomputable def tw3186587479294648161:=0
noncomputable def tw11824570627170033672:=0
noncomputable def tw8078240753275831157:=0
noncomputable def tw9339005935928514446:=0
noncomputable def tw6358053425711984468:=0
noncomputable def tw17094401668703745262:=0
noncomputable def tw16330450569196603789:=0
noncomputable def tw15324711561081730863:=0
noncomputable def tw434994336032604443:=0
noncomputable def tw12754060206154734734:=0
noncomputable def tw17294975944523887395:=0
noncomputable def tw11732355930608371584:=0
noncomputable def tw17299180935145832415:=0
noncomputable def tw14282321478547623301:=0
noncomputable def tw12923436600872725387:=0
noncomputable def tw1061182663020629186:=0
noncomputable def tw12056144517423172360:=0
noncomputable def tw11130607608467707589:=0
noncomputable def tw18162356214446889757:=0
noncomputable def tw11256381812246268001:=0
noncomputable def tw14854899571496343363:=0
noncomputable def tw17390268909327548429:=0
noncomputable def tw11865606271005870733:=0
noncomputable def tw11900381495987508381:=0
noncomputable def tw13767123776818569858:=0
noncomputable def tw7727527243270975723:=0
noncomputable def tw15807630318341737714:=0
noncomputable def tw4066109514069113767:=0
noncomputable def tw9958231938988791917:=0
noncomputable def tw14878886690303017277:=0
noncomputable def tw16661663434540160493:=0
noncomputable def tw4134925612419142107:=0
noncomputable def tw8672330018132603035:=0
noncomputable def tw11419610872865652772:=0
noncomputable def tw6859617980225135130:=0
noncomputable def tw6730034340656567987:=0
noncomputable def tw18354058957978500712:=0
noncomputable def tw15220023442389888495:=0
noncomputable def tw1972879201480987550:=0
noncomputable def tw8079502589435384291:=0
noncomputable def tw3354383321171752794:=0
noncomputable def tw5667344796912992647:=0
noncomputable def tw7786974887433615496:=0
noncomputable def tw13083246567415045305:=0
noncomputable def tw5532139350471396909:=0
noncomputable def tw17362258250271073979:=0
noncomputable def tw8348788094149738360:=0
noncomputable def tw5334772959553207291:=0
noncomputable def tw5992753267277185197:=0
noncomputable def tw12716685961264526553:=0
noncomputable def tw16978685242876793479:=0
noncomputable def tw390328413649289161:=0
noncomputable def tw12084820921176961607:=0
noncomputable def tw5627324856901019706:=0
noncomputable def tw6390983304005697767:=0
noncomputable def tw3603860365596022146:=0
noncomputable def tw18425190147584156858:=0
noncomputable def tw14226518664039010972:=0
noncomputable def tw16394697583238811331:=0
noncomputable def tw4471970349686244743:=0
noncomputable def tw17337053772029431406:=0
noncomputable def tw7986783372593703451:=0
noncomputable def tw14503244543636460674:=0
noncomputable def tw13000184786486933476:=0
noncomputable def tw16419465830401050595:=0
noncomputable def tw2298451150906247139:=0
noncomputable def tw393069165563053531:=0
noncomputable def tw16237669546615604244:=0
noncomputable def tw10582433727179872751:=0
noncomputable def tw6180520397180799444:=0
noncomputable def tw6843399445242649249:=0
noncomputable def tw10755314468746992027:=0
noncomputable def tw15054312545962094176:=0
noncomputable def tw11682164003305441539:=0
noncomputable def tw13464662364968812616:=0
noncomputable def tw17484983771395668526:=0
noncomputable def tw6089164445764469394:=0
noncomputable def tw14254256812001716425:=0
noncomputable def tw3770015359855502062:=0
noncomputable def tw6829228762046342993:=0
noncomputable def tw385323543202546618:=0
noncomputable def tw9892186329155904263:=0
noncomputable def tw16972706895416879982:=0
noncomputable def tw13406926402727692674:=0
noncomputable def tw2284392003365740568:=0
noncomputable def tw12970247548805539859:=0
noncomputable def tw13616929858992707515:=0
noncomputable def tw2251126245099108517:=0
noncomputable def tw9276349212559588589:=0
noncomputable def tw6571611992828246506:=0
noncomputable def tw9322766539997057118:=0
noncomputable def tw5051216183592232758:=0
noncomputable def tw8037455877265841124:=0
noncomputable def tw2387724841378874443:=0
noncomputable def tw5900622053529474962:=0
noncomputable def tw14102996977927207251:=0
noncomputable def tw10364427548867530234:=0
noncomputable def tw383775858682464857:=0
noncomputable def tw16850481157144252897:=0
noncomputable def tw8587392173075777074:=0
noncomputable def tw4513205828686091461:=0
noncomputable def tw7885548198335336793:=0
noncomputable def tw7458950060075188626:=0
noncomputable def tw16125034692424747321:=0
noncomputable def tw7656719976297475232:=0
noncomputable def tw2038746268197559070:=0
noncomputable def tw18096686878973763915:=0
noncomputable def tw12383655799636988810:=0
noncomputable def tw10073111369041685941:=0
noncomputable def tw6333431175576964507:=0
noncomputable def tw8069974359556785197:=0
noncomputable def tw7864867379556730570:=0
noncomputable def tw5164529312977575017:=0
noncomputable def tw1393321044495357067:=0
noncomputable def tw4336032903258271137:=0
noncomputable def tw15117801468034301708:=0
noncomputable def tw1235882350291630503:=0
noncomputable def tw1431758838880573630:=0
noncomputable def tw1414067951096967878:=0
noncomputable def tw9792751979173886876:=0
noncomputable def tw9030963927318790398:=0
noncomputable def tw4600555907392329541:=0
noncomputable def tw4675948638733671431:=0
noncomputable def tw16611707429384750936:=0
noncomputable def tw9936910186608053751:=0
noncomputable def tw16218031400878513318:=0
noncomputable def tw106295767555642908:=0
noncomputable def tw3912094436111144947:=0
noncomputable def tw16547713677185352167:=0
noncomputable def tw7273388616554865226:=0
noncomputable def tw13703253508509466667:=0
noncomputable def tw7001658211440721822:=0
noncomputable def tw6147999530470869809:=0
noncomputable def tw14375531377143043601:=0
noncomputable def tw2085286126110204482:=0
noncomputable def tw2685171119288185883:=0
noncomputable def tw5381954654009520765:=0
noncomputable def tw14035174660282434621:=0
noncomputable def tw194579672566580729:=0
end PySem.W.Fast
set_option Elab.async false
set_option linter.all false
set_option maxRecDepth 100000
set_option maxHeartbeats 4000000
noncomputable section
set_option compiler.extract_closed false
theorem ℜz0(_:True:=by rfl):True:=⟨⟩
def ℜ0:Lean.Syntax:=ℜz0._auto_1
theorem ℜz1(_:True:=by decide):True:=⟨⟩
def ℜ1:Lean.Syntax:=ℜz1._auto_1
theorem ℜz2(_:True:=by first|exact .inl rfl|exact .inr rfl|assumption):True:=⟨⟩
def ℜ2:Lean.Syntax:=ℜz2._auto_1
theorem ℜz3(_:True:=by intro _;rfl):True:=⟨⟩
def ℜ3:Lean.Syntax:=ℜz3._auto_1
theorem ℜz4(_:True:=by first|exact Or.inl rfl|exact Or.inr (Or.inl rfl)|exact Or.inr (Or.inr rfl)):True:=⟨⟩
def ℜ4:Lean.Syntax:=ℜz4._auto_1
theorem ℜz5(_:True:=by with_unfolding_all rfl):True:=⟨⟩
def ℜ5:Lean.Syntax:=ℜz5._auto_1
theorem ℜz6(_:True:=by decide +kernel):True:=⟨⟩
def ℜ6:Lean.Syntax:=ℜz6._auto_1
namespace L2
open PySem PySem.Spec PyProof.Rows
variable{us:List Value}{x:Str}{u:Value}{C a b:Addr}{base h:Heap}{items:Array Value}{P:Program}{w:World}{g':Array GenState}{ch fp:List Addr}{e tg:Expr}{N:List Str}{i j:Nat}{M:Model}{E Q:Value->Shared->Prop}{s':Shared}{pins:List (Addr×Obj)}{f:Value->Value->Sem Value}{es:List Expr}{g:Int->Int->Int}{body:List Stmt}{pl:Sem Bool}{mA mg:Str->Option Value}{kw:List (Str×Value)}{fd:FuncData}{outer:List Env}{kindOf:Str->Option NameKind}{scope:Scope}
noncomputable def Gg:=@PySem.wpAny_bind
noncomputable def Gh:=@PySem.Heap.get?_push_of_some
noncomputable def Gi:=@List.getElem?_eq_getElem
noncomputable def Gj:=@if_neg
noncomputable def Gk:=@List.length_append
noncomputable def Gm:=@List.getElem?_eq_some_iff
noncomputable def Gn:=@if_pos
noncomputable def Gp:=@Nat.le_refl
noncomputable def Gq:=@PySem.wpAny_pure
noncomputable def Gr:=@Nat.le_trans
noncomputable def Gs:=@List.mem_cons
noncomputable def Gu:=@List.length_map
noncomputable def Gv:=@List.getD_eq_getElem?_getD
noncomputable def Gw:=@PySem.Heap.get?_push_size
noncomputable def Gx:=@Bool.false_ne_true
noncomputable def Gy:=@List.size_toArray
noncomputable def Gz:=@PySem.Heap.lt_size
noncomputable def G0:=@List.getElem?_map
noncomputable def GA:=@List.mem_singleton
noncomputable def GB:=@List.length_replicate
noncomputable def GC:=@List.mem_cons_of_mem
noncomputable def GD:=@List.mem_cons_self
noncomputable def GF:=@List.length_cons
noncomputable def GG:=@Nat.ne_of_lt
noncomputable def GH:=@Nat.zero_le
noncomputable def GI:=@List.not_mem_nil
noncomputable def GJ:=@decide_eq_false
noncomputable def GK:=@Nat.lt_of_lt_of_le
noncomputable def GL:=@List.mem_append_right
noncomputable def GO:=@Option.map_eq_some_iff
noncomputable def GP:=@PySem.PassesOwn.never
noncomputable def GQ:=@List.length_take
noncomputable def GS:=@List.getElem_mem
noncomputable def GU:=@List.map_append
noncomputable def GV:=@List.append_assoc
noncomputable def GW:=@Int.toNat_natCast
noncomputable def GX:=@List.getElem?_eq_none_iff
noncomputable def GY:=@Array.getElem?_toList
noncomputable def GZ:=@decide_eq_true
noncomputable def G_:=@List.pairwise_cons
noncomputable def Ha:=@List.getElem?_append_right
noncomputable def Hb:=@beq_eq_false_iff_ne
noncomputable def Hc:=@Array.length_toList
noncomputable def Hd:=@List.map_cons
noncomputable def He:=@List.length_range
noncomputable def Hf:=@List.length_drop
noncomputable def Hg:=@PySem.wpAny_holding
noncomputable def Hh:=@List.replicate_succ
noncomputable def Hi:=@List.getElem?_append_left
noncomputable def Hj:=@congrArg
noncomputable def Hk:=@List.lookup_cons
noncomputable def Hl:=@PyProof.Rows.boot_isinstance
noncomputable def Hm:=@List.mem_append
noncomputable def Hn:=@or_false
noncomputable def Ho:=@List.getElem?_toArray
noncomputable def Hq:=@PySem.wpAny_mono
noncomputable def Hr:=@Nat.lt_or_ge
noncomputable def Hs:=@List.take_of_length_le
noncomputable def Ht:=@of_decide_eq_true
noncomputable def Hu:=@List.length_nil
noncomputable def Hv:=@PyProof.Rows.callWith_type1
noncomputable def Hw:=@PySem.wpAny_callSpecial?_slot
noncomputable def Hx:=@List.mem_of_getElem?
noncomputable def Hy:=@Bool.and_eq_true
noncomputable def Hz:=@PySem.wpAny_call_entry
noncomputable def HA:=@List.pairwise_append
noncomputable def HB:=@Ne.symm
noncomputable def HC:=@PySem.sizeLine_eq
noncomputable def HD:=@Nat.le_succ
noncomputable def HE:=@List.length_set
noncomputable def HF:=@List.nil_append
noncomputable def HG:=@List.mem_or_eq_of_mem_set
noncomputable def HH:=@Bool.false_eq_true
noncomputable def HI:=@PySem.wpAny_pyIter_tuple
noncomputable def HJ:=@List.mem_replicate
noncomputable def HK:=@List.mem_range
noncomputable def HL:=@List.drop_zero
noncomputable def HM:=@Nat.add_sub_cancel_left
noncomputable def HN:=@PySem.wpAny_newObj_type
noncomputable def HP:=@PySem.wpAny_pyIter_list
noncomputable def HQ:=@PySem.Heap.SameBut.update
noncomputable def HR:=@Nat.ne_of_gt
noncomputable def HS:=@List.mem_map
noncomputable def HU:=@PySem.wpAny_field
noncomputable def HV:=@Array.getElem?_eq_some_iff
noncomputable def HW:=@PySem.Heap.size_push
noncomputable def HX:=@List.getElem?_drop
noncomputable def HY:=@PySem.wpAny_seqItems
noncomputable def HZ:=@List.drop_eq_getElem_cons
noncomputable def H_:=@List.pairwise_iff_getElem
noncomputable def Ia:=@List.append_nil
noncomputable def Ib:=@List.find?_cons
noncomputable def Ic:=@Nat.lt_irrefl
noncomputable def Ie:=@List.all_cons
noncomputable def Ig:=@PySem.wpAny_typeNameOfWhole_keyiter
noncomputable def Ih:=@if_false
noncomputable def Ii:=@List.cons_append
noncomputable def Ij:=@decide_eq_decide
noncomputable def Ik:=@List.mem_reverse
noncomputable def Il:=@PySem.wpAny_Call_Name_kw
noncomputable def Im:=@Nat.lt_of_le_of_lt
noncomputable def Io:=@PySem.wpAny_setField_rec
noncomputable def Ip:=@Nat.sub_self
noncomputable def Iq:=@PySem.wpAny_passesOwn
noncomputable def Ir:=@PySem.F.slot_tuple_iterator_next
noncomputable def Iu:=@PySem.wpAny_truthy_bool
noncomputable def Iv:=@List.flatten_cons
noncomputable def Iw:=@List.ext_getElem?
noncomputable def Iy:=@List.pairwise_map
noncomputable def Iz:=@Nat.le_of_lt
noncomputable def IA:=@List.range'_succ
noncomputable def IB:=@List.take_length
noncomputable def IC:=@PySem.F.slot_list_getattribute
noncomputable def ID:=@List.ext_getElem
noncomputable def IE:=@PySem.wpAny_typeNameOf_keyiter
noncomputable def IF:=@List.getElem?_range
noncomputable def IG:=@List.length_reverse
noncomputable def IH:=@Array.toList_append
noncomputable def II:=@List.prefix_of_prefix_length_le
noncomputable def IJ:=@PySem.wpAny_getItem_str_slice
noncomputable def IK:=@Option.bind_eq_some_iff
noncomputable def IL:=@Bool.eq_iff_iff
noncomputable def IM:=@List.nodup_cons
noncomputable def IP:=@PySem.codeAny_builtin
noncomputable def IQ:=@List.getElem?_take
noncomputable def IS:=@List.getElem?_set_self
noncomputable def IT:=@Nat.lt_succ_of_lt
noncomputable def IU:=@decide_eq_true_eq
noncomputable def IV:=@List.length_singleton
noncomputable def IW:=@List.take_append_drop
noncomputable def IX:=@List.mem_append_left
noncomputable def IY:=@beq_iff_eq
noncomputable def IZ:=@PySem.call_meets
noncomputable def I_:=@PySem.Around.under_plainId
noncomputable def Ja:=@List.getElem?_append
noncomputable def Jb:=@List.reverse_reverse
noncomputable def Jc:=@List.range_eq_range'
noncomputable def Jd:=@Array.toArray_toList
noncomputable def Je:=@List.drop_length
noncomputable def Jf:=@List.mem_iff_getElem
noncomputable def Jg:=@PySem.wpAny_newList
noncomputable def Jh:=@List.dropWhile_cons
noncomputable def Ji:=@List.toList_toArray
noncomputable def Jj:=@Option.map_some
noncomputable def Jk:=@PyProof.Rows.get?_update_seq
noncomputable def Jl:=@PySem.W.KasT.kasWp_bind
noncomputable def Jm:=@List.mem_filterMap
noncomputable def Jn:=@Option.isSome_iff_exists
noncomputable def Jo:=@PySem.Obj.data_mapFields
noncomputable def Jp:=@List.prefix_iff_eq_take
noncomputable def Jq:=@PySem.wpAny_pyIter_enum
noncomputable def Jr:=@PySem.wpAny_dictEntries
noncomputable def Js:=@List.flatMap_cons
noncomputable def Jt:=@PySem.wpAny_pyNext_list_item
noncomputable def Ju:=@PySem.Heap.get?_update_other
noncomputable def Jv:=@List.pairwise_lt_range
noncomputable def Jw:=@List.dropWhile_sublist
noncomputable def Jx:=@List.getElem_cons_zero
noncomputable def Jy:=@PySem.wpAny_standAt
noncomputable def Jz:=@List.any_cons
noncomputable def J5:=@PySem.wpAny_attempt
noncomputable def J6:=@PyProof.Rows.listUpdate_at
noncomputable def J7:=@Nat.lt_succ_self
noncomputable def J8:=@beq_self_eq_true
noncomputable def J9:=@Nat.le_add_right
noncomputable def JA:=@List.take_succ_eq_append_getElem
noncomputable def JC:=@PySem.wpAny_pyNext_list_end
noncomputable def JD:=@PySem.Heap.get?_update_self
noncomputable def JE:=@if_true
noncomputable def JF:=@List.pairwise_reverse
noncomputable def JG:=@List.mem_iff_getElem?
noncomputable def JH:=@PySem.wpAny_isOneOf_keyiter
noncomputable def JI:=@List.eraseIdx_eq_take_drop_succ
noncomputable def JJ:=@List.getElem?_set_ne
noncomputable def JK:=@PySem.wpAny_execs_nil
noncomputable def JL:=@List.map_nil
noncomputable def JM:=@Nat.lt_trans
noncomputable def JN:=@PySem.wpAny_updateSeq_pair
noncomputable def JO:=@PyProof.Rows.listItems_at
noncomputable def JP:=@List.range_succ
noncomputable def JQ:=@PySem.post_val_or_str
noncomputable def JR:=@Nat.not_lt_zero
noncomputable def JS:=@List.length_zip
noncomputable def JT:=@Nat.pow_le_pow_right
noncomputable def JU:=@List.map_set
noncomputable def JV:=@List.length_dropLast
noncomputable def JW:=@Nat.min_eq_left
noncomputable def JX:=@List.filterMap_cons
noncomputable def JY:=@List.takeWhile_cons
noncomputable def JZ:=@List.reverse_append
noncomputable def J_:=@List.length_pos_iff
noncomputable def Ka:=@PySem.F.args_tuple_iterator_next_1
noncomputable def Kb:=@PySem.wpAny_setField
noncomputable def Kc:=@PySem.wpAny_fieldsOf
noncomputable def Ke:=@PySem.wpAny_ite_true
noncomputable def Kf:=@List.take_succ
noncomputable def Kg:=@PySem.tupleKind_room_in1
noncomputable def Kh:=@Array.append_empty
noncomputable def Ki:=@PySem.F.entry_tuple_iterator_next
noncomputable def Kj:=@Array.getD_eq_getD_getElem?
noncomputable def Kk:=@List.map_replicate
noncomputable def Kl:=@List.prefix_append
noncomputable def Km:=@Int.emod_lt_of_pos
noncomputable def Kn:=@PySem.Calls.Name_function_global
noncomputable def Ko:=@PySem.wpAny_letOwnedTupleGo_enum
noncomputable def Kp:=@PySem.wpAny_onRaise
noncomputable def Kq:=@bne_self_eq_false
noncomputable def Ks:=@PySem.typeIs_int
noncomputable def Kt:=@PySem.wpAny_binaryOp_repeat_ref
noncomputable def Ku:=@PySem.wpAny_rule
noncomputable def Kv:=@PySem.Calls.call_function_entry
noncomputable def Kw:=@List.extract_eq_take_drop
noncomputable def Kx:=@List.exists_mem_of_ne_nil
noncomputable def Ky:=@Nat.not_lt
noncomputable def Kz:=@Array.getElem?_eq_getElem
noncomputable def K0:=@PySem.wpAny_eqBool_int
noncomputable def K1:=@Nat.le_of_eq
noncomputable def K2:=@Nat.succ_mul
noncomputable def K4:=@List.all_eq_true
noncomputable def K6:=@PySem.wpAny_comprehension_free
noncomputable def K7:=@PySem.Heap.size_update
noncomputable def K8:=@Nat.sub_zero
noncomputable def K9:=@Array.toList_inj
noncomputable def KA:=@List.Pairwise.imp_of_mem
noncomputable def KC:=@List.perm_middle
noncomputable def KD:=@Nat.min_self
noncomputable def KG:=@List.map_snd_zip
noncomputable def KH:=@List.Perm.eq_of_pairwise
noncomputable def KI:=@Nat.min_eq_right
noncomputable def KJ:=@List.getElem?_replicate
noncomputable def KL:=@PySem.wpAny_pyNext_enum_itemD
noncomputable def KN:=@List.length_eq_zero_iff
noncomputable def KO:=@List.pairwise_singleton
noncomputable def KP:=@List.of_mem_zip
noncomputable def KQ:=@List.foldl_cons
noncomputable def KR:=@List.forIn_cons
noncomputable def KU:=@PySem.wpAny_loadPart'
noncomputable def KY:=@PySem.wpAny_dictEpoch
noncomputable def KZ:=@Int.emod_nonneg
noncomputable def La:=@PySem.Calls.callWith_builtin
noncomputable def Lb:=@PySem.wpAny_pyNext_enum_endD
noncomputable def Lc:=@Int.le_refl
noncomputable def Ld:=@List.length_eq_one_iff
noncomputable def Le:=@Array.getElem?_eq_none
noncomputable def Lf:=@PySem.fitsIndex_both
noncomputable def Lh:=@PySem.wpAny_newTuple
noncomputable def Lk:=@List.eq_nil_or_concat
noncomputable def Ll:=@List.countP_mono_left
noncomputable def Lm:=@List.dropLast_eq_take
noncomputable def Ln:=@PySem.typeIs_str
noncomputable def Lo:=@PySem.plainId_quiet
noncomputable def Lp:=@Nat.mul_assoc
noncomputable def Lq:=@List.map_take
noncomputable def Lr:=@PySem.codeAny_mono
noncomputable def Ls:=@PySem.seqIndex_neg
noncomputable def Lu:=@PySem.callType_new
noncomputable def Lv:=@PySem.wpAny_typeOf
noncomputable def Lz:=@Nat.zero_add
noncomputable def L0:=@List.map_map
noncomputable def L8:=@Nat.pow_succ
abbrev LA:=PySem.W.Frag
variable{K:LA}
abbrev Key:=Sum Int Str
noncomputable def gI:Key->Value->Bool
 |.inl k,v=>Value.isInt k v
 |.inr x,v=>Value.isStrOf x v
noncomputable def Fw(w:World):Key->Int
 |.inl k=>hashInt k
 |.inr x=>hashStr w x
theorem bH:∀{k:Key} {v:Value},gI k v=true->(∃i t,k=Sum.inl i/\v=Value.int i t)\/(∃x t,k=Sum.inr x/\v=Value.str x t)
 |.inl i,v,h=>by
  obtain⟨t,e⟩:=Value.isInt_shape (k:=i) (v:=v) h;exact .inl ⟨i,t,rfl,e⟩
 |.inr x,v,h=>by
  obtain⟨t,e⟩:=Value.isStrOf_shape (x:=x) (v:=v) h;exact .inr ⟨x,t,rfl,e⟩
theorem rV(i:Int)(t:Tok):gI (.inl i) (.int i t)=true:=by simp[gI,Value.isInt]
theorem sI(x:Str)(t:Tok):gI (.inr x) (.str x t)=true:=by simp[gI,Value.isStrOf]
theorem Bd(a b:Int):decide ((Sum.inl a:Key)=Sum.inl b)=(a == b):=by
 by_cases e:a=b
 ·subst e;simp
 ·have h:¬ (Sum.inl a:Key)=Sum.inl b:=λq=>e (Sum.inl.inj q);rw[GJ h];exact (Hb.mpr e).symm
theorem By(a b:Str):decide ((Sum.inr a:Key)=Sum.inr b)=decide (a=b):=by
 by_cases e:a=b
 ·subst e;simp
 ·have h:¬ (Sum.inr a:Key)=Sum.inr b:=λq=>e (Sum.inr.inj q);rw[GJ h,GJ e]
theorem B4(a:Int)(b:Str):decide ((Sum.inl a:Key)=Sum.inr b)=false:=GJ (λq=>nomatch q)
theorem BD(a:Str)(b:Int):decide ((Sum.inr a:Key)=Sum.inl b)=false:=GJ (λq=>nomatch q)
noncomputable def bF(prog:Program)(w:World):PySem.KeyKind prog w Key where
 is:=gI
 hash:=Fw w
 inj:=λv a b ha hb=>by
  rcases bH ha with ⟨i,t,rfl,rfl⟩|⟨x,t,rfl,rfl⟩
  ·rcases bH hb with ⟨j,u,rfl,e⟩|⟨y,u,rfl,e⟩
   ·injection e with e1 _;rw[e1]
   ·exact nomatch e
  ·rcases bH hb with ⟨j,u,rfl,e⟩|⟨y,u,rfl,e⟩
   ·exact nomatch e
   ·injection e with e1 _;rw[e1]
 byValue:=λk v h=>by
  rcases bH h with ⟨i,t,rfl,rfl⟩|⟨x,t,rfl,rfl⟩<;>rfl
 pyHash:=λhv h=>by
  rcases bH hv with ⟨i,t,rfl,rfl⟩|⟨x,t,rfl,rfl⟩
  ·exact wpAny_pyHash_int h
  ·exact wpAny_pyHash_str h
 eqBool:=λhu hv h=>by
  rcases bH hu with ⟨i,t,rfl,rfl⟩|⟨x,t,rfl,rfl⟩
  ·rcases bH hv with ⟨j,u,rfl,rfl⟩|⟨y,u,rfl,rfl⟩
   ·rw[Bd] at h;exact K0 h
   ·rw[B4] at h;exact SeqAt.EqAt.int_str i t y u _ _ _ _ h
  ·rcases bH hv with ⟨j,u,rfl,rfl⟩|⟨y,u,rfl,rfl⟩
   ·rw[BD] at h;exact SeqAt.EqAt.str_int x t j u _ _ _ _ h
   ·rw[By] at h;exact wpAny_eqBool_str h
 «strs»:=λk x t v h=>by
  rcases bH h with ⟨i,u,rfl,e⟩|⟨y,u,rfl,e⟩
  ·exact nomatch e
  ·injection e with e1 _
   subst e1
   cases v<;>rfl
theorem nW(prog:Program)(w:World)(i:Int)(t:Tok):(bF prog w).is (.inl i) (.int i t)=true:=rV i t
theorem nH(prog:Program)(w:World)(x:Str)(t:Tok):(bF prog w).is (.inr x) (.str x t)=true:=sI x t
inductive V where
 |aP|bl (b:Bool)|int (i:Int)|str (x:Str)|oG (b:Array UInt8)|B2 (b:UInt64)|ref (a:Addr)|ty (n:String)
 deriving DecidableEq
variable{xs:List V}
noncomputable def RelV:V->Value->Prop
 |.aP,u=>u=Value.none
 |.bl b,u=>u=Value.bool b
 |.int i,u=>∃t,u=Value.int i t
 |.str x,u=>∃t,u=Value.str x t
 |.oG b,u=>∃t,u=Value.bytes b t
 |.B2 b,u=>∃t,u=Value.float b t
 |.ref a,u=>u=Value.ref a
 |.ty n,u=>u=Value.type n
abbrev Vals:List V->List Value->Prop:=Paired RelV
theorem Vals.length(r:Vals xs us):xs.length=us.length:=Paired.length r
theorem Vals.get:∀{xs:List V} {us:List Value} {i:Nat} {x:V},Vals xs us->xs[i]?=some x->∃u,us[i]?=some u/\RelV x u
 |_,_,_,_,.nil,e=>by simp at e
 |_,_,0,_,.cons r _,e=>by simp at e;subst e;exact⟨_,rfl,r⟩
 |_,_,i+1,x,.cons _ t,e=>by
  obtain⟨u,h1,h2⟩:=Vals.get (i:=i) (x:=x) t (by simpa using e)
  exact⟨u,by simpa using h1,h2⟩
theorem Vals.set{x:V}(r:RelV x u):∀{xs:List V} {us:List Value} (i:Nat),Vals xs us->Vals (xs.set i x) (us.set i u)
 |_,_,_,.nil=>.nil
 |_,_,0,.cons _ t=>.cons r t
 |_,_,i+1,.cons q t=>.cons q (Vals.set r i t)
theorem Vals.append:∀{xs ys:List V} {us ws:List Value},Vals xs us->Vals ys ws->Vals (xs++ys) (us++ws)
 |_,_,_,_,.nil,s=>s
 |_,_,_,_,.cons r t,s=>.cons r (Vals.append t s)
theorem Vals.take:∀{xs:List V} {us:List Value} (n:Nat),Vals xs us->Vals (xs.take n) (us.take n)
 |_,_,0,_=>.nil
 |_,_,_+1,.nil=>.nil
 |_,_,n+1,.cons r t=>.cons r (Vals.take n t)
theorem Vals.drop:∀{xs:List V} {us:List Value} (n:Nat),Vals xs us->Vals (xs.drop n) (us.drop n)
 |_,_,0,r=>r
 |_,_,_+1,.nil=>.nil
 |_,_,n+1,.cons _ t=>Vals.drop n t
noncomputable def fV:Option V->Option Value->Prop
 |some v,some u=>RelV v u
 |none,none=>True
 |_,_=>False
noncomputable def KV{κ:Type}:List (κ×V)->List (κ×Value)->Prop:=Paired λ(p:κ×V) (q:κ×Value)=>p.1=q.1/\RelV p.2 q.2
noncomputable def kV:Key->V
 |.inl i=>.int i
 |.inr x=>.str x
inductive HO where
 |lst (xs:List V)
 |tup (xs:List V)
 |dK (kvs:List (Key×V))|dT (kvs:List (List Key×V))
 |set (S:Int->Bool) (n:Nat)
 |ins (C dx:Addr) (fs:List (Str×V))
 |own (x:Addr)
 |xd (fs:List (Str×V))
 |met (f x:Addr)
 |m_ (lo hi:Int)
 |ik (o:Obj) (u:HO)
 |vT (ps:Array Value)
 |ext (φ:Heap->Prop)
variable{o:HO}
abbrev Hp:=Addr->Option HO
variable{H:Hp}
noncomputable def upd(H:Hp)(a:Addr)(o:HO):Hp:=λb=>if b=a then some o else H b
theorem aa:upd H a o a=some o:=by unfold upd;rw[Gn rfl]
theorem ae(h:b≠a):upd H a o b=H b:=by unfold upd;rw[Gj h]
theorem kX{u:HO}:upd (upd H a o) a u=upd H a u:=by
 funext b;unfold upd;split<;>rfl
theorem DO{u:HO}(h:H a=some o)(h':H b=some u)(d:o≠u):a≠b:=by
 intro e;subst e;rw[h] at h';exact d (Option.some.inj h')
theorem ai(h:H a=some o)(h':H b=none):a≠b:=by
 intro e;subst e;rw[h] at h';cases h'
noncomputable def FC:List Value->Str
 |.str q _::_=>q
 |_=>Str.ofString ""
noncomputable def we(ps:Array Value):Str:=FC ps.toList
noncomputable def Ae(H:Hp)(q:Str)(cv:Value):Prop:=∃(c:Addr) (oc:Obj) (vs:Array Value) (t:Tok),cv=.ref c/\H c=some (.ik oc (.own c))/\oc.data=.fields vs/\vs[1]?=some (.str q t)
noncomputable def dM(h:Heap)(a:Addr)(items:Array Value):Prop:=∃o:Obj,h.get? a=some o/\o.cls=.type "tuple"/\∃n,o.data=.seq items n/\o.dict=none
theorem dM.to(x:dM h a items):IsTup h a items:=let ⟨o,e,c,n,d,_⟩:=x;⟨o,e,c,n,d⟩
theorem dM.new(h:Heap)(items:Array Value):dM (h.push {cls:=.type "tuple",data:=.seq items}) h.objs.size items:=⟨_,Gw h rfl,rfl,_,rfl,rfl⟩
theorem dM.lt(x:dM h a items):a<h.objs.size:=x.to.lt
section
variable (P:Program) (w:World)
noncomputable def bf(H:Hp)(h:Heap)(a:Addr):HO->Prop
 |.lst xs=>xs.length<=sizeLine/\∃(its:List Value) (n:Nat),Vals xs its/\h.get? a=some {cls:=.type "list",data:=.seq its.toArray n}
 |.tup xs=>xs.length<=sizeLine/\∃its:List Value,Vals xs its/\dM h a its.toArray
 |.dK kvs=>kvs.length<=sizeLine/\(a == sysModules)=false/\∃vs,KV kvs vs/\h.DictOf (bF P w) a vs
 |.dT kvs=>kvs.length<=sizeLine/\(a == sysModules)=false/\∃xs:List (List Key×Addr×Value),
   Paired (λ(p:List Key×V) (q:List Key×Addr×Value)=>p.1=q.1/\H q.2.1=some (.tup (p.1.map kV))/\RelV p.2 q.2.2) kvs xs /\
   ∃o es ep,h.get? a=some o/\o.ExactDict/\o.data=.dict es ep/\es.toList=xs.map (entryOfKey (tupleKind (bF P w)))/\(xs.map (·.1)).Nodup
 |.set S n=>h.SetOf (intKind P w) a S n
 |.ins C dx fs=>H dx=some (.own a)/\fs.length<=1000/\dx≠a/\h.get? a=some (PySem.W.instObj C dx) /\
   ∃mA,h.Ns1 dx mA/\(∀f,fV (fs.lookup f) (mA f))/\PySem.Within mA (fs.map (·.1))
 |.own _=>∃o,h.get? a=some o
 |.xd fs=>∃mA,h.Ns1 a mA/\∀f,fV (fs.lookup f) (mA f)
 |.m_ lo hi=>∃t u v,h.get? a=some {cls:=.type "range",data:=.fields #[.int lo t,.int hi u,.int 1 v]}
 |.ik o u=>h.get? a=some o/\bf H h a u
 |.vT ps=>∃qs:Array Value,h.get? a=some {cls:=.none,data:=.fields qs}/\TriplesOk qs.toList/\∀pos cv,codeAmong pos qs.toList=some cv->Ae H (we ps) cv
 |.met f x=>h.get? a=some (PySem.W.methodObj (.ref f) (.ref x))
 |.ext φ=>φ h/\(∃o,h.get? a=some o)/\∀h1 h2:Heap,φ h1->(∀o,h1.get? a=some o->h2.get? a=some o)->φ h2
noncomputable def gy(H:Hp)(h:Heap):Prop:=∀a o,H a=some o->bf P w H h a o
end
section
variable {P:Program} {w:World} {H H':Hp} {h h':Heap} {a:Addr} {o:HO}
theorem bf.lt(x:bf P w H h a o):a<h.objs.size:=by
 cases o with
 |lst xs=>obtain⟨_,_,_,_,e⟩:=x;exact Gz e
 |tup xs=>obtain⟨_,_,_,p⟩:=x;exact p.lt
 |dK kvs=>obtain⟨_,_,_,_,o,_,_,e,_⟩:=x;exact Gz e
 |dT kvs=>obtain⟨_,_,_,_,o,_,_,e,_⟩:=x;exact Gz e
 |set S n=>obtain⟨o,_,_,_,e,_⟩:=x;exact Gz e
 |ins C dx fs=>obtain⟨_,_,_,e,_⟩:=x;exact Gz e
 |own y=>obtain⟨_,e⟩:=x;exact Gz e
 |xd fs=>obtain⟨_,⟨_,_,_,e,_⟩,_⟩:=x;exact Gz e
 |m_ lo hi=>obtain⟨_,_,_,e⟩:=x;exact Gz e
 |ik ob u=>obtain⟨e,_⟩:=x;exact Gz e
 |vT ps=>obtain⟨_,e,_⟩:=x;exact Gz e
 |met f y=>exact Gz (show h.get? a=some _ from x)
 |ext φ=>obtain⟨_,⟨_,e⟩,_⟩:=x;exact Gz e
theorem Paired.wN{α β:Type}{F G:α->β->Prop}:∀{l₁:List α} {l₂:List β},Paired F l₁ l₂->(∀a b,F a b->G a b)->Paired G l₁ l₂
 |_,_,.nil,_=>.nil
 |_,_,.cons r t,f=>.cons (f _ _ r) (Paired.wN t f)
theorem bf.me(x:bf P w H h a o)(k:∀b u,(b=a\/H b=some (.own a))->h.get? b=some u->h'.get? b=some u)
  (ho:∀b,H b=some (.own a)->H' b=some (.own a)) (ht:∀b xs,H b=some (.tup xs)->H' b=some (.tup xs)) (hz:∀b o u,H b=some (.ik o u)->H' b=some (.ik o u)):bf P w H' h' a o:=by
 induction o with
 |lst xs=>obtain⟨z,its,n,r,e⟩:=x;exact⟨z,its,n,r,k _ _ (.inl rfl) e⟩
 |tup xs=>obtain⟨z,its,r,ob,e,c⟩:=x;exact⟨z,its,r,ob,k _ _ (.inl rfl) e,c⟩
 |dK kvs=>obtain⟨z,y,vs,r,ob,es,ep,e,c⟩:=x;exact⟨z,y,vs,r,ob,es,ep,k _ _ (.inl rfl) e,c⟩
 |dT kvs =>
  obtain⟨z,y,xs,r,ob,es,ep,e,c⟩:=x;exact⟨z,y,xs,Paired.wN r λp q z=>⟨z.1,ht _ _ z.2.1,z.2.2⟩,ob,es,ep,k _ _ (.inl rfl) e,c⟩
 |set S n=>obtain⟨ob,es,ep,t,e,c⟩:=x;exact⟨ob,es,ep,t,k _ _ (.inl rfl) e,c⟩
 |ins C dx fs =>
  obtain⟨d,z,ne,e,mA,⟨od,es,ep,e2,c⟩,r⟩:=x;exact⟨ho _ d,z,ne,k _ _ (.inl rfl) e,mA,⟨od,es,ep,k _ _ (.inr d) e2,c⟩,r⟩
 |own y=>obtain⟨ob,e⟩:=x;exact⟨ob,k _ _ (.inl rfl) e⟩
 |xd fs=>obtain⟨mA,⟨od,es,ep,e,c⟩,r⟩:=x;exact⟨mA,⟨od,es,ep,k _ _ (.inl rfl) e,c⟩,r⟩
 |m_ lo hi=>obtain⟨t,u,v,e⟩:=x;exact⟨t,u,v,k _ _ (.inl rfl) e⟩
 |ik ob u ih=>obtain⟨e,q⟩:=x;exact⟨k _ _ (.inl rfl) e,ih q⟩
 |vT ps =>
  obtain⟨qs,e,t,f⟩:=x;exact⟨qs,k a _ (.inl rfl) e,t,λpos cv q=>let ⟨c,oc,vs,t',e1,e2,e3⟩:=f pos cv q;⟨c,oc,vs,t',e1,hz _ _ _ e2,e3⟩⟩
 |met f y =>
  have e:h.get? a=some (PySem.W.methodObj (.ref f) (.ref y)):=x;show h'.get? a=some (PySem.W.methodObj (.ref f) (.ref y));exact k a _ (.inl rfl) e
 |ext φ=>obtain⟨p,⟨o,e⟩,st⟩:=x;exact⟨st _ _ p λo q=>k _ _ (.inl rfl) q,⟨o,k _ _ (.inl rfl) e⟩,st⟩
theorem gy.lt(x:gy P w H h)(e:H a=some o):a<h.objs.size:=(x a o e).lt
theorem gy.fresh(x:gy P w H h)(e:h.objs.size<=a):H a=none:=by
 cases q:H a with
 |none=>rfl
 |some u=>exact absurd (GK (x.lt q) e) (Ic _)
theorem gy.kept(x:gy P w H h)(k:∀b u,h.get? b=some u->h'.get? b=some u):gy P w H h':=λa o e =>
 (x a o e).me (λb u _ q=>k b u q) (λ_ q=>q) (λ_ _ q=>q) λ_ _ _ q=>q
theorem gy.laid(x:gy P w H h)(k:∀b u,h.get? b=some u->h'.get? b=some u)(hp:h.objs.size<=a)(new:bf P w (upd H a o) h' a o):gy P w (upd H a o) h':=λb u e=>by
 have hn:=x.fresh hp;by_cases hb:b=a
 ·subst hb;rw[aa] at e;cases e;exact new
 ·rw[ae hb] at e;exact (x b u e).me (λc v _ q=>k c v q) (λc q=>by rw[ae (ai q hn)];exact q) (λc xs q=>by rw[ae (ai q hn)];exact q) λc _ _ q=>by rw[ae (ai q hn)];exact q
end
noncomputable def Rd(H:Hp)(a:Addr)(u:HO):Prop:=H a=some u\/∃o,H a=some (.ik o u)
theorem Rd.ok{u:HO}(r:Rd H a u)(x:gy P w H h):bf P w H h a u:=by
 rcases r with r|⟨o,r⟩
 ·exact x a u r
 ·obtain⟨_,q⟩:=x a _ r;exact q
noncomputable def Dh:Option HO->Prop
 |some (.lst _)=>True
 |some (.dK _)=>True
 |some (.dT _)=>True
 |some (.set _ _)=>True
 |some (.ins _ _ _)=>True
 |some (.ext _)=>True
 |_=>False
section
variable {P:Program} {w:World} {H:Hp} {h h':Heap} {x e:Addr} {o':HO}
theorem gy.write(ok:gy P w H h)(mu:Dh (H x))(he:e=x\/H e=some (.own x))(k:∀b u,b≠e->h.get? b=some u->h'.get? b=some u)(heo:∃u,h'.get? e=some u)
  (new:bf P w (upd H x o') h' x o'):gy P w (upd H x o') h':=λb u q=>by
 have nown:∀c y,H c=some (.own y)->c≠x:=λc y r z=>by subst z;rw[r] at mu;exact mu
 have ntup:∀c xs,H c=some (.tup xs)->c≠x:=λc xs r z=>by subst z;rw[r] at mu;exact mu
 have nfrz:∀c o1 u1,H c=some (.ik o1 u1)->c≠x:=λc _ _ r z=>by subst z;rw[r] at mu;exact mu
 by_cases hb:b=x
 ·subst hb;rw[aa] at q;cases q;exact new
 ·rw[ae hb] at q;by_cases hbe:b=e
  ·have q':H b=some (.own x):=by
    rcases he with z|z
    ·exact absurd (hbe.trans z) hb
    ·rw[hbe];exact z
   rw[q] at q';cases q';obtain⟨v,hv⟩:=heo;exact⟨v,by rw[hbe];exact hv⟩
  ·refine (ok b u q).me (λc v hc r=>k c v ?_ r) (λc r=>by rw[ae (nown c b r)];exact r) (λc xs r=>by rw[ae (ntup c xs r)];exact r) λc _ _ r=>by rw[ae (nfrz c _ _ r)];exact r
   rcases hc with rfl|hc
   ·exact hbe
   ·rintro rfl;rcases he with z|z
    ·exact nown c b hc z
    ·rw[hc] at z;cases z;exact hb rfl
end
structure Un (fs ex:List Addr) (H H':Hp) (h h':Heap):Prop where
 keep:∀b o,h.get? b=some o->H b=none->b∉fs->b∉ex->h'.get? b=some o
 slot:∀b o,h.get? b=some o->H b=none->b∈fs->b∉ex->∃sl,h'.get? b=some {o with slots:=sl}
 free:∀b o,h.get? b=some o->H b=none->b∉ex->H' b=none
 there:∀b o,h.get? b=some o->b∉ex->∃o',h'.get? b=some o'
 nS:∀b xs,H b=some (.tup xs)->H' b=some (.tup xs)
 lH:∀b o u,H b=some (.ik o u)->H' b=some (.ik o u)
 jR:∀b ps,H b=some (.vT ps)->∃more,H' b=some (.vT (ps++more))
section
variable {fs fs' ex ex':List Addr} {H H1 H2:Hp} {h h1 h2 h':Heap} {a x e:Addr} {o:HO}
theorem Un.any(u:Un fs ex H H1 h h1){ob:Obj}(q:h.get? b=some ob)(n:H b=none)(hx:b∉ex):∃sl,h1.get? b=some {ob with slots:=sl}:=by
 by_cases hb:b∈fs
 ·exact u.slot b ob q n hb hx
 ·exact⟨ob.slots,u.keep b ob q n hb hx⟩
theorem Un.kept(k:∀b u,h.get? b=some u->h'.get? b=some u):Un fs ex H H h h':=
 ⟨λb ob q _ _ _=>k b ob q,λb ob q _ _ _=>⟨ob.slots,k b ob q⟩,λ_ _ _ n _=>n,λb ob q _=>⟨ob,k b ob q⟩,λ_ _ q=>q,λ_ _ _ q=>q,λ_ ps q=>⟨#[],by rw[q];simp⟩⟩
theorem Un.refl:Un fs ex H H h h:=Un.kept λ_ _ q=>q
theorem Un.laid(k:∀b u,h.get? b=some u->h'.get? b=some u)(hp:h.objs.size<=a)(hn:H a=none):Un fs ex H (upd H a o) h h' where
 keep:=λb u q _ _ _=>k b u q
 slot:=λb u q _ _ _=>⟨u.slots,k b u q⟩
 free:=λb u q n _=>by rw[ae (GG (GK (Gz q) hp))];exact n
 there:=λb u q _=>⟨u,k b u q⟩
 nS:=λb xs q=>by rw[ae (ai q hn)];exact q
 lH:=λb u xs q=>by rw[ae (ai q hn)];exact q
 jR:=λb ps q=>⟨#[],by rw[ae (ai q hn),q];simp⟩
theorem Un.write(mu:Dh (H x))(he:e=x\/H e=some (.own x))(k:∀b u,b≠e->h.get? b=some u->h'.get? b=some u)(heo:∃u,h'.get? e=some u):Un fs ex H (upd H x o) h h':=by
 have hx:∀b,H b=none->b≠x:=λb n z=>by subst z;rw[n] at mu;exact mu
 have hb:∀b,H b=none->b≠e:=λb n z=>by
  subst z;rcases he with r|r
  ·exact hx b n r
  ·rw[n] at r;cases r
 have hm:∀b u,H b=some u->¬ Dh (some u)->b≠x:=λb u q nm z=>by subst z;rw[q] at mu;exact nm mu
 refine⟨λb u q n _ _=>k b u (hb b n) q,λb u q n _ _=>⟨u.slots,k b u (hb b n) q⟩,λb u q n _=>by rw[ae (hx b n)];exact n,λb u q _=>?_,
  λb xs q=>by rw[ae (hm b _ q λz=>z)];exact q,λb u xs q=>by rw[ae (hm b _ q λz=>z)];exact q,λb ps q=>⟨#[],by rw[ae (hm b _ q λz=>z),q];simp⟩⟩
 by_cases hbe:b=e
 ·subst hbe;exact heo
 ·exact⟨u,k b u hbe q⟩
end
noncomputable def Dw(h:Heap)(H:Hp):List Addr:=(List.range h.objs.size).filter λa=>(H a).isSome
noncomputable def jT(h:Heap)(H:Hp):Heap:=PySem.W.hideAll h (Dw h H)
theorem tT(h:Heap)(H:Hp):(jT h H).objs.size=h.objs.size:=PySem.W.hideAll_size _ _
theorem gO{o:Obj}(e:h.get? b=some o)(n:H b=none):(jT h H).get? b=some o:=
 PySem.W.hideAll_get _ e λhm=>by
  have q:(H b).isSome=true:=(List.mem_filter.mp hm).2;rw[n] at q;simp at q
theorem zk{o:Obj}(e:(jT h H).get? b=some o):h.get? b=some o/\H b=none:=by
 have e':h.get? b=some o:=PySem.W.of_hideAll (Dw h H) e;refine⟨e',?_⟩
 cases q:H b with
 |none=>rfl
 |some x =>
  have hm:b∈Dw h H:=List.mem_filter.mpr ⟨HK.mpr (Gz e'),by simp[q]⟩
  have z:(jT h H).get? b=none:=PySem.W.hideAll_none (Dw h H) hm;rw[z] at e;cases e
noncomputable def yb(g h:Heap)(L:Addr):List (Addr×Obj):=(List.range h.objs.size).filterMap λa=>if a=L\/(g.get? a).isSome=true then none else (h.get? a).map λo=>(a,o)
noncomputable def rest(g h:Heap)(L d:Addr):List (Addr×Obj):=(yb g h L).filter λp=>decide (p.1≠d)
noncomputable def dH:List Str:=["by_worth","by_weight","code_of"]
noncomputable def bS(K:LA):List (Addr×Addr×Str):=dH.filterMap λx=>(PySem.W.tabIn K x).map λp=>(p.1,p.2,(x++".<locals>.")++"<lambda>")
noncomputable def TabsOk(K:LA)(H:Hp):Prop:=∀t∈bS K,∃more,H t.2.1=some (.vT (#[.str t.2.2 0]++more))
theorem TabsOk.un{fs ex:List Addr}{H1:Hp}{h1:Heap}(x:TabsOk K H)(u:Un fs ex H H1 h h1):TabsOk K H1:=λt ht=>by
 obtain⟨m,e⟩:=x t ht;obtain⟨m2,e2⟩:=u.jR _ _ e;exact⟨m++m2,by rw[e2,Array.append_assoc]⟩
noncomputable def Cz(mg:Str->Option Value)(h:Heap):Prop:=∃bm ob,mg "__builtins__"=some (.ref bm)/\bm≠builtinsNs/\h.get? bm=some ob/\ob.cls=.type "module"/\ob.dict=some builtinsNs/\ob.data=.plain
structure Mod (K:LA) (mg:Str->Option Value) (base:Heap):Prop where
 DG:K.In base
 glob:base.Ns mainGlobals mg
 blt:∃mb,base.Ns builtinsNs mb/\∀x:Str,x≠"__name__"->mb x=bootBuiltins x
 nolimit:base.NoLimit
 codes:∀t∈bS K,PySem.W.CodeHd base t.1 t.2.1
 bm:Cz mg base
structure Cx where
 prog:Program
 w:World
 K:LA
 mg:Str->Option Value
 base:Heap
 A:Around
 N:List Str
 s₀:Shared
 H₀:Hp
 env:Env
 outer:List Env
 stack:List Env
 ex:List Addr
 fn:Str->Bool
 calm:Bool
 pn:List (Addr×Obj)
 xe:Value->Shared->Prop
variable{X:Cx}
noncomputable def wx(l:List Env):List Addr:=l.filterMap (·.frame)
abbrev Cx.fs(X:Cx):List Addr:=wx X.outer
noncomputable def Ek(sc:Scope)(x:Str):Prop:=sc.names.lookup x=some .local\/sc.names.lookup x=some .cell\/sc.names.lookup x=some .free
noncomputable def Loc(sc:Scope)(x:Str):Prop:=sc.names.lookup x=some .local\/sc.names.lookup x=some .cell
noncomputable def Look(env:Env)(h:Heap)(m:Str->Option Value)(x:Str)(u:Value):Prop:=
 (env.kindOf x=some .local/\m x=some u)\/((env.kindOf x=some .cell\/env.kindOf x=some .free)/\∃c,env.cells.lookup x=some c/\h.IsCell c (some u))
structure Cx.Ok (X:Cx):Prop where
 mod:Mod X.K X.mg X.base
 kind:X.env.scope.kind=.function
 glob:X.env.globals=mainGlobals
 blt:X.env.builtins=builtinsNs
 above:X.s₀.heap.objs.size<=X.env.locals
 inj:∀x y c,X.env.cells.lookup x=some c->X.env.cells.lookup y=some c->x=y
 has:∀x,(X.env.kindOf x=some .cell\/X.env.kindOf x=some .free)->∃c,X.env.cells.lookup x=some c
 CP:∀x c,X.fn x=true->X.env.cells.lookup x=some c->X.s₀.heap.objs.size<=c
 hd:X.calm=true->X.A.handled=none
 frames:X.A.frames=some X.stack
 E6:X.stack=X.outer\/(X.stack=X.env::X.outer/\X.env.frame=some X.env.locals)
 FQ:∀b∈X.ex,b≠X.env.locals/\∀x c,X.env.cells.lookup x=some c->c≠b
 bs:∀b o,X.base.get? b=some o->X.s₀.heap.get? b=some o/\X.H₀ b=none
 xD:X.base.objs.size<=X.s₀.heap.objs.size
 v5:∀b o,X.base.get? b=some o->b∉X.ex
 y6:∀b∈X.ex,b∉X.fs
 iF:X.s₀.heap.FunFrames X.base X.outer
 Bi:∀b∈X.fs,X.H₀ b=none
 tabs:TabsOk X.K X.H₀
structure Inv (X:Cx) (pins:List (Addr×Obj)) (σ:List (Option V)) (H:Hp) (s:Shared):Prop where
 ok:X.Ok
 os:s.os=X.s₀.os
 bare:AllBare s.gens
 base:Un X.fs X.ex X.H₀ H X.s₀.heap s.heap
 loc:∃m,s.heap.Ns X.env.locals m/\∀(i:Nat) (x:Str) (v:V),X.N[i]?=some x->σ[i]?=some (some v)->Ek X.env.scope x->∃u,RelV v u/\Look X.env s.heap m x u
 cell:∀x c,X.env.cells.lookup x=some c->∃v,s.heap.IsCell c v
 free:H X.env.locals=none
 fk:∀x c,X.env.cells.lookup x=some c->H c=none
 pin:∀p∈X.pn++pins,s.heap.get? p.1=some p.2/\H p.1=none/\p.1≠X.env.locals/\p.1∉X.fs/\∀v,p.2.data≠.cell v
 aU:gy X.prog X.w H s.heap
 len:σ.length=X.N.length
section
variable {X:Cx} {pins:List (Addr×Obj)} {σ:List (Option V)} {H H':Hp} {s:Shared} {h':Heap}
theorem Cx.Ok.FE(ok:X.Ok){o:Obj}(e:X.base.get? b=some o):b∉X.fs:=λhb=>by
 have:=(ok.iF.mem hb).1;rw[e] at this;cases this
theorem Inv.bs(I:Inv X pins σ H s):∀b o,X.base.get? b=some o->s.heap.get? b=some o/\H b=none:=λb o e =>
 ⟨I.base.keep b o (I.ok.bs b o e).1 (I.ok.bs b o e).2 (I.ok.FE e) (I.ok.v5 b o e),I.base.free b o (I.ok.bs b o e).1 (I.ok.bs b o e).2 (I.ok.v5 b o e)⟩
theorem Inv.bk(I:Inv X pins σ H s):∀b o,X.base.get? b=some o->s.heap.get? b=some o:=λb o e=>(I.bs b o e).1
theorem Inv.mod(I:Inv X pins σ H s):Mod X.K X.mg X.base:=I.ok.mod
theorem Inv.gP(I:Inv X pins σ H s):X.K.In s.heap:=I.ok.mod.DG.keeps I.bk
theorem Inv.nolimit(I:Inv X pins σ H s):s.heap.NoLimit:=I.ok.mod.nolimit.keeps I.bk
theorem Inv.lt(I:Inv X pins σ H s):X.env.locals<s.heap.objs.size:=let ⟨_,hn,_⟩:=I.loc;hn.lt
theorem Inv.sz(I:Inv X pins σ H s):X.s₀.heap.objs.size<=s.heap.objs.size:=Gr I.ok.above (Iz I.lt)
theorem Inv.DM(I:Inv X pins σ H s)(h:s.heap.objs.size<=a):a∉X.fs:=λhb=>by
 obtain⟨_,o,ho,_⟩:=I.ok.iF.mem hb;exact absurd (GK (Gz ho) (Gr I.sz h)) (Ic _)
theorem Inv.B3(I:Inv X pins σ H s):∀x c,X.env.cells.lookup x=some c->c≠X.env.locals:=λx c e z=>by
 obtain⟨v,o,ho,hd⟩:=I.cell x c e;obtain⟨m,⟨o',es,ep,ho',hd',_⟩,_⟩:=I.loc;rw[z,ho'] at ho;cases ho;rw[hd'] at hd;cases hd
theorem Inv.iF(I:Inv X pins σ H s):s.heap.FunFrames X.base X.outer:=by
 have all:∀(l:List Env),(∀b∈wx l,b∈X.fs)->X.s₀.heap.FunFrames X.base l->s.heap.FunFrames X.base l:=by
  intro l
  induction l with
  |nil=>intro _ _;trivial
  |cons env r ih =>
   intro hs hl;obtain⟨hk,⟨L,o,hf,hn,ho,hd⟩,hr⟩:=hl;have hL:L∈X.fs:=hs L (by unfold wx;rw[JX,hf];exact GD)
   obtain⟨sl,e⟩:=I.base.slot L o ho (I.ok.Bi L hL) hL λz=>I.ok.y6 L z hL;exact⟨hk,⟨L,_,hf,hn,e,hd⟩,ih (λb hb=>hs b (by unfold wx;rw[JX,hf];exact GC _ hb)) hr⟩
 exact all X.outer (λ_ hb=>hb) I.ok.iF
theorem Inv.stack(I:Inv X pins σ H s):s.heap.FunFrames X.base X.stack:=by
 rcases I.ok.E6 with e|⟨e,hf⟩
 ·rw[e];exact I.iF
 ·rw[e];obtain⟨m,hn,_⟩:=I.loc;refine .cons (by rw[I.ok.kind];decide) hf hn ?_ I.iF
  exact Heap.get?_none_of_le (Gr I.ok.xD I.ok.above)
theorem Inv.lE(I:Inv X pins σ H s):∀b∈wx X.stack,b∈X.env.locals::X.fs:=λb hb=>by
 rcases I.ok.E6 with e|⟨e,hf⟩
 ·rw[e] at hb;exact GC _ hb
 ·rw[e] at hb;unfold wx at hb;rw[JX,hf] at hb;exact hb
theorem Inv.ma(I:Inv X pins σ H s):∀b∈wx X.stack,H b=none:=λb hb=>by
 rcases Gs.mp (I.lE b hb) with e|hb
 ·rw[e];exact I.free
 ·obtain⟨_,o,ho,_⟩:=I.ok.iF.mem hb;exact I.base.free b o ho (I.ok.Bi b hb) λz=>I.ok.y6 b z hb
theorem Inv.step{t':Nat}{d':Drawn}(I:Inv X pins σ H s)
  (hch:∀b∈ch,(b∈X.ex\/X.s₀.heap.objs.size<=b)/\b≠X.env.locals/\(∀x c,X.env.cells.lookup x=some c->c≠b)/\∀p∈X.pn++pins,p.1≠b)
  (keep:∀b o,b≠X.env.locals->b∉X.fs->b∉ch->s.heap.get? b=some o->H b=none->h'.get? b=some o)
  (slot:∀b o,b≠X.env.locals->b∈X.fs->b∉ch->s.heap.get? b=some o->H b=none->∃sl,h'.get? b=some {o with slots:=sl}) (free:∀b o,b∉ch->s.heap.get? b=some o->H b=none->H' b=none)
  (there:∀b o,b∉ch->s.heap.get? b=some o->∃o',h'.get? b=some o')
  (nS:∀b xs,H b=some (.tup xs)->H' b=some (.tup xs)) (lH:∀b o u,H b=some (.ik o u)->H' b=some (.ik o u)) (jR:∀b ps,H b=some (.vT ps)->∃more,H' b=some (.vT (ps++more)))
  (ns:∀m,s.heap.Ns X.env.locals m->h'.Ns X.env.locals m) (aU:gy X.prog X.w H' h') (hg:AllBare g') :
  Inv X pins σ H' {s with heap:=h',gens:=g',drawn:=d',toks:=t'}:=by
 have neL:∀b o,X.s₀.heap.get? b=some o->b≠X.env.locals:=λb o e=>GG (GK (Gz e) I.ok.above);have neC:∀b o,X.s₀.heap.get? b=some o->b∉X.ex->b∉ch:=λb o e hx hb=>by
  rcases (hch b hb).1 with z|z
  ·exact hx z
  ·exact absurd (GK (Gz e) z) (Ic _)
 have cellK:∀x c,X.env.cells.lookup x=some c->∀v,s.heap.IsCell c v->h'.IsCell c v:=λx c e v ⟨o,ho,hd⟩=>by
  have nch:c∉ch:=λz=>(hch c z).2.2.1 x c e rfl;by_cases hc:c∈X.fs
  ·obtain⟨sl,q⟩:=slot c o (I.B3 x c e) hc nch ho (I.fk x c e);exact⟨_,q,hd⟩
  ·exact⟨o,keep c o (I.B3 x c e) hc nch ho (I.fk x c e),hd⟩
 refine⟨I.ok,I.os,hg,⟨λb o e n hb hx=>?_,λb o e n hb hx=>?_,λb o e n hx=>?_,λb o e hx=>?_,λb xs e=>nS b xs (I.base.nS b xs e),λb o xs e=>lH b o xs (I.base.lH b o xs e),λb ps e=>?_⟩,?_,λx c e=>?_,?_,λx c e=>?_,λp hp=>?_,aU,I.len⟩
 ·exact keep b o (neL b o e) hb (neC b o e hx) (I.base.keep b o e n hb hx) (I.base.free b o e n hx)
 ·obtain⟨sl,e1⟩:=I.base.slot b o e n hb hx;obtain⟨sl',e2⟩:=slot b _ (neL b o e) hb (neC b o e hx) e1 (I.base.free b o e n hx);exact⟨sl',e2⟩
 ·obtain⟨o',e1⟩:=I.base.there b o e hx;exact free b o' (neC b o e hx) e1 (I.base.free b o e n hx)
 ·obtain⟨o',e1⟩:=I.base.there b o e hx;exact there b o' (neC b o e hx) e1
 ·obtain⟨m1,e1⟩:=I.base.jR b ps e;obtain⟨m2,e2⟩:=jR b _ e1;exact⟨m1++m2,by rw[e2,Array.append_assoc]⟩
 ·obtain⟨m,hn,hl⟩:=I.loc;refine⟨m,ns m hn,λi x v e1 e2 e3=>?_⟩;obtain⟨u,r,l⟩:=hl i x v e1 e2 e3;refine⟨u,r,?_⟩;rcases l with l|⟨k,c,e,z⟩
  ·exact .inl l
  ·exact .inr ⟨k,c,e,cellK x c e _ z⟩
 ·obtain⟨v,z⟩:=I.cell x c e;exact⟨v,cellK x c e v z⟩
 ·obtain⟨m,⟨o,_,_,ho,_⟩,_⟩:=I.loc;exact free _ o (λz=>(hch _ z).2.1 rfl) ho I.free
 ·obtain⟨v,o,ho,hd⟩:=I.cell x c e;exact free c o (λz=>(hch c z).2.2.1 x c e rfl) ho (I.fk x c e)
 ·obtain⟨e,n,ne,nf,d⟩:=I.pin p hp;have nch:p.1∉ch:=λz=>(hch p.1 z).2.2.2 p hp rfl;exact⟨keep p.1 p.2 ne nf nch e n,free p.1 p.2 nch e n,ne,nf,d⟩
theorem Inv.un{t':Nat}(I:Inv X pins σ H s)(u:Un X.fs [] H H' s.heap h')(aU:gy X.prog X.w H' h'):Inv X pins σ H' {s with heap:=h',toks:=t'}:=by
 obtain⟨m,⟨o,es,ep,ho,r⟩,_⟩:=id I.loc;obtain⟨sl,hL⟩:=u.any ho I.free (by simp)
 exact I.step (g':=s.gens) (d':=s.drawn) (ch:=[]) (λ_ z=>nomatch z) (λb o _ hb _ e n=>u.keep b o e n hb (by simp)) (λb o _ hb _ e n=>u.slot b o e n hb (by simp)) (λb o _ e n=>u.free b o e n (by simp)) (λb o _ e=>u.there b o e (by simp)) u.nS u.lH u.jR (λm' hm=>by
  obtain⟨o',es',ep',ho',r'⟩:=hm;rw[ho] at ho';cases ho';exact⟨_,es',ep',hL,r'⟩) aU I.bare
theorem Inv.call{t':Nat}{d':Drawn}{ch:List Addr}(I:Inv X pins σ H s)(u:Un (wx X.stack) ch H H' s.heap h')(aU:gy X.prog X.w H' h')(hg:AllBare g')
  (hch:∀b∈ch,(b∈X.ex\/X.s₀.heap.objs.size<=b)/\b≠X.env.locals/\(∀x c,X.env.cells.lookup x=some c->c≠b)/\∀p∈X.pn++pins,p.1≠b) :
  Inv X pins σ H' {s with heap:=h',gens:=g',drawn:=d',toks:=t'}:=by
 obtain⟨m,⟨o,es,ep,ho,r⟩,_⟩:=id I.loc;obtain⟨sl,hL⟩:=u.any ho I.free λz=>(hch _ z).2.1 rfl;exact I.step (ch:=ch) hch (λb o hL hb hc e n=>u.keep b o e n (λz=>(Gs.mp (I.lE b z)).elim hL hb) hc) (λb o _ _ hc e n=>u.any e n hc) (λb o hc e n=>u.free b o e n hc) (λb o hc e=>u.there b o e hc) u.nS u.lH u.jR (λm' hm=>by
  obtain⟨o',es',ep',ho',r'⟩:=hm;rw[ho] at ho';cases ho';exact⟨_,es',ep',hL,r'⟩) aU hg
theorem Inv.turned{t':Nat}{it:Addr}(I:Inv X pins σ H s)(k:∀b o,b≠it->s.heap.get? b=some o->h'.get? b=some o)(hn:H it=none)(hL:it≠X.env.locals)
  (h1:it∈X.ex\/X.s₀.heap.objs.size<=it) (h2:∀x c,X.env.cells.lookup x=some c->c≠it) (h3:∀p∈X.pn++pins,p.1≠it):Inv X pins σ H {s with heap:=h',toks:=t'}:=by
 have nit:∀b u,H b=some u->b≠it:=λb u e z=>by rw[z,hn] at e;cases e
 refine I.step (g':=s.gens) (d':=s.drawn) (ch:=[it]) (λb hb=>?_) (λb o _ _ hc e _=>k b o (λz=>hc (by simp[z])) e) (λb o _ _ hc e _=>⟨o.slots,k b o (λz=>hc (by simp[z])) e⟩) (λ_ _ _ _ n=>n)
  (λb o hc e=>⟨o,k b o (λz=>hc (by simp[z])) e⟩) (λ_ _ e=>e) (λ_ _ _ e=>e) (λb ps e=>⟨#[],by rw[e];simp⟩) (λm hm=>?_) (λb u e=>?_) I.bare
 ·have e:b=it:=by simpa using hb
  subst e;exact⟨h1,hL,h2,h3⟩
 ·obtain⟨o,es,ep,ho,r⟩:=hm;exact⟨o,es,ep,k _ o (HB hL) ho,r⟩
 ·refine (I.aU b u e).me (λc v hc q=>k c v ?_ q) (λ_ q=>q) (λ_ _ q=>q) λ_ _ _ q=>q;rcases hc with z|z
  ·rw[z];exact nit b u e
  ·exact nit c _ z
theorem Inv.tok(I:Inv X pins σ H s)(t:Nat):Inv X pins σ H {s with toks:=t}:=I.un (h':=s.heap) (t':=t) Un.refl I.aU
theorem Inv.kept{t':Nat}(I:Inv X pins σ H s)(k:∀b u,s.heap.get? b=some u->h'.get? b=some u):Inv X pins σ H {s with heap:=h',toks:=t'}:=I.un (Un.kept k) (I.aU.kept k)
theorem Inv.laid{t':Nat}(I:Inv X pins σ H s)(k:∀b u,s.heap.get? b=some u->h'.get? b=some u)(hp:s.heap.objs.size<=a)(new:bf X.prog X.w (upd H a o) h' a o):
  Inv X pins σ (upd H a o) {s with heap:=h',toks:=t'}:=I.un (Un.laid k hp (I.aU.fresh hp)) (I.aU.laid k hp new)
theorem Inv.write{x e:Addr}{t':Nat}(I:Inv X pins σ H s)(mu:Dh (H x))(he:e=x\/H e=some (.own x))(k:∀b u,b≠e->s.heap.get? b=some u->h'.get? b=some u)(heo:∃u,h'.get? e=some u)
  (new:bf X.prog X.w (upd H x o) h' x o):Inv X pins σ (upd H x o) {s with heap:=h',toks:=t'}:=I.un (Un.write mu he k heo) (I.aU.write mu he k heo new)
theorem Inv.lU{pins':List (Addr×Obj)}(I:Inv X pins σ H s)(h:∀p∈pins',s.heap.get? p.1=some p.2/\H p.1=none/\p.1≠X.env.locals/\p.1∉X.fs/\∀v,p.2.data≠.cell v):Inv X pins' σ H s:=
 ⟨I.ok,I.os,I.bare,I.base,I.loc,I.cell,I.free,I.fk,λp hp=>(Hm.mp hp).elim (λz=>I.pin p (IX _ z)) (h p),I.aU,I.len⟩
theorem nu(hN:N.Nodup)(a:N[i]?=some x)(b:N[j]?=some x):i=j:=by
 obtain⟨h1,e1⟩:=Gm.mp a;obtain⟨h2,e2⟩:=Gm.mp b;exact (List.getElem_inj hN).mp (e1.trans e2.symm)
theorem kH{A:Around}{v:V}{Q:Unit->Shared->Prop}(I:Inv X pins σ H s)(hN:X.N.Nodup)(hi:X.N[i]?=some x)(hx:Loc X.env.scope x)(r:RelV v u)
  (h:∀s',Inv X pins (σ.set i (some v)) H s'->(∃a,Heap.SameBut a s.heap s'.heap/\(a=X.env.locals\/X.env.cells.lookup x=some a))->Q () s') (hf:autoParam (X.fn x=true\/X.env.scope.names.lookup x=some .local) ℜ2):wpAny M A (storeName X.env x u) Q E s:=by
 obtain⟨m,hn,hl⟩:=id I.loc;have hcls:(X.env.scope.kind == .class || (X.env.scope.kind == .module && X.env.locals != X.env.globals))=false:=by rw[I.ok.kind];rfl
 have hiσ:i<σ.length:=by rw[I.len];exact (Gm.mp hi).1
 have B3:=I.B3;have tracked:∀{a:Addr} {h':Heap},(∃o,s.heap.get? a=some o/\H a=none)->Heap.SameBut a s.heap h'->gy X.prog X.w H h':=λ{a h'} ha hs b ob e=>by
  obtain⟨_,_,hfree⟩:=ha;refine (I.aU b ob e).me (λc w' hc q=>(hs.2 c ?_).trans q) (λ_ q=>q) (λ_ _ q=>q) λ_ _ _ q=>q;rintro rfl;rcases hc with rfl|hc
  ·rw[hfree] at e;cases e
  ·rw[hfree] at hc;cases hc
 rcases hx with hk|hk
 ·refine wpAny_storeName_local hk hn (λh' hn' hs=>?_) hcls;obtain⟨oL,_,_,hoL,_⟩:=id hn;refine h _ ⟨I.ok,I.os,I.bare,⟨λb o e n hb hx=>?_,λb o e n hb hx=>?_,I.base.free,λb o e hx=>?_,I.base.nS,I.base.lH,I.base.jR⟩,⟨_,hn',λj y v' e1 e2 e3=>?_⟩,λy c e=>?_,I.free,I.fk,λp hp=>?_,tracked ⟨oL,hoL,I.free⟩ hs,by simpa using I.len⟩ ⟨_,hs,.inl rfl⟩
  ·exact (hs.2 b (GG (GK (Gz e) I.ok.above))).trans (I.base.keep b o e n hb hx)
  ·obtain⟨sl,e1⟩:=I.base.slot b o e n hb hx;exact⟨sl,(hs.2 b (GG (GK (Gz e) I.ok.above))).trans e1⟩
  ·obtain⟨o',e1⟩:=I.base.there b o e hx;exact⟨o',(hs.2 b (GG (GK (Gz e) I.ok.above))).trans e1⟩
  ·by_cases hj:j=i
   ·subst hj;rw[hi] at e1;cases e1;rw[IS hiσ] at e2;cases e2;exact⟨u,r,.inl ⟨hk,by simp⟩⟩
   ·rw[JJ (HB hj)] at e2;obtain⟨u',r',q⟩:=hl j y v' e1 e2 e3;refine⟨u',r',?_⟩;rcases q with ⟨k,e⟩|⟨k,c,e,z⟩
    ·refine .inl ⟨k,?_⟩;have:y≠x:=λe=>hj (nu hN e1 (e ▸ hi));simp[this,e]
    ·exact .inr ⟨k,c,e,z.sameBut hs (B3 y c e)⟩
  ·obtain⟨w',z⟩:=I.cell y c e;exact⟨w',z.sameBut hs (B3 y c e)⟩
  ·obtain⟨e,n,ne,nf,d⟩:=I.pin p hp;exact⟨(hs.2 p.1 ne).trans e,n,ne,nf,d⟩
 ·have hfn:X.fn x=true:=by
   rcases hf with z|z
   ·exact z
   ·rw[z] at hk;cases hk
  obtain⟨c,hc⟩:=I.ok.has x (.inl hk);obtain⟨w',z⟩:=I.cell x c hc;refine wpAny_storeName_cell I.ok.kind hk hc z (λh' hc' hs=>?_);obtain⟨oc,hoc,hocd⟩:=id z;refine h {s with heap:=h'} ⟨I.ok,I.os,I.bare,⟨λb o e n hb hx=>?_,λb o e n hb hx=>?_,I.base.free,λb o e hx=>?_,I.base.nS,I.base.lH,I.base.jR⟩,⟨m,hn.sameBut hs (HB (B3 x c hc)),λj y v' e1 e2 e3=>?_⟩,λy c' e=>?_,I.free,I.fk,λp hp=>?_,tracked ⟨oc,hoc,I.fk x c hc⟩ hs,by simpa using I.len⟩ ⟨c,hs,.inr hc⟩
  ·exact (hs.2 b (GG (GK (Gz e) (I.ok.CP x c hfn hc)))).trans (I.base.keep b o e n hb hx)
  ·obtain⟨sl,e1⟩:=I.base.slot b o e n hb hx;exact⟨sl,(hs.2 b (GG (GK (Gz e) (I.ok.CP x c hfn hc)))).trans e1⟩
  ·obtain⟨o',e1⟩:=I.base.there b o e hx;exact⟨o',(hs.2 b (GG (GK (Gz e) (I.ok.CP x c hfn hc)))).trans e1⟩
  ·by_cases hj:j=i
   ·subst hj;rw[hi] at e1;cases e1;rw[IS hiσ] at e2;cases e2;exact⟨u,r,.inr ⟨.inl hk,c,hc,hc'⟩⟩
   ·rw[JJ (HB hj)] at e2;obtain⟨u',r',q⟩:=hl j y v' e1 e2 e3;refine⟨u',r',?_⟩;rcases q with q|⟨k,c',e,z'⟩
    ·exact .inl q
    ·refine .inr ⟨k,c',e,z'.sameBut hs ?_⟩;rintro rfl;exact hj (nu hN e1 (I.ok.inj _ _ _ e hc ▸ hi))
  ·by_cases hcc:c'=c
   ·subst hcc;exact⟨_,hc'⟩
   ·obtain⟨w2,z2⟩:=I.cell y c' e;exact⟨w2,z2.sameBut hs hcc⟩
  ·obtain⟨e,n,ne,nf,d⟩:=I.pin p hp;refine⟨(hs.2 p.1 ?_).trans e,n,ne,nf,d⟩;intro q;rw[q,hoc] at e;have q':oc=p.2:=Option.some.inj e;exact d w' (by rw[<- q'];exact hocd)
theorem nM{A:Around}{v:V}{Q:Unit->Shared->Prop}(I:Inv X pins σ H s)(hN:X.N.Nodup)(hi:X.N[i]?=some x)(hx:Loc X.env.scope x)(r:RelV v u)
  (h:∀s',Inv X pins (σ.set i (some v)) H s'->Q () s') (hf:autoParam (X.fn x=true\/X.env.scope.names.lookup x=some .local) ℜ2):wpAny M A (storeName X.env x u) Q E s:=
 kH I hN hi hx r (λs' I' _=>h s' I') hf
theorem Inv.Ex(I:Inv X pins σ H s)(ho:s'.os=s.os)(u:Un (wx X.stack) ch H H' s.heap s'.heap)(aU:gy X.prog X.w H' s'.heap)(hg:AllBare s'.gens)
  (hch:∀b∈ch,(b∈X.ex\/X.s₀.heap.objs.size<=b)/\b≠X.env.locals/\(∀x c,X.env.cells.lookup x=some c->c≠b)/\∀p∈X.pn++pins,p.1≠b):Inv X pins σ H' s':=by
 obtain⟨h',g',d',t',o'⟩:=s';have e:o'=s.os:=ho;subst e;exact I.call (g':=g') (t':=t') (d':=d') u aU hg hch
end
abbrev XK:=Value->Option Addr->Hp->Prop
abbrev St:=List (Option V)
variable{σ:St}
abbrev VK:=V->Hp->Prop
abbrev TE:=St->Hp->VK->Prop
abbrev TT:=St->Hp->(Bool->Hp->Prop)->Prop
abbrev TA:=St->Hp->(List V->Hp->Prop)->Prop
structure Ends where
 nx:St->Hp->Prop
 rt:VK
 bk:St->Hp->Prop:=λ_ _=>False
 ct:St->Hp->Prop:=λ_ _=>False
variable{D:Ends}
abbrev TS:=Ends->St->Hp->Prop
variable{tb:TS}
noncomputable def EP(X:Cx)(pins:List (Addr×Obj))(σ:St)(Q:VK)(u:Value)(s':Shared):Prop:=∃v H',Inv X pins σ H' s'/\RelV v u/\Q v H'
noncomputable def TP(X:Cx)(pins:List (Addr×Obj))(σ:St)(Q:Bool->Hp->Prop)(b:Bool)(s':Shared):Prop:=∃H',Inv X pins σ H' s'/\Q b H'
noncomputable def AP(X:Cx)(pins:List (Addr×Obj))(σ:St)(Q:List V->Hp->Prop)(us:List Value)(s':Shared):Prop:=∃vs H',Inv X pins σ H' s'/\Vals vs us/\Q vs H'
noncomputable def SP(X:Cx)(pins:List (Addr×Obj))(D:Ends)(f:Flow)(s':Shared):Prop:=
 match f with
 |.next=>∃σ' H',Inv X pins σ' H' s'/\D.nx σ' H'
 |.brk=>∃σ' H',Inv X pins σ' H' s'/\D.bk σ' H'
 |.cont=>∃σ' H',Inv X pins σ' H' s'/\D.ct σ' H'
 |.ret u=>∃v σ' H',Inv X pins σ' H' s'/\RelV v u/\D.rt v H'
noncomputable def PE(X:Cx)(e:Expr)(t:TE):Prop:=
 ∀(pins:List (Addr×Obj)) (s:Shared) (σ:St) (H:Hp) (Q:VK),Inv X pins σ H s->t σ H Q->wpAny (model X.prog X.w) X.A (eval e X.env) (EP X pins σ Q) X.xe s
noncomputable def PT(X:Cx)(e:Expr)(t:TT):Prop:=
 ∀(pins:List (Addr×Obj)) (s:Shared) (σ:St) (H:Hp) (Q:Bool->Hp->Prop),Inv X pins σ H s->t σ H Q->wpAny (model X.prog X.w) X.A (isTrue e X.env (eval e X.env)) (TP X pins σ Q) X.xe s
noncomputable def PW(X:Cx)(e:Expr)(t:TT):Prop:=
 ∀(whole:Sem Value) (pins:List (Addr×Obj)) (s:Shared) (σ:St) (H:Hp) (Q:Bool->Hp->Prop),Inv X pins σ H s->t σ H Q->wpAny (model X.prog X.w) X.A (isTrue e X.env whole) (TP X pins σ Q) X.xe s
theorem PW.pt{t:TT}(h:PW X e t):PT X e t:=h _
noncomputable def PA(X:Cx)(es:List Expr)(t:TA):Prop:=
 ∀(pos:Pos) (pins:List (Addr×Obj)) (s:Shared) (σ:St) (H:Hp) (Q:List V->Hp->Prop),Inv X pins σ H s->t σ H Q->wpAny (model X.prog X.w) X.A (spliced (backTo pos (starEach es X.env))) (AP X pins σ Q) X.xe s
noncomputable def PS(X:Cx)(st:Stmt)(t:TS):Prop:=
 ∀(pins:List (Addr×Obj)) (s:Shared) (σ:St) (H:Hp) (D:Ends),Inv X pins σ H s->t D σ H->wpAny (model X.prog X.w) X.A (exec st X.env) (SP X pins D) X.xe s
noncomputable def pV(X:Cx)(st:List Stmt)(t:TS):Prop:=
 ∀(pins:List (Addr×Obj)) (s:Shared) (σ:St) (H:Hp) (D:Ends),Inv X pins σ H s->t D σ H->wpAny (model X.prog X.w) X.A (execs st X.env) (SP X pins D) X.xe s
theorem bJ{α:Type}{t:Sem α}{Q Q':α->Shared->Prop}{A:Around}{s:Shared}(h:wpAny M A t Q E s)(hQ:∀a s,Q a s->Q' a s):wpAny M A t Q' E s:=Hq h hQ λ_ _ x=>x
section
variable {X:Cx}
noncomputable def pI(i:Nat):TE:=λσ H Q=>∃v,σ[i]?=some (some v)/\Q v H
noncomputable def tC(v:V):TE:=λ_ H Q=>Q v H
theorem Cp{pos:Pos}(hN:X.N[i]?=some x)(hv:Ek X.env.scope x)(hd:autoParam ((x ==("__debug__":Str))=false) ℜ1)(g9:autoParam ((x ==("__classdict__":Str))=false) ℜ1):PE X (.Name x pos) (pI i):=by
 intro pins s σ H Q I h;obtain⟨v,e,h⟩:=h;obtain⟨m,hn,hl⟩:=I.loc;obtain⟨u,r,l⟩:=hl i x v hN e hv;have fin:EP X pins σ Q u s:=⟨v,H,I,r,h⟩;rcases l with ⟨hk,hm⟩|⟨hk,c,hc,hcell⟩
 ·exact wpAny_Name (wpAny_loadName_local I.ok.kind hk hn hm fin) hd
 ·rcases hk with hk|hk
  ·exact wpAny_Name (wpAny_loadName_cell I.ok.kind hk hc hcell fin) hd
  ·exact wpAny_Name (wpAny_loadName_free I.ok.kind hk hc hcell fin g9) hd
theorem wg{i j pos}:PE X (.Constant (.int i) j pos) (tC (.int i)):=λ_ _ _ H _ I h=>wpAny_Constant_int ⟨.int i,H,I.tok _,⟨_,rfl⟩,h⟩
theorem zT{b j pos}:PE X (.Constant (.bool b) j pos) (tC (.bl b)):=λ_ _ _ H _ I h=>Constant_bool ⟨.bl b,H,I,rfl,h⟩
theorem vS{j pos}:PE X (.Constant .none j pos) (tC .aP):=λ_ _ _ H _ I h=>Constant_none ⟨.aP,H,I,rfl,h⟩
theorem qc{x j pos}:PE X (.Constant (.str x) j pos) (tC (.str x)):=λ_ _ _ H _ I h=>Calls.Constant_str ⟨.str x,H,I.tok _,⟨_,rfl⟩,h⟩
noncomputable def Gl(X:Cx)(x:Str):Prop:=X.env.kindOf x=some .globalImplicit
theorem iO{s:Shared}{pos:Pos}(I:Inv X pins σ H s)(hg:Gl X x)(hm:X.mg x=some u)(h:Q u s)
  (hd:autoParam ((x ==("__debug__":Str))=false) ℜ1):wpAny (model X.prog X.w) X.A (eval (.Name x pos) X.env) Q E s:=
 Kn I.ok.kind hg (Calls.loadGlobal_global (by rw[I.ok.glob];exact I.mod.glob.keeps I.bk) hm h) hd
theorem e_{s:Shared}{pos:Pos}(I:Inv X pins σ H s)(hg:Gl X x)(hm:X.mg x=none)(hv:bootBuiltins x=some u)(h:Q u s)
  (hn:autoParam (x≠"__name__") ℜ1) (hd:autoParam ((x ==("__debug__":Str))=false) ℜ1):wpAny (model X.prog X.w) X.A (eval (.Name x pos) X.env) Q E s:=by
 obtain⟨mb,h1,h2⟩:=I.mod.blt;exact Kn I.ok.kind hg (Calls.loadGlobal_builtin (by rw[I.ok.glob];exact I.mod.glob.keeps I.bk) hm (by rw[I.ok.blt];exact h1.keeps I.bk) ((h2 x hn).trans hv) h) hd
theorem qP{v:V}{pos:Pos}(hg:Gl X x)(hm:X.mg x=some u)(r:RelV v u)(hd:autoParam ((x ==("__debug__":Str))=false) ℜ1):PE X (.Name x pos) (tC v):=
 λ_ _ _ H _ I h=>iO I hg hm ⟨v,H,I,r,h⟩ hd
theorem yX{v:V}{pos:Pos}(hg:Gl X x)(hm:X.mg x=none)(hv:bootBuiltins x=some u)(r:RelV v u)(hn:autoParam (x≠"__name__") ℜ1)(hd:autoParam ((x ==("__debug__":Str))=false) ℜ1):PE X (.Name x pos) (tC v):=
 λ_ _ _ H _ I h=>e_ I hg hm hv ⟨v,H,I,r,h⟩ hn hd
variable {a b:Expr} {ta tb:TE} {pos:Pos}
variable {tA tB':TT} {rest:List Expr}
noncomputable def vQ(t u:TT):TT:=λσ H Q=>t σ H λc H1=>if c=true then u σ H1 Q else Q false H1
noncomputable def CJ(t u:TT):TT:=λσ H Q=>t σ H λc H1=>if c=true then Q true H1 else u σ H1 Q
noncomputable def uq(t:TT):TT:=λσ H Q=>t σ H λc H1=>Q (!c) H1
theorem xM(ha:PT X a tA):PW X (.BoolOp .And [a] pos) tA:=by
 intro wh pins s σ H Q I h;refine isTrue_and (bJ (ha pins s σ H Q I h) λc s1 e=>?_)
 cases c with
 |true=>exact isTrue_and_nil e
 |false=>exact e
theorem B_(ha:PT X a tA):PW X (.BoolOp .Or [a] pos) tA:=by
 intro wh pins s σ H Q I h;refine isTrue_or (bJ (ha pins s σ H Q I h) λc s1 e=>?_)
 cases c with
 |false=>exact isTrue_or_nil e
 |true=>exact e
theorem A5(ha:PT X a tA)(hb:PW X (.BoolOp .And (b::rest) pos) tB'):PW X (.BoolOp .And (a::b::rest) pos) (vQ tA tB'):=by
 intro wh pins s σ H Q I h;refine isTrue_and (bJ (ha pins s σ H _ I h) λc s1 hq7=>?_);obtain⟨H1,I1,q1⟩:=hq7
 cases c with
 |true=>exact hb wh pins s1 σ H1 Q I1 q1
 |false=>exact⟨H1,I1,q1⟩
theorem Em(ha:PT X a tA)(hb:PW X (.BoolOp .Or (b::rest) pos) tB'):PW X (.BoolOp .Or (a::b::rest) pos) (CJ tA tB'):=by
 intro wh pins s σ H Q I h;refine isTrue_or (bJ (ha pins s σ H _ I h) λc s1 hq8=>?_);obtain⟨H1,I1,q1⟩:=hq8
 cases c with
 |true=>exact⟨H1,I1,q1⟩
 |false=>exact hb wh pins s1 σ H1 Q I1 q1
theorem B7(ha:PT X a tA):PT X (.UnaryOp .Not a pos) (uq tA):=by
 intro pins s σ H Q I h;exact isTrue_not (ha pins s σ H (λc H1=>Q (!c) H1) I h)
noncomputable def ny(ta tb:TE):TE:=λσ H Q=>ta σ H λx H1=>∃c,x=.bl c/\if c=true then tb σ H1 Q else Q (.bl false) H1
noncomputable def oy(ta:TE):TE:=λσ H Q=>ta σ H λx H1=>∃c,x=.bl c/\Q (.bl (!c)) H1
theorem A_{op}{t:TE}(h:PE X a t):PE X (.BoolOp op [a] pos) t:=λpins s σ H Q I hw=>BoolOp_one (h pins s σ H Q I hw)
theorem BY(ha:PE X a ta)(hb:PE X (.BoolOp .And (b::rest) pos) tb):PE X (.BoolOp .And (a::b::rest) pos) (ny ta tb):=by
 intro pins s σ H Q I h;refine BoolOp_and (bJ (ha pins s σ H _ I h) λv s1 hq9=>?_);obtain⟨x,H1,I1,r1,q1⟩:=hq9;obtain⟨c,rfl,q1⟩:=q1;cases r1;refine Iu ?_
 cases c with
 |true=>exact hb pins s1 σ H1 Q I1 q1
 |false=>exact⟨.bl false,H1,I1,rfl,q1⟩
theorem BW(ha:PE X a ta):PE X (.UnaryOp .Not a pos) (oy ta):=by
 intro pins s σ H Q I h;refine UnaryOp_ (bJ (ha pins s σ H _ I h) λv s1 hq11=>?_);obtain⟨x,H1,I1,r1,q1⟩:=hq11;obtain⟨c,rfl,q1⟩:=q1;cases r1;exact not_of (Iu ⟨.bl (!c),H1,I1,rfl,q1⟩)
noncomputable def Du(t:TT)(ta tb:TE):TE:=λσ H Q=>t σ H λc H1=>if c=true then ta σ H1 Q else tb σ H1 Q
theorem wQ{c:Expr}(hc:PT X c tA)(ha:PE X a ta)(hb:PE X b tb):PE X (.IfExp c a b pos) (Du tA ta tb):=by
 intro pins s σ H Q I h;refine wpAny_IfExp (bJ (hc pins s σ H _ I h) λd s1 hq12=>?_);obtain⟨H1,I1,q1⟩:=hq12
 cases d with
 |true=>exact ha pins s1 σ H1 Q I1 q1
 |false=>exact hb pins s1 σ H1 Q I1 q1
end
noncomputable def bY(K:LA)(H:Hp)(a:Addr)(xs:List V):Prop:=
 Rd H a (.lst xs) \/
  ∃(o:Obj) (its:Array Value) (n:Nat),K.lookup a=some o/\o.cls=.type "list"/\o.dict=none/\o.data=.seq its n/\its.size<=sizeLine/\Vals xs its.toList
noncomputable def bz(K:LA)(H:Hp)(a:Addr)(xs:List V):Prop:=
 Rd H a (.tup xs) \/
  ∃(o:Obj) (its:Array Value) (n:Nat),K.lookup a=some o/\o.cls=.type "tuple"/\o.data=.seq its n/\its.size<=sizeLine/\Vals xs its.toList
noncomputable def E_:Value->Option V
 |.none=>some .aP
 |.bool b=>some (.bl b)
 |.int i _=>some (.int i)
 |.str x _=>some (.str x)
 |.bytes b _=>some (.oG b)
 |.float b _=>some (.B2 b)
 |.ref a=>some (.ref a)
 |.type n=>some (.ty n)
 |_=>none
theorem RelV.abs{x:V}(r:RelV x u):E_ u=some x:=by
 cases x with
 |aP=>cases r;rfl
 |bl _=>cases r;rfl
 |int _=>obtain⟨t,rfl⟩:=r;rfl
 |str _=>obtain⟨t,rfl⟩:=r;rfl
 |oG _=>obtain⟨t,rfl⟩:=r;rfl
 |B2 _=>obtain⟨t,rfl⟩:=r;rfl
 |ref _=>cases r;rfl
 |ty _=>cases r;rfl
theorem RelV.inj{x y:V}(r:RelV x u)(q:RelV y u):x=y:=Option.some.inj (r.abs.symm.trans q.abs)
theorem Vals.inj:∀{xs ys:List V} {us:List Value},Vals xs us->Vals ys us->xs=ys
 |_,_,_,.nil,.nil=>rfl
 |_,_,_,.cons r t,.cons r' t'=>by rw[r.inj r',Vals.inj t t']
section
variable {X:Cx} {pins:List (Addr×Obj)} {σ:St} {H:Hp} {s:Shared} {a:Addr} {xs ys:List V}
theorem bY.of(h:H a=some (.lst xs)):bY K H a xs:=.inl (.inl h)
theorem bz.of(h:H a=some (.tup xs)):bz K H a xs:=.inl (.inl h)
theorem Inv.list(I:Inv X pins σ H s)(h:bY X.K H a xs):∃its:List Value,Vals xs its/\PlainL s.heap a its.toArray/\xs.length<=sizeLine:=by
 rcases h with h|⟨o,its,n,hk,hc,hd,hs,hz,r⟩
 ·obtain⟨z,its,n,r,e⟩:=h.ok I.aU;exact⟨its,r,⟨_,n,e,rfl,rfl,rfl⟩,z⟩
 ·refine⟨its.toList,r,⟨o,n,I.gP a o hk,hc,hd,by simpa using hs⟩,?_⟩
  have e:=r.length;simp only[Hc] at e;lia
theorem Inv.tuple(I:Inv X pins σ H s)(h:bz X.K H a xs):∃its:List Value,Vals xs its/\IsTup s.heap a its.toArray/\xs.length<=sizeLine:=by
 rcases h with h|⟨o,its,n,hk,hc,hs,hz,r⟩
 ·obtain⟨z,its,r,p⟩:=h.ok I.aU;exact⟨its,r,p.to,z⟩
 ·refine⟨its.toList,r,⟨o,I.gP a o hk,hc,n,by simpa using hs⟩,?_⟩
  have e:=r.length;simp only[Hc] at e;lia
theorem Inv.jq(I:Inv X pins σ H s)(h:bY X.K H a xs)(h':bY X.K H a ys):xs=ys:=by
 obtain⟨its,r,⟨o,n,e,_,_,d⟩,_⟩:=I.list h;obtain⟨its',r',⟨o',n',e',_,_,d'⟩,_⟩:=I.list h';rw[e] at e';cases e';rw[d] at d'
 injection d' with d1 _
 have:its=its':=by simpa using Hj Array.toList d1
 subst this;exact r.inj r'
theorem Inv.ip(I:Inv X pins σ H s)(h:bz X.K H a xs)(h':bz X.K H a ys):xs=ys:=by
 obtain⟨its,r,⟨o,e,_,n,d⟩,_⟩:=I.tuple h;obtain⟨its',r',⟨o',e',_,n',d'⟩,_⟩:=I.tuple h';rw[e] at e';cases e';rw[d] at d'
 injection d' with d1 _
 have:its=its':=by simpa using Hj Array.toList d1
 subst this;exact r.inj r'
end
abbrev Cx.jS(X:Cx)(E:Value->Shared->Prop):Cx:={X with xe:=E}
abbrev Cx.oF(X:Cx):Cx:=X.jS λ_ _=>False
theorem Cx.Ok.jS(ok:X.Ok)(E:Value->Shared->Prop):(X.jS E).Ok:=
 ⟨ok.mod,ok.kind,ok.glob,ok.blt,ok.above,ok.inj,ok.has,ok.CP,ok.hd,ok.frames,ok.E6,ok.FQ,ok.bs,ok.xD,ok.v5,ok.y6,ok.iF,ok.Bi,ok.tabs⟩
theorem Cx.Ok.fE(ok:(X.jS E).Ok):X.Ok:=
 ⟨ok.mod,ok.kind,ok.glob,ok.blt,ok.above,ok.inj,ok.has,ok.CP,ok.hd,ok.frames,ok.E6,ok.FQ,ok.bs,ok.xD,ok.v5,ok.y6,ok.iF,ok.Bi,ok.tabs⟩
section
variable {X:Cx} {pins:List (Addr×Obj)} {σ:St} {H:Hp} {s:Shared} {E:Value->Shared->Prop}
theorem Inv.jS(I:Inv X pins σ H s)(E:Value->Shared->Prop):Inv (X.jS E) pins σ H s:=⟨I.ok.jS E,I.os,I.bare,I.base,I.loc,I.cell,I.free,I.fk,I.pin,I.aU,I.len⟩
theorem Inv.fE(I:Inv (X.jS E) pins σ H s):Inv X pins σ H s:=⟨I.ok.fE,I.os,I.bare,I.base,I.loc,I.cell,I.free,I.fk,I.pin,I.aU,I.len⟩
theorem SP.fE{f:Flow}(h:SP (X.jS E) pins D f s'):SP X pins D f s':=by
 cases f with
 |next=>obtain⟨σ',H',I,q⟩:=h;exact⟨σ',H',I.fE,q⟩
 |brk=>obtain⟨σ',H',I,q⟩:=h;exact⟨σ',H',I.fE,q⟩
 |cont=>obtain⟨σ',H',I,q⟩:=h;exact⟨σ',H',I.fE,q⟩
 |ret u=>obtain⟨v,σ',H',I,r,q⟩:=h;exact⟨v,σ',H',I.fE,r,q⟩
theorem pV.oF{st:List Stmt}{t:TS}(h:pV X.oF st t):pV X st t:=λpins s σ H D I hw =>
 Hq (h pins s σ H D (I.jS _) hw) (λ_ _ q=>q.fE) λ_ _ z=>False.elim z
end
section
variable {X:Cx} {st:Stmt} {rest:List Stmt} {t u:TS} {e:Expr} {te:TE} {pos:Pos}
noncomputable def nQ:TS:=λD σ H=>D.nx σ H
noncomputable def s_(t u:TS):TS:=λD σ H=>t {D with nx:=u D} σ H
theorem yx:pV X [] nQ:=λ_ _ σ H _ I h=>JK ⟨σ,H,I,h⟩
theorem uQ(h1:PS X st t)(h2:pV X rest u):pV X (st::rest) (s_ t u):=by
 intro pins s σ H D I h;refine wpAny_execs_cons (bJ (h1 pins s σ H {D with nx:=u D} I h) λf s1 q=>?_)
 cases f with
 |next =>
  obtain⟨σ',H',I',q⟩:=q;exact h2 pins s1 σ' H' D I' q
 |ret v=>exact q
 |brk=>exact q
 |cont=>exact q
theorem zF(h1:PS X st t):pV X [st] t:=by
 intro pins s σ H D I h;refine wpAny_execs_cons (bJ (h1 pins s σ H D I h) λf s1 q=>?_)
 cases f with
 |next=>exact JK q
 |ret v=>exact q
 |brk=>exact q
 |cont=>exact q
theorem Inv.quiet{s:Shared}(I:Inv X pins σ H s):interactive X.env=false:=by simp[interactive,I.ok.kind]
noncomputable def mW(te:TE):TS:=λD σ H=>te σ H λ_ H1=>D.nx σ H1
theorem zq(he:PE X e te)(hs:autoParam (swapsWith e none pos.line X.env=pure false) ℜ0):PS X (.Expr e pos) (mW te):=by
 intro pins s σ H D I h;exact wpAny_Expr_any (bJ (he pins s σ H _ I h) λv s1 ⟨x,H1,I1,r1,q1⟩=>⟨σ,H1,I1,q1⟩) I.quiet hs
noncomputable def ve(te:TE):TS:=λD σ H=>te σ H D.rt
theorem A0(he:PE X e te):PS X (.Return (some e) pos) (ve te):=by
 intro pins s σ H D I h;exact wpAny_Return_some (bJ (he pins s σ H _ I h) λv s1 ⟨x,H1,I1,r1,q1⟩=>⟨x,σ,H1,I1,r1,q1⟩)
noncomputable def lL(c:TT)(t u:TS):TS:=λD σ H=>c σ H λb H1=>if b=true then t D σ H1 else u D σ H1
theorem DN{c:Expr}{a b:List Stmt}{tc:TT}(hc:PT X c tc)(ha:pV X a t)(hb:pV X b u):PS X (.If c a b pos) (lL tc t u):=by
 intro pins s σ H D I h;refine wpAny_If (bJ (hc pins s σ H _ I h) λd s1 hq13=>?_);obtain⟨H1,I1,q1⟩:=hq13
 cases d with
 |true=>exact ha pins s1 σ H1 D I1 q1
 |false=>exact hb pins s1 σ H1 D I1 q1
end
abbrev TG:=V->St->Hp->(St->Hp->Prop)->Prop
abbrev qV:=List V->St->Hp->(St->Hp->Prop)->Prop
noncomputable def PG(X:Cx)(target:Expr)(t:TG):Prop:=
 ∀(pins:List (Addr×Obj)) (s:Shared) (σ:St) (H:Hp) (v:V) (u:Value) (Q:St->Hp->Prop),Inv X pins σ H s->RelV v u->t v σ H Q ->
  wpAny (model X.prog X.w) X.A (assign target X.env u) (λ_ s'=>∃σ' H',Inv X pins σ' H' s'/\Q σ' H') X.xe s
noncomputable def CH(X:Cx)(ts:List Expr)(t:qV):Prop:=
 ∀(pins:List (Addr×Obj)) (s:Shared) (σ:St) (H:Hp) (vs:List V) (us:List Value) (Q:St->Hp->Prop),Inv X pins σ H s->Vals vs us->t vs σ H Q ->
  wpAny (model X.prog X.w) X.A (assignInOrder ((assignEach ts X.env).map (·.2)) us) (λ_ s'=>∃σ' H',Inv X pins σ' H' s'/\Q σ' H') X.xe s
abbrev yz:=V->V->V->Hp->(Hp->Prop)->Prop
noncomputable def Bh(X:Cx)(t:yz):Prop:=
 ∀(pins:List (Addr×Obj)) (s:Shared) (σ:St) (H:Hp) (o i v:V) (ov iv u:Value) (Q:Hp->Prop),Inv X pins σ H s->RelV o ov->RelV i iv->RelV v u->t o i v H Q ->
  wpAny (model X.prog X.w) X.A (setItem ov iv u) (λ_ s'=>∃H',Inv X pins σ H' s'/\Q H') X.xe s
section
variable {X:Cx} {pos:Pos}
noncomputable def bj(i:Nat):TG:=λv σ H Q=>Q (σ.set i (some v)) H
theorem yy(hN:X.N.Nodup)(hi:X.N[i]?=some x)(hx:Loc X.env.scope x)(hf:autoParam (X.fn x=true\/X.env.scope.names.lookup x=some .local) ℜ2):PG X (.Name x pos) (bj i):=by
 intro pins s σ H v u Q I r h;exact wpAny_assign_Name (nM I hN hi hx r (λs' I'=>⟨_,H,I',h⟩) hf)
noncomputable def mG:qV:=λvs σ H Q=>vs=[]/\Q σ H
noncomputable def fw(t:TG)(u:qV):qV:=λvs σ H Q=>∃v r,vs=v::r/\t v σ H λσ' H'=>u r σ' H' Q
theorem zj:CH X [] mG:=by
 intro pins s σ H vs us Q I r h;obtain⟨e,h⟩:=h;subst e;cases r;exact assignInOrder_nil ⟨σ,H,I,h⟩
theorem xa{t:TG}{u:qV}(h1:PG X e t)(h2:CH X es u)
  (hs:autoParam ((assignEach (e::es) X.env).map (·.2)=assign e X.env::(assignEach es X.env).map (·.2)) ℜ0):CH X (e::es) (fw t u):=by
 intro pins s σ H vs us Q I r h;obtain⟨v,vr,e1,h⟩:=h;subst e1
 cases r with
 |cons r rr =>
  rw[hs];refine assignInOrder_cons (bJ (h1 pins s σ H _ _ _ I r h) λ_ s1 hq14=>?_);obtain⟨σ1,H1,I1,q1⟩:=hq14;exact h2 pins s1 σ1 H1 _ _ Q I1 rr q1
noncomputable def mI(K:LA)(n:Nat)(t:qV):TG:=λv σ H Q=>∃a xs,v=.ref a/\bz K H a xs/\xs.length=n/\t xs σ H Q
theorem wy{k:Nat}{t:qV}{n:Nat}(hc:X.calm=true)(h:CH X es t)
  (hn:autoParam ((assignEach es X.env).length=n) ℜ0) (hst:autoParam ((assignEach es X.env).findIdx? (·.1)=none) ℜ0):PG X (.Tuple es k pos) (mI X.K n t):=by
 intro pins s σ H v u Q I r hw;obtain⟨a,xs,e1,hq,hl,hw⟩:=hw;subst e1;cases r;obtain⟨its,rv,ht,hz⟩:=I.tuple hq;refine assign_Tuple_tuple (I.ok.hd hc) ht (by simp[hn,<- hl,rv.length]) hst λh' hx=>?_
 have I1:Inv X pins σ H {s with heap:=h'}:=I.kept (t':=s.toks) λb o e=>hx b o (GG (Gz e)) e
 exact h pins _ σ H xs _ Q I1 (by simpa using rv) hw
noncomputable def vD(to ti:TE)(t:yz):TG:=λv σ H Q=>to σ H λo H1=>ti σ H1 λi H2=>t o i v H2 λH3=>Q σ H3
theorem BA{o i:Expr}{to ti:TE}{t:yz}(ho:PE X o to)(hi:PE X i ti)(hs:Bh X t)
  (ha:autoParam (∀v,assign (.Subscript o i pos) X.env v=(do
   let ov <- holding [v] (eval o X.env)
   let iv <- holding [v,ov] (eval i X.env)
   standAt pos
   holding [v,ov,iv] (setItem ov iv v)
   release [v,ov,iv] [])) ℜ3):PG X (.Subscript o i pos) (vD to ti t):=by
 intro pins s σ H v u Q I r h;rw[ha];refine Gg (Hg (bJ (ho pins s σ H _ I h) λov s1 hq15=>?_));obtain⟨x,H1,I1,r1,q1⟩:=hq15;refine Gg (Hg (bJ (hi pins s1 σ H1 _ I1 q1) λiv s2 hq16=>?_));obtain⟨y,H2,I2,r2,q2⟩:=hq16;refine Gg (Jy (Gg (Hg (bJ (hs pins s2 σ H2 x y v ov iv u _ I2 r1 r2 r q2) λ_ s3 hq17=>?_))));obtain⟨H3,I3,q3⟩:=hq17;exact wpAny_release ⟨σ,H3,I3,q3⟩
noncomputable def lC(te:TE)(g:TG):TS:=λD σ H=>te σ H λx H1=>g x σ H1 D.nx
theorem BN{te:TE}{g:TG}(he:PE X e te)(hg:PG X tg g)(hs:autoParam (swapsWithSole [tg] e pos.line X.env=pure false) ℜ0)(hw:autoParam (swappedStores [tg] e X.env=pure none) ℜ0)
  (h1:autoParam ((assignEach [tg] X.env).map (·.2)=[assign tg X.env]) ℜ0):PS X (.Assign [tg] e pos) (lC te g):=by
 intro pins s σ H D I h;refine wpAny_Assign_stores (bJ (he pins s σ H _ I h) λv s1 hq18=>?_) hs hw;obtain⟨x,H1,I1,r1,q1⟩:=hq18;rw[h1];exact bJ (hg pins s1 σ H1 x v _ I1 r1 q1) λ_ s2 q=>q
theorem AZ{te:TE}{pos':Pos}(hN:X.N.Nodup)(hi:X.N[i]?=some x)(hx:Loc X.env.scope x)(he:PE X e te)(hs:autoParam (swapsWith e (some (.Name x pos')) pos.line X.env=pure false) ℜ0)(hf:autoParam (X.fn x=true\/X.env.scope.names.lookup x=some .local) ℜ2):
  PS X (.Assign [.Name x pos'] e pos) (lC te (bj i)):=by
 intro pins s σ H D I h;refine wpAny_Assign_Name (bJ (he pins s σ H _ I h) λv s1 hq19=>?_) hs;obtain⟨y,H1,I1,r1,q1⟩:=hq19;exact nM I1 hN hi hx r1 (λs2 I2=>⟨_,H1,I2,q1⟩) hf
end
section
variable {X:Cx} {pos:Pos}
noncomputable def vY(c:TT)(tb:TS):TS:=λD σ H=>∃W:Nat->St->Hp->Prop,(∃m,W m σ H)/\∀m σ H,W m σ H ->
 c σ H λb H1=>if b=true then ∃N:St->Hp->Prop,(∀σ' H',N σ' H'->∃m',m'<m/\W m' σ' H')/\tb {D with nx:=N,ct:=N,bk:=D.nx} σ H1 else D.nx σ H1
theorem vP{c:Expr}{tc:TT}(hp:PassesOwn (model X.prog X.w) X.A X.env X.xe)(hc:PT X c tc)(hb:pV X body tb):PS X (.While c body [] pos) (vY tc tb):=by
 intro pins s σ H D I h;obtain⟨W,⟨m0,w0⟩,turn⟩:=h;refine wpAny_While (codeAny_whileLoop (λn s'=>∃σ' H',Inv X pins σ' H' s'/\W n σ' H') ?_ m0 ⟨σ,H,I,w0⟩);rintro n s1 ⟨σ1,H1,I1,w1⟩;refine Iq hp (bJ (hc pins s1 σ1 H1 _ I1 (turn n σ1 H1 w1)) λb s2 hq28=>?_);obtain⟨H2,I2,q2⟩:=hq28
 cases b with
 |true =>
  obtain⟨N,hN,q2⟩:=q2;rw[Gn rfl];refine Iq hp (bJ (hb pins s2 σ1 H2 _ I2 q2) λf s3 q3=>?_)
  cases f with
  |next =>
   obtain⟨σ3,H3,I3,n3⟩:=q3;obtain⟨m',hm,w3⟩:=hN σ3 H3 n3;exact⟨m',hm,σ3,H3,I3,w3⟩
  |cont =>
   obtain⟨σ3,H3,I3,n3⟩:=q3;obtain⟨m',hm,w3⟩:=hN σ3 H3 n3;exact⟨m',hm,σ3,H3,I3,w3⟩
  |brk=>exact q3
  |ret v=>exact q3
 |false =>
  rw[Gj Gx];exact JK ⟨σ1,H2,I2,q2⟩
end
structure It where
 go:Nat->Hp->Prop
 Ai:Nat->Hp->V->Hp->Prop
 stop:Nat->Hp->Prop
noncomputable def jn(X:Cx)(pins:List (Addr×Obj))(H:Hp)(b:Addr):Prop:=
 H b=none/\b≠X.env.locals/\b∉X.fs/\(b∈X.ex\/X.s₀.heap.objs.size<=b)/\(∀x c,X.env.cells.lookup x=some c->c≠b)/\∀p∈X.pn++pins,p.1≠b
theorem Inv.lg{H':Hp}{s:Shared}(I:Inv X pins σ H s)(hb:s.heap.objs.size<=b)(hn:H' b=none):jn X pins H' b:=by
 refine⟨hn,HR (GK I.lt hb),I.DM hb,.inr (Gr I.sz hb),λx c e z=>?_,λp hp z=>?_⟩
 ·obtain⟨v,q⟩:=I.cell x c e;exact absurd (GK q.lt (by rw[z];exact hb)) (Ic _)
 ·exact absurd (GK (Gz (I.pin p hp).1) (by rw[z];exact hb)) (Ic _)
structure Turn (P:Program) (w:World) (K:LA) (tg:Expr) (J:It) (fp:List Addr) (it:Addr) (tn:Nat->Heap->Prop):Prop where
 mem:it∈fp
 obj:∀i h,tn i h->∀b∈fp,∃o,h.get? b=some o/\∀v,o.data≠.cell v
 keep:∀i h h',tn i h->(∀b∈fp,∀o,h.get? b=some o->h'.get? b=some o)->tn i h'
 item:∀(X:Cx),X.prog=P->X.w=w->X.K=K->X.calm=true->∀(i:Nat) (pins:List (Addr×Obj)) (s:Shared) (σ:St) (H:Hp) (E:Value->Shared->Prop),Inv X pins σ H s->(∀b∈fp,jn X pins H b)->tn i s.heap->J.go i H ->
  wpAny (model P w) X.A (pyNext (.ref it)) (λr s1=>∃u,r=some u /\
   wpAny (model P w) X.A (letOwnedTupleGo tg (.ref it) u) (λ_ s2=>∃x H',Inv X pins σ H' s2/\RelV x u/\J.Ai i H x H'/\tn (i+1) s2.heap/\∀b∈fp,H' b=none) E s1) E s
 done:∀(X:Cx),X.prog=P->X.w=w->X.K=K->X.calm=true->∀(i:Nat) (pins:List (Addr×Obj)) (s:Shared) (σ:St) (H:Hp) (E:Value->Shared->Prop),Inv X pins σ H s->(∀b∈fp,jn X pins H b)->tn i s.heap->J.stop i H ->
  wpAny (model P w) X.A (pyNext (.ref it)) (λr s1=>r=none/\Inv X pins σ H s1) E s
 self:∀(A:Around) (i:Nat) (s:Shared) (Q:Value->Shared->Prop) (E:Value->Shared->Prop),tn i s.heap->Q (.ref it) s->wpAny (model P w) A (pyIter (.ref it)) Q E s
abbrev TI:=St->Hp->(It->Hp->Prop)->Prop
noncomputable def FL(X:Cx)(pins:List (Addr×Obj))(σ:St)(tg:Expr)(R:It->Hp->Prop)(itv:Value)(s2:Shared):Prop:=
 ∃(it:Addr) (fp:List Addr) (tn:Nat->Heap->Prop) (J:It) (H':Hp),itv=.ref it/\Inv X pins σ H' s2/\Turn X.prog X.w X.K tg J fp it tn/\tn 0 s2.heap/\(∀b∈fp,jn X pins H' b)/\R J H'
noncomputable def PI(X:Cx)(tg iter:Expr)(wi:TI):Prop:=
 ∀(pins:List (Addr×Obj)) (s:Shared) (σ:St) (H:Hp) (R:It->Hp->Prop),Inv X pins σ H s->wi σ H R ->
  wpAny (model X.prog X.w) X.A (eval iter X.env) (λv s1=>wpAny (model X.prog X.w) X.A (pyIter v) (FL X pins σ tg R) X.xe s1) X.xe s
theorem nN{A:Around}{s:Shared}{it:Addr}{o:Obj}{n:String}{vs:Array Value}{Q:Unit->Shared->Prop}(ho:s.heap.get? it=some o)(hc:o.cls=.type n)(hd:o.data=.fields vs)
    (hn:["enumerate","zip","dict_itemiterator","dict_reverseitemiterator","odict_iterator","itertools.zip_longest","itertools.pairwise"].contains n=false) (hQ:Q () s):wpAny M A (letOwnedTupleGo tg (.ref it) u) Q E s:=by
  unfold letOwnedTupleGo
  cases tg<;>first
    |exact Gq hQ
    | (cases u<;>first
        |exact Gq hQ
        | (refine Gg (wpAny_load ho ?_)
           rw[hc,hd];show wpAny M A (if (["enumerate","zip","dict_itemiterator","dict_reverseitemiterator","odict_iterator","itertools.zip_longest","itertools.pairwise"].contains n && vs[0]? == some (rawInt _))=true then _ else _) Q E s
           rw[Gj (by intro h;rw[hn,Bool.false_and] at h;cases h)]
           exact Gq hQ))
noncomputable def xc(K:LA)(a:Addr):It:=
 ⟨λi H=>∃xs x,bY K H a xs/\xs[i]?=some x,λi H x H'=>H'=H/\∀xs,bY K H a xs->xs[i]?=some x,λi H=>∃xs,bY K H a xs/\xs.length<=i⟩
noncomputable def tL(K:LA)(a:Addr):It:=
 ⟨λi H=>∃xs x,bz K H a xs/\xs[i]?=some x,λi H x H'=>H'=H/\∀xs,bz K H a xs->xs[i]?=some x,λi H=>∃xs,bz K H a xs/\xs.length<=i⟩
noncomputable def wW(lo:Int)(n:Nat):It:=⟨λi _=>i<n,λi H x H'=>H'=H/\x=.int (lo+i),λi _=>n<=i⟩
theorem km(a it:Addr):Turn P w K tg (xc K a) [it] it (λi h=>h.IsListIter it a i) where
 mem:=by simp
 obj:=λi h st b hb=>by
  have e:b=it:=by simpa using hb
  subst e;obtain⟨o,e,c,d⟩:=st;exact⟨o,e,λv z=>by rw[d] at z;cases z⟩
 keep:=λi h h' st k=>st.at λo e=>k it (by simp) o e
 item:=by
  intro X hP hw hK hc i pins s σ H E I hf st hg;subst hP hw hK;obtain⟨xs,x,hq,hx⟩:=hg;obtain⟨its,rv,p,hz⟩:=I.list hq;obtain⟨u,hu,ru⟩:=rv.get hx;obtain⟨f0,f1,f2,f3,f4,f5⟩:=hf it (by simp)
  refine Jt st p.isList (x:=u) (by simpa using hu) λh' st' sb=>?_
  have I1:Inv X pins σ H {s with heap:=h'}:=I.turned (t':=s.toks) (λb o hb e=>(sb.2 b hb).trans e) f0 f1 f3 f4 f5
  obtain⟨o,e,c,d⟩:=id st';exact⟨u,rfl,nN (s:={s with heap:=h'}) e c d (by decide) ⟨x,H,I1,ru,⟨rfl,λys hy=>by rw[I.jq hy hq];exact hx⟩,st',λb hb=>(hf b hb).1⟩⟩
 done:=by
  intro X hP hw hK hc i pins s σ H E I hf st hg;subst hP hw hK;obtain⟨xs,hq,hx⟩:=hg;obtain⟨its,rv,p,hz⟩:=I.list hq;obtain⟨f0,f1,f2,f3,f4,f5⟩:=hf it (by simp)
  have hl:=rv.length;exact JC (I.ok.hd hc) st p.isList (by simp;lia) λh' eb=>⟨rfl,I.turned (t':=s.toks) (λb o hb e=>eb b o hb e) f0 f1 f3 f4 f5⟩
 self:=λ_ _ _ _ _ st h=>wpAny_pyIter_listiter st h
theorem jz(a it:Addr):Turn P w K tg (tL K a) [it] it (λi h=>h.IsTupleIter it a i) where
 mem:=by simp
 obj:=λi h st b hb=>by
  have e:b=it:=by simpa using hb
  subst e;obtain⟨o,e,c,d⟩:=st;exact⟨o,e,λv z=>by rw[d] at z;cases z⟩
 keep:=λi h h' st k=>st.at λo e=>k it (by simp) o e
 item:=by
  intro X hP hw hK hc i pins s σ H E I hf st hg;subst hP hw hK;obtain⟨xs,x,hq,hx⟩:=hg;obtain⟨its,rv,p,hz⟩:=I.tuple hq;obtain⟨u,hu,ru⟩:=rv.get hx;obtain⟨f0,f1,f2,f3,f4,f5⟩:=hf it (by simp)
  refine wpAny_pyNext_tuple_item st (show s.heap.IsTuple a its.toArray from p) (x:=u) (by simpa using hu) λh' st' sb=>?_
  have I1:Inv X pins σ H {s with heap:=h'}:=I.turned (t':=s.toks) (λb o hb e=>(sb.2 b hb).trans e) f0 f1 f3 f4 f5
  obtain⟨o,e,c,d⟩:=id st';exact⟨u,rfl,nN (s:={s with heap:=h'}) e c d (by decide) ⟨x,H,I1,ru,⟨rfl,λys hy=>by rw[I.ip hy hq];exact hx⟩,st',λb hb=>(hf b hb).1⟩⟩
 done:=by
  intro X hP hw hK hc i pins s σ H E I hf st hg;subst hP hw hK;obtain⟨xs,hq,hx⟩:=hg;obtain⟨its,rv,p,hz⟩:=I.tuple hq;obtain⟨f0,f1,f2,f3,f4,f5⟩:=hf it (by simp)
  have hl:=rv.length;exact wpAny_pyNext_tuple_end (I.ok.hd hc) st (show s.heap.IsTuple a its.toArray from p) (by simp;lia) λh' eb=>⟨rfl,I.turned (t':=s.toks) (λb o hb e=>eb b o hb e) f0 f1 f3 f4 f5⟩
 self:=λ_ _ _ _ _ st h=>wpAny_pyIter_tupleiter st h
theorem oU{w:World}(it:Addr)(lo:Int)(n:Nat):Turn P w K tg (wW lo n) [it] it (λi h=>IsRangeIter h it (lo+(i:Nat)*1) ((n:Int)-(i:Nat)) 1) where
 mem:=by simp
 obj:=λi h st b hb=>by
  have e:b=it:=by simpa using hb
  subst e;exact⟨_,st,λv z=>by
   have z':Data.fields _=Data.cell v:=z
   cases z'⟩
 keep:=λi h h' st k=>k it (by simp) _ st
 item:=by
  intro X hP hw hK hc i pins s σ H E I hf st hg;subst hP hw hK;obtain⟨f0,f1,f2,f3,f4,f5⟩:=hf it (by simp)
  have W:=Walks.range (prog:=X.prog) (w:=X.w) (I.ok.hd hc) it lo 1 n;refine W.item i s _ _ hg st λv h' tk hv st' kk=>?_;obtain⟨t,rfl⟩:=hv;have I1:Inv X pins σ H {s with heap:=h',toks:=tk}:=I.turned (λb o hb e=>kk b o (by simpa using hb) e) f0 f1 f3 f4 f5
  refine⟨_,rfl,nN (s:={s with heap:=h',toks:=tk}) (n:="range_iterator") st' rfl rfl (by decide) ⟨.int (lo+i),H,I1,⟨t,?_⟩,⟨rfl,rfl⟩,st',λb hb=>(hf b hb).1⟩⟩
  rw[Int.mul_one]
 done:=by
  intro X hP hw hK hc i pins s σ H E I hf st hg;subst hP hw hK;obtain⟨f0,f1,f2,f3,f4,f5⟩:=hf it (by simp)
  exact wpAny_pyNext_range_end (I.ok.hd hc) st (by have:n<=i:=hg;lia) λh' eb=>⟨rfl,I.turned (t':=s.toks) (λb o hb e=>eb b o hb e) f0 f1 f3 f4 f5⟩
 self:=λ_ _ _ _ _ st h=>wpAny_pyIter_rangeiter st h
section
variable {X:Cx} {tg:Expr}
theorem mH{s:Shared}{R:It->Hp->Prop}{lo hi:Int}{t u v:Tok}{tk:Nat}(I:Inv X pins σ H s)(h1:-(2^62)<=lo)(h2:lo<2^62)(h3:-(2^62)<=hi)(h4:hi<2^62)
  (q:R (wW lo (hi-lo).toNat) H):wpAny (model X.prog X.w) X.A (pyIter (.ref s.heap.objs.size)) (FL X pins σ tg R) E {s with heap:=s.heap.push {cls:=.type "range",data:=.fields #[.int lo t,.int hi u,.int 1 v]},toks:=tk}:=by
 refine wpAny_pyIter_range (IsRange.new ..) (small_one h1 h2 h3 h4) ?_;have I1:Inv X pins σ H {s with heap:=s.heap.push {cls:=.type "range",data:=.fields #[.int lo t,.int hi u,.int 1 v]},toks:=tk}:=I.kept λb o e=>Gh _ e
 refine⟨(s.heap.push {cls:=.type "range",data:=.fields #[.int lo t,.int hi u,.int 1 v]}).objs.size,[(s.heap.push {cls:=.type "range",data:=.fields #[.int lo t,.int hi u,.int 1 v]}).objs.size],_,_,H,rfl,
  I1.kept (t':=tk) λb o e=>Gh _ e,oU _ lo (hi-lo).toNat,?_,λb hb=>?_,q⟩
 ·have e1:lo+((0:Nat):Int)*1=lo:=by simp
  have e2:(((hi-lo).toNat:Nat):Int)-((0:Nat):Int)=Builtin.Range.rangeSize lo hi 1:=by rw[rangeSize_one];split<;>lia
  show IsRangeIter _ _ (lo+((0:Nat):Int)*1) ((((hi-lo).toNat:Nat):Int)-((0:Nat):Int)) 1;rw[e1,e2];exact Gw _ rfl
 ·have e:b=(s.heap.push {cls:=.type "range",data:=.fields #[.int lo t,.int hi u,.int 1 v]}).objs.size:=by simpa using hb
  subst e;exact I1.lg (Gp _) (I1.aU.fresh (Gp _))
noncomputable def kA(ta:TA):TI:=λσ H R=>ta σ H λvs H1=>∃j:Int,vs=[.int j]/\-(2^62)<=j/\j<2^62/\R (wW 0 j.toNat) H1
noncomputable def kR(ta:TA):TI:=λσ H R=>ta σ H λvs H1=>∃i j:Int,vs=[.int i,.int j]/\(-(2^62)<=i/\i<2^62/\-(2^62)<=j/\j<2^62)/\R (wW i (j-i).toNat) H1
theorem tH{a:Expr}{ta:TA}{p pos:Pos}(hg:Gl X "range")(hm:X.mg "range"=none)(ha:PA X [a] ta)(hs:autoParam (starEach [a] X.env=[(false,eval a X.env)]) ℜ0):PI X tg (.Call (.Name "range" p) [a] [] pos) (kA ta):=by
 intro pins s σ H R I h;refine Call_ (e_ I hg hm boot_range (Hv (bJ (ha pos pins s σ H _ I h) λus s1 hq31=>?_) hs rfl));obtain⟨vs,H1,I1,r1,q1⟩:=hq31;obtain⟨j,e,q1,q2,q⟩:=q1;subst e
 cases r1 with
 |cons r rr =>
  cases rr;obtain⟨t,rfl⟩:=r;exact call_range_1 (mH I1 (by lia) (by lia) q1 q2 (by simpa using q))
theorem rQ{a b:Expr}{ta:TA}{p pos:Pos}(hg:Gl X "range")(hm:X.mg "range"=none)(ha:PA X [a,b] ta)(hs:autoParam (starEach [a,b] X.env=[(false,eval a X.env),(false,eval b X.env)]) ℜ0)(hs2:autoParam (starEach [b] X.env=[(false,eval b X.env)]) ℜ0):
  PI X tg (.Call (.Name "range" p) [a,b] [] pos) (kR ta):=by
 intro pins s σ H R I h;refine Call_ (e_ I hg hm boot_range (Hv (bJ (ha pos pins s σ H _ I h) λus s1 hq32=>?_) (by rw[hs,hs2]) (by rw[hs2];rfl)))
 obtain⟨vs,H1,I1,r1,q1⟩:=hq32;obtain⟨i,j,e,⟨q1,q2,q3,q4⟩,q⟩:=q1;subst e
 cases r1 with
 |cons r rr =>
  cases rr with
  |cons r' rr =>
   cases rr;obtain⟨t,rfl⟩:=r;obtain⟨t',rfl⟩:=r';exact call_range_2 (mH I1 q1 q2 q3 q4 q)
noncomputable def A1(wi:TI)(g:TG)(tb:TS):TS:=λD σ H=>wi σ H λJ H1=>∃W:Nat->Nat->St->Hp->Prop,(∃m,W 0 m σ H1)/\∀i m σ H,W i m σ H ->
 (J.stop i H/\D.nx σ H)\/(J.go i H/\∃N:St->Hp->Prop,(∀σ' H',N σ' H'->∃m',m'<m/\W (i+1) m' σ' H')/\∀x H',J.Ai i H x H'->g x σ H' λσ2 H2=>tb {D with nx:=N,ct:=N,bk:=D.nx} σ2 H2)
noncomputable def ig(fp:List Addr)(h:Heap):List (Addr×Obj):=fp.filterMap λb=>(h.get? b).map λo=>(b,o)
theorem dI{o:Obj}(hb:b∈fp)(e:h.get? b=some o):(b,o)∈ig fp h:=Jm.mpr ⟨b,hb,by rw[e];rfl⟩
theorem rN{p:Addr×Obj}(hp:p∈ig fp h):p.1∈fp/\h.get? p.1=some p.2:=by
 obtain⟨b,hb,e⟩:=Jm.mp hp
 cases q:h.get? b with
 |none=>rw[q] at e;cases e
 |some o =>
  rw[q] at e;have e':(b,o)=p:=Option.some.inj e;subst e';exact⟨hb,q⟩
theorem Inv.pinned{s:Shared}(I:Inv X pins σ H s)(hf:∀b∈fp,jn X pins H b)(ho:∀b∈fp,∃o,s.heap.get? b=some o/\∀v,o.data≠.cell v):Inv X (pins++ig fp s.heap) σ H s:=
 I.lU λp hp=>(Hm.mp hp).elim (λz=>I.pin p (GL _ z)) λz=>by
  obtain⟨hb,e⟩:=rN z;obtain⟨f0,f1,f2,_⟩:=hf p.1 hb;obtain⟨o,e',d⟩:=ho p.1 hb;rw[e] at e';cases e';exact⟨e,f0,f1,f2,d⟩
theorem Inv.fq{pl:List (Addr×Obj)}{s:Shared}(I:Inv X (pins++pl) σ H s):Inv X pins σ H s:=I.lU λp hp=>I.pin p (GL _ (IX _ hp))
theorem AU{iter:Expr}{wi:TI}{g:TG}{pos:Pos}(hp:PassesOwn (model X.prog X.w) X.A X.env X.xe)(hc:X.calm=true)(hi:PI X tg iter wi)(hg:PG X tg g)(hb:pV X body tb)
  (hs:autoParam (∀x,foldedSetIterable iter X.env x=pure x) ℜ3):PS X (.For tg iter body [] pos) (A1 wi g tb):=by
 intro pins s σ H D I h;refine wpAny_For (bJ (hi pins s σ H _ I h) λv s1 h1=>bJ h1 λitv s2 h2=>?_) hs;obtain⟨it,fp,tn,J,H2,e,I2,T,st2,f2,W,⟨m0,w0⟩,turn⟩:=h2;subst e;have stat:∀{H':Hp},(∀b∈fp,H' b=none)->∀b∈fp,jn X pins H' b:=λhn b hb=>⟨hn b hb,(f2 b hb).2⟩;refine codeAny_forLoop_any (λn s'=>∃i σ' H',Inv X pins σ' H' s'/\tn i s'.heap/\(∀b∈fp,H' b=none)/\W i n σ' H') ?_ m0 ⟨0,σ,H2,I2,st2,λb hb=>(f2 b hb).1,w0⟩;rintro n s3 ⟨i,σ3,H3,I3,st3,fr3,w3⟩;rcases turn i n σ3 H3 w3 with ⟨stop,qn⟩|⟨go,N,hN,step⟩
 ·refine Iq hp (bJ (T.done X rfl rfl rfl hc i pins s3 σ3 H3 X.xe I3 (stat fr3) st3 stop) λr s4 hq33=>?_);obtain⟨hr,I4⟩:=hq33;subst hr;exact JK ⟨σ3,H3,I4,qn⟩
 ·refine Iq hp (bJ (T.item X rfl rfl rfl hc i pins s3 σ3 H3 X.xe I3 (stat fr3) st3 go) λr s4 hq34=>?_);obtain⟨u,hr,h4⟩:=hq34;subst hr;refine Iq hp (bJ h4 λ_ s5 hq35=>?_);obtain⟨x,H5,I5,r5,y5,st5,fr5⟩:=hq35;have I5':=I5.pinned (stat fr5) (T.obj _ _ st5);refine Iq hp (bJ (hg _ s5 σ3 H5 x u _ I5' r5 (step x H5 y5)) λ_ s6 hq36=>?_);obtain⟨σ6,H6,I6,q6⟩:=hq36;refine Iq hp (bJ (hb _ s6 σ6 H6 _ I6 q6) λf s7 q7=>?_);have again:∀{σ7:St} {H7:Hp},Inv X (pins++ig fp s5.heap) σ7 H7 s7->N σ7 H7->∃m,m<n/\∃i σ' H',Inv X pins σ' H' s7/\tn i s7.heap/\(∀b∈fp,H' b=none)/\W i m σ' H':=λ{σ7 H7} I7 n7=>by
   obtain⟨m',hm,w7⟩:=hN σ7 H7 n7;refine⟨m',hm,i+1,σ7,H7,I7.fq,T.keep _ _ _ st5 λb hb o e=>(I7.pin (b,o) (GL _ (GL _ (dI hb e)))).1,λb hb=>?_,w7⟩;obtain⟨o,e,d⟩:=T.obj _ _ st5 b hb;exact (I7.pin (b,o) (GL _ (GL _ (dI hb e)))).2.1
  cases f with
  |next=>obtain⟨σ7,H7,I7,n7⟩:=q7;exact again I7 n7
  |cont=>obtain⟨σ7,H7,I7,n7⟩:=q7;exact again I7 n7
  |brk=>obtain⟨σ7,H7,I7,q7⟩:=q7;exact⟨σ7,H7,I7.fq,q7⟩
  |ret v=>obtain⟨x7,σ7,H7,I7,r7,q7⟩:=q7;exact⟨x7,σ7,H7,I7.fq,r7,q7⟩
end
theorem vF{g:TG}(Pv:Nat->St->Hp->Prop)(h0:Pv 0 σ H)(hl:∀i σ H,i<=xs.length->Pv i σ H->bY K H a xs)
  (hs:∀i x σ H,xs[i]?=some x->Pv i σ H->g x σ H λσ2 H2=>tb {D with nx:=Pv (i+1),ct:=Pv (i+1),bk:=D.nx} σ2 H2) (hd:∀σ H,Pv xs.length σ H->D.nx σ H) :
  ∃W:Nat->Nat->St->Hp->Prop,(∃m,W 0 m σ H)/\∀i m σ H,W i m σ H ->
   ((xc K a).stop i H/\D.nx σ H)\/((xc K a).go i H/\∃N:St->Hp->Prop,(∀σ' H',N σ' H'->∃m',m'<m/\W (i+1) m' σ' H')/\∀x H',(xc K a).Ai i H x H'->g x σ H' λσ2 H2=>tb {D with nx:=N,ct:=N,bk:=D.nx} σ2 H2):=by
 refine⟨λi m σ H=>m=xs.length-i/\i<=xs.length/\Pv i σ H,⟨xs.length,by simp,GH _,h0⟩,?_⟩
 rintro i m σ H ⟨rfl,hi,p⟩;have q:=hl i σ H hi p;by_cases hlt:i<xs.length
 ·refine .inr ⟨⟨xs,xs[i],q,by simp[hlt]⟩,Pv (i+1),λσ' H' p'=>⟨xs.length-(i+1),by lia,rfl,hlt,p'⟩,λx H' y=>?_⟩
  obtain⟨e,y⟩:=y;subst e;exact hs i x σ _ (y xs q) p
 ·have e:i=xs.length:=by lia
  subst e;exact .inl ⟨⟨xs,q,Gp _⟩,hd σ H p⟩
theorem xK{g:TG}(Pv:Nat->St->Hp->Prop)(h0:Pv 0 σ H)(hl:∀i σ H,i<=xs.length->Pv i σ H->bz K H a xs)
  (hs:∀i x σ H,xs[i]?=some x->Pv i σ H->g x σ H λσ2 H2=>tb {D with nx:=Pv (i+1),ct:=Pv (i+1),bk:=D.nx} σ2 H2) (hd:∀σ H,Pv xs.length σ H->D.nx σ H) :
  ∃W:Nat->Nat->St->Hp->Prop,(∃m,W 0 m σ H)/\∀i m σ H,W i m σ H ->
   ((tL K a).stop i H/\D.nx σ H)\/((tL K a).go i H/\∃N:St->Hp->Prop,(∀σ' H',N σ' H'->∃m',m'<m/\W (i+1) m' σ' H')/\∀x H',(tL K a).Ai i H x H'->g x σ H' λσ2 H2=>tb {D with nx:=N,ct:=N,bk:=D.nx} σ2 H2):=by
 refine⟨λi m σ H=>m=xs.length-i/\i<=xs.length/\Pv i σ H,⟨xs.length,by simp,GH _,h0⟩,?_⟩
 rintro i m σ H ⟨rfl,hi,p⟩;have q:=hl i σ H hi p;by_cases hlt:i<xs.length
 ·refine .inr ⟨⟨xs,xs[i],q,by simp[hlt]⟩,Pv (i+1),λσ' H' p'=>⟨xs.length-(i+1),by lia,rfl,hlt,p'⟩,λx H' y=>?_⟩
  obtain⟨e,y⟩:=y;subst e;exact hs i x σ _ (y xs q) p
 ·have e:i=xs.length:=by lia
  subst e;exact .inl ⟨⟨xs,q,Gp _⟩,hd σ H p⟩
theorem tF{lo:Int}{n:Nat}{g:TG}(Pv:Nat->St->Hp->Prop)(h0:Pv 0 σ H)
  (hs:∀i σ H,i<n->Pv i σ H->g (.int (lo+i)) σ H λσ2 H2=>tb {D with nx:=Pv (i+1),ct:=Pv (i+1),bk:=D.nx} σ2 H2) (hd:∀σ H,Pv n σ H->D.nx σ H) :
  ∃W:Nat->Nat->St->Hp->Prop,(∃m,W 0 m σ H)/\∀i m σ H,W i m σ H ->
   ((wW lo n).stop i H/\D.nx σ H)\/((wW lo n).go i H/\∃N:St->Hp->Prop,(∀σ' H',N σ' H'->∃m',m'<m/\W (i+1) m' σ' H')/\∀x H',(wW lo n).Ai i H x H'->g x σ H' λσ2 H2=>tb {D with nx:=N,ct:=N,bk:=D.nx} σ2 H2):=by
 refine⟨λi m σ H=>m=n-i/\i<=n/\Pv i σ H,⟨n,by simp,GH _,h0⟩,?_⟩
 rintro i m σ H ⟨rfl,hi,p⟩;by_cases hlt:i<n
 ·refine .inr ⟨hlt,Pv (i+1),λσ' H' p'=>⟨n-(i+1),by lia,rfl,hlt,p'⟩,λx H' y=>?_⟩
  obtain⟨e,y⟩:=y;subst e y;exact hs i σ _ hlt p
 ·have e:i=n:=by lia
  subst e;exact .inl ⟨Gp _,hd σ H p⟩
abbrev R2:=V->V->Hp->VK->Prop
variable{r:R2}
noncomputable def dy(X:Cx)(f:Value->Value->Sem Value)(r:R2):Prop:=
 ∀(pins:List (Addr×Obj)) (s:Shared) (σ:St) (H:Hp) (x y:V) (v u:Value) (Q:VK),Inv X pins σ H s->RelV x v->RelV y u->r x y H Q ->
  wpAny (model X.prog X.w) X.A (f v u) (EP X pins σ Q) X.xe s
noncomputable def EI(X:Cx)(f:Value->Sem Value)(r:V->Hp->VK->Prop):Prop:=
 ∀(pins:List (Addr×Obj)) (s:Shared) (σ:St) (H:Hp) (x:V) (v:Value) (Q:VK),Inv X pins σ H s->RelV x v->r x H Q ->
  wpAny (model X.prog X.w) X.A (f v) (EP X pins σ Q) X.xe s
noncomputable def b6(X:Cx)(f:Value)(r:List V->Hp->VK->Prop):Prop:=
 ∀(pins:List (Addr×Obj)) (s:Shared) (σ:St) (H:Hp) (xs:List V) (us:List Value) (Q:VK),Inv X pins σ H s->Vals xs us->r xs H Q ->
  wpAny (model X.prog X.w) X.A (call f us) (EP X pins σ Q) X.xe s
noncomputable def FD(X:Cx)(r:V->Hp->(Bool->Hp->Prop)->Prop):Prop:=
 ∀(pins:List (Addr×Obj)) (s:Shared) (σ:St) (H:Hp) (x:V) (v:Value) (Q:Bool->Hp->Prop),Inv X pins σ H s->RelV x v->r x H Q ->
  wpAny (model X.prog X.w) X.A (truthy v) (TP X pins σ Q) X.xe s
noncomputable def tW(r:R2)(ta tb:TE):TE:=λσ H Q=>ta σ H λx H1=>tb σ H1 λy H2=>r x y H2 Q
noncomputable def DE(r:V->Hp->VK->Prop)(ta:TE):TE:=λσ H Q=>ta σ H λx H1=>r x H1 Q
noncomputable def rI(C:Int->Int->Prop)(g:Int->Int->V):R2:=λx y H Q=>∃i j,x=.int i/\y=.int j/\C i j/\Q (g i j) H
noncomputable def tB(g:Int->Int->V):R2:=λx y H Q=>∃i j,x=.int i/\y=.int j/\Q (g i j) H
noncomputable def rU(g:Int->V):V->Hp->VK->Prop:=λx H Q=>∃i,x=.int i/\Q (g i) H
section
variable {X:Cx} {a b c:Expr} {ta tb tc:TE} {pos:Pos}
theorem Bw(ha:PE X a ta)(hb:PE X b tb){s:Shared}{R:V->V->Hp->Prop}(I:Inv X pins σ H s)
  (h:ta σ H λx H1=>tb σ H1 λy H2=>R x y H2)  
  (hf:∀v u s2 x y H2,Inv X pins σ H2 s2->RelV x v->RelV y u->R x y H2->wpAny (model X.prog X.w) X.A (f v u) Q X.xe s2) :
  wpAny (model X.prog X.w) X.A (eval a X.env) (λv s₁=>wpAny (model X.prog X.w) X.A (eval b X.env) (λu s₂=>wpAny (model X.prog X.w) X.A (f v u) Q X.xe s₂) X.xe s₁) X.xe s:=by
 refine bJ (ha pins s σ H _ I h) λv s1 hq37=>?_;obtain⟨x,H1,I1,r1,q1⟩:=hq37;refine bJ (hb pins s1 σ H1 _ I1 q1) λu s2 hq38=>?_;obtain⟨y,H2,I2,r2,q2⟩:=hq38;exact hf v u s2 x y H2 I2 r1 r2 q2
theorem DH{op:Operator}(ho:dy X (binaryOp op) r)(ha:PE X a ta)(hb:PE X b tb):PE X (.BinOp a op b pos) (tW r ta tb):=by
 intro pins s σ H Q I h;exact wpAny_BinOp (Bw ha hb I h λv u s2 x y H2 I2 rx ry q=>ho pins s2 σ H2 x y v u Q I2 rx ry q)
theorem Dz{op:UnaryOp}{r:V->Hp->VK->Prop}(ho:EI X (unaryOp op) r)(ha:PE X a ta):PE X (.UnaryOp op a pos) (DE r ta):=by
 intro pins s σ H Q I h;exact UnaryOp_ (bJ (ha pins s σ H _ I h) λv s1 ⟨x,H1,I1,r1,q1⟩=>ho pins s1 σ H1 x v Q I1 r1 q1)
theorem CO{C:Int->Int->Prop}
  (rule:∀(i j:Int) (t u:Tok) (s:Shared) (Q:Value->Shared->Prop) (E:Value->Shared->Prop),C i j->Q (.int (g i j) s.toks) {s with toks:=s.toks+1}->wpAny (model X.prog X.w) X.A (f (.int i t) (.int j u)) Q E s) :
  dy X f (rI C λi j=>.int (g i j)):=by
 intro pins s σ H x y v u Q I rx ry h;obtain⟨i,j,rfl,rfl,hc,q⟩:=h;obtain⟨t,rfl⟩:=rx;obtain⟨t',rfl⟩:=ry;exact rule i j t t' s _ _ hc ⟨.int (g i j),H,I.tok _,⟨_,rfl⟩,q⟩
theorem Eu
  (rule:∀(i j:Int) (t u:Tok) (s:Shared) (Q:Value->Shared->Prop) (E:Value->Shared->Prop),Q (.int (g i j) s.toks) {s with toks:=s.toks+1}->wpAny (model X.prog X.w) X.A (f (.int i t) (.int j u)) Q E s) :
  dy X f (tB λi j=>.int (g i j)):=by
 intro pins s σ H x y v u Q I rx ry h;obtain⟨i,j,rfl,rfl,q⟩:=h;obtain⟨t,rfl⟩:=rx;obtain⟨t',rfl⟩:=ry;exact rule i j t t' s _ _ ⟨.int (g i j),H,I.tok _,⟨_,rfl⟩,q⟩
theorem zO{g:Int->Int->Bool}
  (rule:∀(i j:Int) (t u:Tok) (s:Shared) (Q:Value->Shared->Prop) (E:Value->Shared->Prop),Q (.bool (g i j)) s->wpAny (model X.prog X.w) X.A (f (.int i t) (.int j u)) Q E s) :
  dy X f (tB λi j=>.bl (g i j)):=by
 intro pins s σ H x y v u Q I rx ry h;obtain⟨i,j,rfl,rfl,q⟩:=h;obtain⟨t,rfl⟩:=rx;obtain⟨t',rfl⟩:=ry;exact rule i j t t' s _ _ ⟨.bl (g i j),H,I,rfl,q⟩
noncomputable def Fi(i j:Int):Prop:=0<j/\j<1073741824
noncomputable def Ey(i j:Int):Prop:=0<=j/\j<=1000000/\i.natAbs<2^64
noncomputable def um(i j:Int):Prop:=(-(2^64)<i/\i<2^64)\/(-(2^64)<j/\j<2^64)
theorem um.ok{i j:Int}(h:um i j):IntMulOk i j:=by
 rcases h with ⟨h1,h2⟩|⟨h1,h2⟩
 ·exact .of_left (intBits_le_64 h1 h2)
 ·exact .of_right (intBits_le_64 h1 h2)
theorem Bj:dy X (binaryOp .Add) (tB λi j=>.int (i+j)):=Eu λ_ _ _ _ _ _ _ q=>add_int q
theorem bZ:dy X (binaryOp .Sub) (tB λi j=>.int (i-j)):=Eu λ_ _ _ _ _ _ _ q=>sub_int q
theorem AW:dy X (binaryOp .Mult) (rI um λi j=>.int (i*j)):=CO λ_ _ _ _ _ _ _ hc q=>mul_int q hc.ok
theorem lB:dy X (binaryOp .FloorDiv) (rI Fi λi j=>.int (i / j)):=CO λi j _ _ _ _ _ hc q=>by
 have h1:(0:Int)<j:=hc.1;have h2:j<1073741824:=hc.2;exact floordiv_int (by lia) (by rw[Int.fdiv_eq_ediv_of_nonneg i (by lia)];exact q) (.inl (PyProof.noPylong_small (by lia)))
theorem cg:dy X (binaryOp .Mod) (rI (λ_ j=>0<j) λi j=>.int (i % j)):=CO λi j _ _ _ _ _ hc q=>by
 have h1:(0:Int)<j:=hc;exact mod_int' (by lia) (by rw[Int.fmod_eq_emod_of_nonneg i (by lia)];exact q)
theorem Ck:dy X (binaryOp .Pow) (rI Ey λi j=>.int (i^j.toNat)):=CO λ_ _ _ _ _ _ _ hc q=>pow_int_small hc.1 hc.2.1 hc.2.2 q
theorem Cs:dy X (binaryOp .LShift) (rI Ey λi j=>.int (i*2^j.toNat)):=CO λ_ _ _ _ _ _ _ hc q=>lshift_int_small hc.1 hc.2.1 hc.2.2 q
theorem FZ{f:Value->Sem Value}{g:Int->Int}
  (rule:∀(i:Int) (t:Tok) (s:Shared) (Q:Value->Shared->Prop) (E:Value->Shared->Prop),Q (.int (g i) s.toks) {s with toks:=s.toks+1}->wpAny (model X.prog X.w) X.A (f (.int i t)) Q E s) :
  EI X f (rU λi=>.int (g i)):=by
 intro pins s σ H x v Q I rx h;obtain⟨i,rfl,q⟩:=h;obtain⟨t,rfl⟩:=rx;exact rule i t s _ _ ⟨.int (g i),H,I.tok _,⟨_,rfl⟩,q⟩
theorem gp:EI X (unaryOp .USub) (rU λi=>.int (-i)):=FZ λ_ _ _ _ _ q=>neg_int q
end
noncomputable def Ef:V->V->Bool
 |.aP,.aP=>true|.aP,.int _=>true|.int _,.aP=>true|.aP,.bl _=>true|.bl _,.aP=>true|.aP,.str _=>true|.str _,.aP=>true
 |.int _,.int _=>true|.bl _,.bl _=>true|.str _,.str _=>true|.oG _,.oG _=>true
 |.int _,.str _=>true|.str _,.int _=>true|.bl _,.str _=>true|.str _,.bl _=>true
 |_,_=>false
noncomputable def Am:R2:=λx y H Q=>Ef x y=true/\Q (.bl (decide (x=y))) H
noncomputable def CD:R2:=λx y H Q=>Ef x y=true/\Q (.bl (!decide (x=y))) H
theorem rG{i j:Int}:decide (V.int i=V.int j)=(i == j):=by
 rw[IL];simp
theorem wU{i j:Bool}:decide (V.bl i=V.bl j)=(i == j):=by
 rw[IL];simp
theorem qF{i j:Str}:decide (V.str i=V.str j)=(i == j):=by
 rw[IL];simp
theorem rC{i j:Array UInt8}:decide (V.oG i=V.oG j)=(i.toList == j.toList):=by
 rw[IL];cases i;cases j;simp
section
variable {X:Cx} {a b c:Expr} {ta tb tc:TE} {pos:Pos}
theorem aX{s:Shared}{Q:VK}{k k':Bool}(I:Inv X pins σ H s)(q:Q (.bl k) H)(e:k=k'):EP X pins σ Q (.bool k') s:=by
 subst e;exact⟨.bl k,H,I,rfl,q⟩
theorem DL:dy X (compareOp .Eq) Am:=by
 intro pins s σ H x y v u Q I rx ry h;obtain⟨hs,q⟩:=h
 cases x with
 |aP =>
  cases rx
  cases y with
  |aP=>cases ry;exact PySem.EqNone.eq_none_none (aX I q (by simp))
  |bl j=>cases ry;exact PySem.EqNone.eq_none_bool (aX I q (by simp))
  |int j=>obtain⟨t',rfl⟩:=ry;exact PySem.EqNone.eq_none_int (aX I q (by simp))
  |str j=>obtain⟨t',rfl⟩:=ry;exact PySem.EqNone.eq_none_str (aX I q (by simp))
  |_=>exact absurd (show false=true from hs) Gx
 |bl i =>
  cases rx
  cases y with
  |aP=>cases ry;exact PySem.EqNone.eq_bool_none (aX I q (by simp))
  |bl j=>cases ry;exact eq_bool (aX I q wU)
  |str j=>obtain⟨t',rfl⟩:=ry;exact PySem.EqMixed.eq_bool_str (aX I q (by simp))
  |_=>exact absurd (show false=true from hs) Gx
 |int i =>
  obtain⟨t,rfl⟩:=rx
  cases y with
  |aP=>cases ry;exact PySem.EqNone.eq_int_none (aX I q (by simp))
  |int j=>obtain⟨t',rfl⟩:=ry;exact eq_int (aX I q rG)
  |str j=>obtain⟨t',rfl⟩:=ry;exact PySem.EqMixed.eq_int_str (aX I q (by simp))
  |_=>exact absurd (show false=true from hs) Gx
 |str i =>
  obtain⟨t,rfl⟩:=rx
  cases y with
  |aP=>cases ry;exact PySem.EqNone.eq_str_none (aX I q (by simp))
  |bl j=>cases ry;exact PySem.EqMixed.eq_str_bool (aX I q (by simp))
  |int j=>obtain⟨t',rfl⟩:=ry;exact PySem.EqMixed.eq_str_int (aX I q (by simp))
  |str j=>obtain⟨t',rfl⟩:=ry;exact eq_str (aX I q qF)
  |_=>exact absurd (show false=true from hs) Gx
 |oG i =>
  obtain⟨t,rfl⟩:=rx
  cases y with
  |oG j=>obtain⟨t',rfl⟩:=ry;exact PySem.W.eq_bytes (aX I q rC)
  |_=>exact absurd (show false=true from hs) Gx
 |_=>cases y<;>exact absurd (show false=true from hs) Gx
theorem CW:dy X (compareOp .NotEq) CD:=by
 intro pins s σ H x y v u Q I rx ry h;obtain⟨hs,q⟩:=h
 cases x with
 |aP =>
  cases rx
  cases y with
  |aP=>cases ry;exact PySem.EqNone.ne_none_none (aX I q (by simp))
  |bl j=>cases ry;exact PySem.EqNone.ne_none_bool (aX I q (by simp))
  |int j=>obtain⟨t',rfl⟩:=ry;exact PySem.EqNone.ne_none_int (aX I q (by simp))
  |str j=>obtain⟨t',rfl⟩:=ry;exact PySem.EqNone.ne_none_str (aX I q (by simp))
  |_=>exact absurd (show false=true from hs) Gx
 |bl i =>
  cases rx
  cases y with
  |aP=>cases ry;exact PySem.EqNone.ne_bool_none (aX I q (by simp))
  |bl j=>cases ry;exact ne_bool (aX I q (Hj not wU))
  |str j=>obtain⟨t',rfl⟩:=ry;exact PySem.EqMixed.ne_bool_str (aX I q (by simp))
  |_=>exact absurd (show false=true from hs) Gx
 |int i =>
  obtain⟨t,rfl⟩:=rx
  cases y with
  |aP=>cases ry;exact PySem.EqNone.ne_int_none (aX I q (by simp))
  |int j=>obtain⟨t',rfl⟩:=ry;exact ne_int (aX I q (Hj not rG))
  |str j=>obtain⟨t',rfl⟩:=ry;exact PySem.EqMixed.ne_int_str (aX I q (by simp))
  |_=>exact absurd (show false=true from hs) Gx
 |str i =>
  obtain⟨t,rfl⟩:=rx
  cases y with
  |aP=>cases ry;exact PySem.EqNone.ne_str_none (aX I q (by simp))
  |bl j=>cases ry;exact PySem.EqMixed.ne_str_bool (aX I q (by simp))
  |int j=>obtain⟨t',rfl⟩:=ry;exact PySem.EqMixed.ne_str_int (aX I q (by simp))
  |str j=>obtain⟨t',rfl⟩:=ry;exact ne_str (aX I q (Hj not qF))
  |_=>exact absurd (show false=true from hs) Gx
 |oG i =>
  obtain⟨t,rfl⟩:=rx
  cases y with
  |oG j=>obtain⟨t',rfl⟩:=ry;exact PySem.W.ne_bytes (aX I q (Hj not rC))
  |_=>exact absurd (show false=true from hs) Gx
 |_=>cases y<;>exact absurd (show false=true from hs) Gx
theorem gB:dy X (compareOp .Lt) (tB λi j=>.bl (decide (i<j))):=zO λ_ _ _ _ _ _ _ q=>lt_int q
theorem zX:dy X (compareOp .LtE) (tB λi j=>.bl (decide (i<=j))):=zO λ_ _ _ _ _ _ _ q=>le_int q
theorem Ar:dy X (compareOp .Gt) (tB λi j=>.bl (decide (j<i))):=zO λ_ _ _ _ _ _ _ q=>gt_int q
theorem r9:dy X (compareOp .GtE) (tB λi j=>.bl (decide (j<=i))):=zO λ_ _ _ _ _ _ _ q=>ge_int q
theorem rT:dy X (compareOp .In) (λx y H Q=>∃i j,x=.str i/\y=.str j/\Q (.bl (!(Builtin.Str.occurrences j i 0 j.length 1).isEmpty)) H):=by
 intro pins s σ H x y v u Q I rx ry h;obtain⟨i,j,rfl,rfl,q⟩:=h;obtain⟨t,rfl⟩:=rx;obtain⟨t',rfl⟩:=ry;exact in_str (aX I q rfl)
theorem cF:dy X (compareOp .Is) (λx y H Q=>y=.aP/\Q (.bl (decide (x=.aP))) H):=by
 intro pins s σ H x y v u Q I rx ry h;obtain⟨rfl,q⟩:=h;cases ry;refine is_none_gen (aX I q ?_)
 cases x<;>first
  | (cases rx;rfl)
  | (obtain⟨t,rfl⟩:=rx;rfl)
theorem yZ:dy X (compareOp .IsNot) (λx y H Q=>y=.aP/\Q (.bl (!decide (x=.aP))) H):=by
 intro pins s σ H x y v u Q I rx ry h;obtain⟨rfl,q⟩:=h;cases ry;refine isnot_none_gen (aX I q ?_)
 cases x<;>first
  | (cases rx;rfl)
  | (obtain⟨t,rfl⟩:=rx;rfl)
theorem dy.or{r':R2}(h:dy X f r)(h':dy X f r'):dy X f (λx y H Q=>r x y H Q\/r' x y H Q):=by
 intro pins s σ H x y v u Q I rx ry q;rcases q with q|q
 ·exact h pins s σ H x y v u Q I rx ry q
 ·exact h' pins s σ H x y v u Q I rx ry q
theorem zA{op:CmpOp}(ho:dy X (compareOp op) r)(ha:PE X a ta)(hb:PE X b tb)(hm:behindInMarks op b=false):PE X (.Compare a [op] [b] pos) (tW r ta tb):=by
 intro pins s σ H Q I h;exact wpAny_Compare1 (Bw ha hb I h λv u s2 x y H2 I2 rx ry q=>ho pins s2 σ H2 x y v u Q I2 rx ry q) hm
noncomputable def iz(t:TE):TT:=λσ H Q=>t σ H λx H'=>∃k,x=.bl k/\Q k H'
theorem xZ{op:CmpOp}(ho:dy X (compareOp op) r)(ha:PE X a ta)(hb:PE X b tb)(hm:behindInMarks op b=false):PT X (.Compare a [op] [b] pos) (iz (tW r ta tb)):=by
 intro pins s σ H Q I h;refine wpAny_isTrue_Compare1 (bJ (ha pins s σ H _ I h) λv s1 ⟨x,H1,I1,r1,q1⟩=>bJ (hb pins s1 σ H1 _ I1 q1) λu s2 ⟨y,H2,I2,r2,q2⟩=>
  bJ (ho pins s2 σ H2 x y v u _ I2 r1 r2 q2) λc s3 ⟨z,H3,I3,r3,k,e,q3⟩=>?_) hm
 subst e;cases r3;exact Iu ⟨H3,I3,q3⟩
noncomputable def jA(r r':R2)(ta tb tc:TE):TE:=λσ H Q=>ta σ H λx H1=>tb σ H1 λy H2=>r x y H2 λz H3=>∃k,z=.bl k /\
 (if k=true then tc σ H3 λw' H4=>r' y w' H4 Q else Q (.bl false) H3)
theorem xw{op op':CmpOp}{r':R2}(ho:dy X (compareOp op) r)(ho':dy X (compareOp op') r')(ha:PE X a ta)(hb:PE X b tb)(hc:PE X c tc)
  (hm:autoParam (lastMarks [op,op'] [b,c]=false) ℜ5):PT X (.Compare a [op,op'] [b,c] pos) (iz (jA r r' ta tb tc)):=by
 intro pins s σ H Q I h;refine isTrue_chain (bJ (ha pins s σ H _ I h) λv s1 ⟨x,H1,I1,r1,q1⟩=>test_link (bJ (hb pins s1 σ H1 _ I1 q1) λu s2 ⟨y,H2,I2,r2,q2⟩=>
  bJ (ho pins s2 σ H2 x y v u _ I2 r1 r2 q2) λd s3 ⟨z,H3,I3,r3,k,e,q3⟩=>?_)) hm
 subst e;cases r3;refine Iu ?_
 cases k with
 |false =>
  obtain⟨k',e',q'⟩:=q3;cases e';exact ite_ff ⟨H3,I3,q'⟩
 |true =>
  refine ite_tt (test_last (bJ (hc pins s3 σ H3 _ I3 q3) λw' s4 ⟨z',H4,I4,r4,q4⟩=>bJ (ho' pins s4 σ H4 y z' u w' _ I4 r2 r4 q4) λd' s5 hq39=>?_));obtain⟨z2,H5,I5,r5,k2,e2,q5⟩:=hq39;subst e2;cases r5;exact Iu ⟨H5,I5,q5⟩
noncomputable def wH(K:LA)(x:V)(H:Hp)(k:Bool):Prop:=
 match x with
 |.aP=>k=false
 |.bl b=>k=b
 |.int i=>k=(i != 0)
 |.str y=>y.length<=sizeLine/\k=((y.length:Int) != 0)
 |.oG y=>y.size<=sizeLine/\k=((y.size:Int) != 0)
 |.ref p=>(∃xs,bY K H p xs/\k=!xs.isEmpty)\/(∃xs,bz K H p xs/\k=!xs.isEmpty)\/∃kvs,H p=some (.dK kvs)/\k=!kvs.isEmpty
 |_=>False
theorem pP{κ:Type}{kvs:List (κ×V)}{vs:List (κ×Value)}(r:KV kvs vs):(!vs.isEmpty)=!kvs.isEmpty:=by
 cases r<;>rfl
theorem iZ{its:List Value}(r:Vals xs its):(!its.toArray.isEmpty)=!xs.isEmpty:=by
 cases r<;>simp
theorem hJ:(sizeLine:Nat)<2^63:=by rw[HC];decide
theorem Cy:FD X (λx H Q=>∃k,wH X.K x H k/\Q k H):=by
 intro pins s σ H x v Q I rx h;obtain⟨k,e,q⟩:=h;have hl:=hJ;have hs:sizeLine=16777216:=HC
 cases x with
 |aP =>
  cases rx;have e':k=false:=e;subst e';exact truthy_none ⟨H,I,q⟩
 |bl b =>
  cases rx;have e':k=b:=e;subst e';exact Iu ⟨H,I,q⟩
 |int i =>
  obtain⟨t,rfl⟩:=rx;have e':k=(i != 0):=e;subst e';exact PySem.P.truthy_int ⟨H,I,q⟩
 |str y =>
  obtain⟨t,rfl⟩:=rx;obtain⟨hy,e'⟩:y.length<=sizeLine/\k=((y.length:Int) != 0):=e;subst e';exact PySem.P.truthy_str (by lia) ⟨H,I.tok _,q⟩
 |oG y =>
  obtain⟨t,rfl⟩:=rx;obtain⟨hy,e'⟩:y.size<=sizeLine/\k=((y.size:Int) != 0):=e;subst e';exact PySem.W.truthy_bytes (by lia) ⟨H,I.tok _,q⟩
 |ref p =>
  cases rx;have e':(∃xs,bY X.K H p xs/\k=!xs.isEmpty)\/(∃xs,bz X.K H p xs/\k=!xs.isEmpty)\/∃kvs,H p=some (.dK kvs)/\k=!kvs.isEmpty:=e;rcases e' with ⟨xs,hx,e'⟩|⟨xs,hx,e'⟩|⟨kvs,hx,e'⟩
  ·subst e';obtain⟨its,r,pl,hz⟩:=I.list hx;have hlen:=r.length;exact wpAny_truthy_list pl.isList (by simp only[Gy];lia) ⟨H,I.tok _,by rw[iZ r];exact q⟩
  ·subst e';obtain⟨its,r,pl,hz⟩:=I.tuple hx;have hlen:=r.length;exact truthy_tuple pl (by simp only[Gy];lia) ⟨H,I.tok _,by rw[iZ r];exact q⟩
  ·subst e';obtain⟨hz,hS,vs,r,m⟩:kvs.length<=sizeLine/\(p == sysModules)=false/\∃vs,KV kvs vs/\s.heap.DictOf (bF X.prog X.w) p vs:=I.aU p _ hx;have hlen:kvs.length=vs.length:=Paired.length r;exact wpAny_truthy_dict hS m (by lia) ⟨H,I.tok _,by rw[pP r];exact q⟩
 |_=>exact (show False from e).elim
theorem tZ(ha:PE X a ta)(he:∀whole,isTrue a X.env whole=(do let v <- whole;standAt a.pos;holding [v] (truthy v))):
  PT X a (λσ H Q=>ta σ H λx H'=>∃k,wH X.K x H' k/\Q k H'):=by
 intro pins s σ H Q I h;exact isTrue_plain (bJ (ha pins s σ H _ I h) λv s1 ⟨x,H1,I1,r1,q1⟩=>Cy pins s1 σ H1 x v Q I1 r1 q1) (he _)
theorem oV:dy X (binaryOp .Add) (λx y H Q=>∃i j,x=.str i/\y=.str j/\i.length+j.length<=sizeLine/\Q (.str (i++j)) H):=by
 intro pins s σ H x y v u Q I rx ry h;obtain⟨i,j,rfl,rfl,hz,q⟩:=h;obtain⟨t,rfl⟩:=rx;obtain⟨t',rfl⟩:=ry;exact add_str (λt' tk=>⟨.str (i++j),H,I.tok _,⟨_,rfl⟩,q⟩) hz
theorem vals1{x:V}(r:Vals [x] us):∃u,us=[u]/\RelV x u:=by
 cases r with
 |cons r1 r2=>cases r2;exact⟨_,rfl,r1⟩
theorem vals2{x y:V}(r:Vals [x,y] us):∃u w',us=[u,w']/\RelV x u/\RelV y w':=by
 cases r with
 |cons r1 r2 =>
  cases r2 with
  |cons r3 r4=>cases r4;exact⟨_,_,rfl,r1,r3⟩
theorem uV:b6 X (.builtin "abs") (λxs H Q=>∃i,xs=[.int i]/\Q (.int (if i<0 then -i else i)) H):=by
 intro pins s σ H xs us Q I r h;obtain⟨i,rfl,q⟩:=h;obtain⟨u,rfl,t,rfl⟩:=vals1 r;exact call_abs_int λu tk=>⟨.int (if i<0 then -i else i),H,I.tok _,⟨_,rfl⟩,q⟩
theorem tO(hc:X.calm=true):b6 X (.builtin "max") (λxs H Q=>∃i j,xs=[.int i,.int j]/\Q (.int (if j > i then j else i)) H):=by
 intro pins s σ H xs us Q I r h;obtain⟨i,j,rfl,q⟩:=h;obtain⟨u,w',rfl,⟨t,rfl⟩,⟨t',rfl⟩⟩:=vals2 r;refine max_two_ints (I.ok.hd hc) λh' tk k=>⟨_,H,I.kept k,?_,q⟩;by_cases hj:j > i
 ·rw[Gn hj,Gn hj];exact⟨_,rfl⟩
 ·rw[Gj hj,Gj hj];exact⟨_,rfl⟩
theorem sC(hc:X.calm=true):b6 X (.builtin "min") (λxs H Q=>∃i j,xs=[.int i,.int j]/\Q (.int (if j<i then j else i)) H):=by
 intro pins s σ H xs us Q I r h;obtain⟨i,j,rfl,q⟩:=h;obtain⟨u,w',rfl,⟨t,rfl⟩,⟨t',rfl⟩⟩:=vals2 r;refine min_two_ints (I.ok.hd hc) λh' tk k=>⟨_,H,I.kept k,?_,q⟩;by_cases hj:j<i
 ·rw[Gn hj,Gn hj];exact⟨_,rfl⟩
 ·rw[Gj hj,Gj hj];exact⟨_,rfl⟩
theorem kJ:b6 X (.type "int") (λxs H Q=>(∃i,xs=[.int i]/\Q (.int i) H)\/∃k,xs=[.bl k]/\Q (.int (if k then 1 else 0)) H):=by
 intro pins s σ H xs us Q I r h;rcases h with ⟨i,rfl,q⟩|⟨k,rfl,q⟩
 ·obtain⟨u,rfl,t,rfl⟩:=vals1 r;exact call_int_int ⟨.int i,H,I,⟨_,rfl⟩,q⟩
 ·obtain⟨u,rfl,r1⟩:=vals1 r;cases r1;exact call_int_bool ⟨.int (if k then 1 else 0),H,I.tok _,⟨_,rfl⟩,q⟩
noncomputable def Eh(K:LA)(x:V)(H:Hp)(n:Nat):Prop:=
 match x with
 |.str y=>y.length<=sizeLine/\n=y.length
 |.oG y=>y.size<=sizeLine/\n=y.size
 |.ref p=>(∃xs,bY K H p xs/\n=xs.length)\/∃xs,bz K H p xs/\n=xs.length
 |_=>False
theorem gY:b6 X (.builtin "len") (λxs H Q=>∃x n,xs=[x]/\Eh X.K x H n/\Q (.int n) H):=by
 intro pins s σ H xs us Q I r h;obtain⟨x,n,rfl,e,q⟩:=h;obtain⟨u,rfl,rx⟩:=vals1 r;have hl:=hJ;have hs:sizeLine=16777216:=HC
 cases x with
 |str y =>
  obtain⟨t,rfl⟩:=rx;obtain⟨hy,e'⟩:y.length<=sizeLine/\n=y.length:=e;subst e';exact len_str (by lia) ⟨.int _,H,I.tok _,⟨_,rfl⟩,q⟩
 |oG y =>
  obtain⟨t,rfl⟩:=rx;obtain⟨hy,e'⟩:y.size<=sizeLine/\n=y.size:=e;subst e';exact PySem.W.len_bytes (by lia) ⟨.int _,H,I.tok _,⟨_,rfl⟩,q⟩
 |ref p =>
  cases rx;have e':(∃xs,bY X.K H p xs/\n=xs.length)\/∃xs,bz X.K H p xs/\n=xs.length:=e;rcases e' with ⟨xs,hx,e'⟩|⟨xs,hx,e'⟩
  ·subst e';obtain⟨its,r',pl,hz⟩:=I.list hx;have hlen:=r'.length;exact Calls.call_len_list pl.isList (by simp only[Gy];lia) ⟨.int xs.length,H,I.tok _,⟨_,by simp only[Gy];rw[hlen]⟩,q⟩
  ·subst e';obtain⟨its,r',pl,hz⟩:=I.tuple hx;have hlen:=r'.length;exact len_tuple pl (by simp only[Gy];lia) ⟨.int xs.length,H,I.tok _,⟨_,by simp only[Gy];rw[hlen]⟩,q⟩
 |_=>exact (show False from e).elim
end
structure pG (h:Heap) (x dx C:Addr) (mA:Str->Option Value):Prop where
 obj:h.get? x=some (PySem.W.instObj C dx)
 ns:h.Ns1 dx mA
 ne:dx≠x
theorem su{dx:Addr}(n:h.Ns1 dx mA):∃od,h.get? dx=some od/\∀name,PySem.W.lookIn name od=some (mA name):=by
 obtain⟨o,es,ep,ho,hd,hk,_,hm⟩:=n;refine⟨o,ho,λname=>?_⟩;have e:=hm name;unfold nsFind findBy at e;rw[<- Array.find?_toList] at e;unfold PySem.W.lookIn;rw[hd];dsimp only;split
 ·rename_i y q;rw[q] at e;exact Hj some e
 ·rename_i q;rw[q] at e;have a:es.toList.any (·.refKey)=false:=by
   rw[List.any_eq_false];intro y hy;obtain⟨z,t,hkey⟩:=hk y (Array.mem_toList_iff.mp hy);simp[DictEntry.refKey,hkey]
  have a':¬ es.toList.any (·.refKey)=true:=by rw[a];exact Gx
  rw[Gj a'];exact Hj some e
theorem pG.look{x dx:Addr}(I:pG h x dx C mA):∃od,PySem.W.InstAt h x (PySem.W.instObj C dx) C (some od)/\∀name,PySem.W.lookIn name od=some (mA name):=
 let ⟨od,ho,hl⟩:=su I.ns
 ⟨od,⟨I.obj,rfl,rfl,ho⟩,hl⟩
section
variable {prog:Program} {w:World} {A:Around} {E:Value->Shared->Prop} {s:Shared} {K:LA} {x dx C f:Addr} {mA:Str->Option Value} {name:Str} {v:Value}
theorem get_map{expr:Bool}(X:K.In s.heap)(I:pG s.heap x dx C mA)(hg:PySem.W.plainGet K C name=true)(hh:PySem.W.hasDictIn K C=true)
  (ha:PySem.W.findIn K (.ref C) name=some none) (hv:mA name=some v) (hv':PySem.W.handedIn v=true) (h:Q v {s with toks:=s.toks+1}) :
  wpAny (model prog w) A (getAttr (.ref x) name expr) Q E s:=by
 obtain⟨od,J,hl⟩:=I.look;exact PySem.W.get_value X J (PySem.W.plainGet_of hg).1 (PySem.W.findObj_own hh ha rfl (by rw[hl,hv])) hv' h
theorem vG{Q:Value×List Value->Shared->Prop}(X:K.In s.heap)(I:pG s.heap x dx C mA)(hg:PySem.W.plainGet K C name=true)
  (hf:PySem.W.findIn K (.ref C) name=some (some (.ref f))) (ht:PySem.W.isFn K (.ref f)=true) (hv:mA name=none) (h:Q (.ref f,[.ref x]) s) :
  wpAny (model prog w) A (getMethod (.ref x) name pl) Q E s:=by
 obtain⟨od,J,hl⟩:=I.look;exact PySem.W.method_fn X J (PySem.W.plainGet_of hg).1 (PySem.W.plainGet_of hg).2 hf (IY.mp ht) (by show (PySem.W.lookIn name od).map (·.isSome)=some false;rw[hl,hv];rfl) h
theorem yY{ns:List Str}{Q:Unit->Shared->Prop}(X:K.In s.heap)(I:pG s.heap x dx C mA)
  (hs:PySem.W.findIn K (.ref C) "__setattr__"=some (some (.builtin "object.__setattr__"))) (hp:PySem.W.plainOver K C=true) (ht:PySem.W.takerIn K C name=some none) (hh:PySem.W.hasDictIn K C=true)
  (hw:PySem.Within mA ns) (hsz:ns.length<=sizeLine)
  (h:∀h',pG h' x dx C (λy=>if y=name then some v else mA y)->Heap.SameBut dx s.heap h'->Q () {s with heap:=h',toks:=s.toks+2}) :
  wpAny (model prog w) A (setAttr (.ref x) name v) Q E s:=by
 obtain⟨od,J,hl⟩:=I.look;refine PySem.W.set_plain X J hs (PySem.W.osa_open (s:={s with toks:=s.toks+1}) (r:=none) X J hp ht λb=>?_)
 obtain⟨cd,hc,hd'⟩:=PySem.W.any_some hh;have hx:s.heap.get? x=some ⟨.ref C,some dx,.plain,#[]⟩:=I.obj;refine Gg (Gq (Gg (Gg (wpAny_loadPart hx (Gg (PySem.W.Looks.here (s:={s with toks:=s.toks+1}) (PySem.W.looks_clsIn X hc) ?_))))))
 rw[hd'];refine Gq (a:=some dx) (Gg (Gq (Gg ?_)));refine wpAny_nsSet1 (s:={s with toks:=s.toks+1}) I.ns λh' hn2 hs2=>?_
 obtain⟨oD,esD,epD,hoD,hdD,hcD⟩:=hn2.count (PySem.Within.cons name v hw);refine Gg (wpAny_lookBehind hoD (by rw[hdD];exact pastItsLine_dict (Gr hcD (by rw[GF];lia))) ?_)
 exact Gq (h _ ⟨(hs2.2 _ (HB I.ne)).trans I.obj,hn2,I.ne⟩ hs2)
theorem vo{R:Result->Shared->Prop}{vs:List Value}(X:K.In s.heap)(hm:PySem.W.makesIn K C=true)
  (hi:PySem.W.findIn K (.ref C) "__init__"=some (some (.ref f))) (hf:PySem.W.typeIn K (.ref f)=some (.type "function"))
  (h:codeAny (model prog w) (A.under (.builtin "type.__call__" ⟨.ref C::vs,kw⟩)) (.call (.ref f) ⟨.ref (s.heap.objs.size+1)::vs,kw⟩) (PySem.W.InitBack (s.heap.objs.size+1) R)
   {s with heap:=(s.heap.push PySem.W.emptyDict).push (PySem.W.instObj C s.heap.objs.size)}) :
  codeAny (model prog w) A (.call (.ref C) ⟨vs,kw⟩) R s:=by
 obtain⟨hh,g,d,t,os⟩:=s;exact PySem.W.make_core (PySem.W.makes_of X hm) (PySem.W.looks_findIn X hi) (λself=>PySem.W.bind_fn X self hf) (.inl rfl) h
end
noncomputable def d5(f:Str)(v:V):List (Str×V)->List (Str×V)
 |[]=>[(f,v)]
 | (g,x)::r=>if g=f then (g,v)::r else (g,x)::d5 f v r
theorem iB(f g:Str)(v:V):∀fs:List (Str×V),(d5 f v fs).lookup g=if g=f then some v else fs.lookup g
 |[]=>by
  show List.lookup g [(f,v)]=_;by_cases h:g=f
  ·have hb:(g == f)=true:=IY.mpr h;simp only[List.lookup,hb,Gn h]
  ·have hb:(g == f)=false:=Hb.mpr h;simp only[List.lookup,hb,Gj h]
 | (k,x)::r=>by
  have ih:=iB f g v r;rw[show d5 f v ((k,x)::r)=(if k=f then (k,v)::r else (k,x)::d5 f v r) from rfl]
  by_cases hk:k=f
  ·rw[Gn hk];by_cases h:g=k
   ·have hb:(g == k)=true:=IY.mpr h;simp only[List.lookup,hb,Gn (h.trans hk)]
   ·have hb:(g == k)=false:=Hb.mpr h;simp only[List.lookup,hb,Gj (λe:g=f=>h (e.trans hk.symm))]
  ·rw[Gj hk];by_cases h:g=k
   ·have hb:(g == k)=true:=IY.mpr h;simp only[List.lookup,hb,Gj (λe:g=f=>hk (h.symm.trans e))]
   ·have hb:(g == k)=false:=Hb.mpr h;simp only[List.lookup,hb];exact ih
theorem ib(f:Str)(v:V):∀fs:List (Str×V),f∈(d5 f v fs).map (·.1)/\∀g,g∈fs.map (·.1)->g∈(d5 f v fs).map (·.1)
 |[]=>⟨by simp[d5],λg h=>by simp at h⟩
 | (k,x)::r=>by
  obtain⟨i1,i2⟩:=ib f v r;rw[show d5 f v ((k,x)::r)=(if k=f then (k,v)::r else (k,x)::d5 f v r) from rfl]
  by_cases hk:k=f
  ·rw[Gn hk];subst hk;exact⟨by simp,λg h=>by simpa using h⟩
  ·rw[Gj hk];refine⟨?_,λg h=>?_⟩
   ·rw[Hd];exact GC _ i1
   ·rw[Hd] at h ⊢;rcases Gs.mp h with e|e
    ·exact Gs.mpr (.inl e)
    ·exact GC _ (i2 g e)
theorem i5(f:Str)(v:V):∀fs:List (Str×V),(d5 f v fs).length<=fs.length+1
 |[]=>by simp[d5]
 | (k,x)::r=>by
  have ih:=i5 f v r;rw[show d5 f v ((k,x)::r)=(if k=f then (k,v)::r else (k,x)::d5 f v r) from rfl]
  by_cases hk:k=f
  ·rw[Gn hk,GF,GF];lia
  ·rw[Gj hk,GF,GF];lia
theorem fV.some_of{v:V}{o:Option Value}(r:fV (some v) o):∃u,o=some u/\RelV v u:=by
 cases o with
 |none=>exact (show False from r).elim
 |some u=>exact⟨u,rfl,r⟩
theorem fV.none_of{o:Option Value}(r:fV none o):o=none:=by
 cases o with
 |none=>rfl
 |some u=>exact (show False from r).elim
theorem tR{v:V}(r:RelV v u):PySem.W.handedIn u=true:=by
 cases v with
 |aP=>cases (show u=Value.none from r);rfl
 |bl b=>cases (show u=Value.bool b from r);rfl
 |int i=>obtain⟨t,e⟩:=(show ∃t,u=Value.int i t from r);cases e;rfl
 |str x=>obtain⟨t,e⟩:=(show ∃t,u=Value.str x t from r);cases e;rfl
 |oG b=>obtain⟨t,e⟩:=(show ∃t,u=Value.bytes b t from r);cases e;rfl
 |B2 b=>obtain⟨t,e⟩:=(show ∃t,u=Value.float b t from r);cases e;rfl
 |ref a=>cases (show u=Value.ref a from r);rfl
 |ty n=>cases (show u=Value.type n from r);rfl
section
variable {P:Program} {w:World} {H H':Hp} {h h':Heap} {a C dx:Addr} {fs fs':List (Str×V)}
theorem iK(aU:gy P w H h)(e:H a=some (.ins C dx fs)):∃mA,pG h a dx C mA/\(∀f,fV (fs.lookup f) (mA f))/\PySem.Within mA (fs.map (·.1))/\fs.length<=1000/\H dx=some (.own a):=by
 obtain⟨d,z,ne,ob,mA,n,r,q⟩:=(show bf P w H h a (.ins C dx fs) from aU a _ e);exact⟨mA,⟨ob,n,ne⟩,r,q,z,d⟩
end
structure jO (K:LA) (C:Addr):Prop where
 pg:PySem.W.plainGet K C Str.empty=true
 hd:PySem.W.hasDictIn K C=true
 po:PySem.W.plainOver K C=true
 sa:PySem.W.findIn K (.ref C) "__setattr__"=some (some (.builtin "object.__setattr__"))
theorem jO.get(c:jO K C)(f:Str):PySem.W.plainGet K C f=true:=c.pg
noncomputable def b9(K:LA)(C:Addr)(f:Str):Prop:=PySem.W.findIn K (.ref C) f=some none
theorem b9.DX{f:Str}(n:b9 K C f):PySem.W.takerIn K C f=some none:=by
 unfold PySem.W.takerIn;rw[show PySem.W.findIn K (.ref C) f=some none from n];rfl
structure Meth (K:LA) (C:Addr) (m:Str) (f:Addr):Prop where
 at_:PySem.W.findIn K (.ref C) m=some (some (.ref f))
 fn:PySem.W.isFn K (.ref f)=true
 kp:PySem.W.keepIn K (.ref f)=true
section
variable {X:Cx} {pins:List (Addr×Obj)} {σ:St} {H:Hp} {s:Shared} {a C dx:Addr} {fs:List (Str×V)} {f:Str} {v:V} {A:Around} {E:Value->Shared->Prop}
theorem pw{b:Bool}(I:Inv X pins σ H s)(e:H a=some (.ins C dx fs))(c:jO X.K C)(n:b9 X.K C f)(l:fs.lookup f=some v)
  (h:∀u s',Inv X pins σ H s'->RelV v u->Q u s'):wpAny (model X.prog X.w) A (getAttr (.ref a) f b) Q E s:=by
 obtain⟨mA,O,r,_,_,_⟩:=iK I.aU e;obtain⟨u,hu,ru⟩:=fV.some_of (v:=v) (o:=mA f) (by rw[<- l];exact r f)
 exact get_map I.gP O (c.get f) c.hd n hu (tR ru) (h u _ (I.tok _) ru)
theorem jr{m:Str}{g:Addr}{Q:Value×List Value->Shared->Prop}(I:Inv X pins σ H s)(e:H a=some (.ins C dx fs))(c:jO X.K C)(k:Meth X.K C m g)(l:fs.lookup m=none)
  (h:Q (.ref g,[.ref a]) s):wpAny (model X.prog X.w) A (getMethod (.ref a) m pl) Q E s:=by
 obtain⟨mA,O,r,_,_,_⟩:=iK I.aU e;have hn:mA m=none:=fV.none_of (by rw[<- l];exact r m)
 exact vG I.gP O (c.get m) k.at_ k.fn hn h
theorem oH{y:V}{Q:Unit->Shared->Prop}(I:Inv X pins σ H s)(e:H a=some (.ins C dx fs))(c:jO X.K C)(n:b9 X.K C f)(hl:fs.length<1000)(ry:RelV y u)
  (h:∀s',Inv X pins σ (upd H a (.ins C dx (d5 f y fs))) s'->Q () s'):wpAny (model X.prog X.w) A (setAttr (.ref a) f u) Q E s:=by
 obtain⟨mA,O,r,wi,_,ho⟩:=iK I.aU e;have hz:(fs.map (·.1)).length<=sizeLine:=by rw[Gu,HC];lia
 refine yY I.gP O c.sa c.po n.DX c.hd wi hz λh' O' sb=>h _ ?_;have hd:∃o,h'.get? dx=some o:=let ⟨o,_,_,e',_⟩:=O'.ns;⟨o,e'⟩
 refine I.write (x:=a) (e:=dx) (by rw[e];exact True.intro) (.inr ho) (λb q hb z=>(sb.2 b hb).trans z) hd ?_
 refine⟨by rw[ae O.ne];exact ho,?_,O.ne,O'.obj,_,O'.ns,λg=>?_,λg hg=>?_⟩
 ·have:=i5 f y fs;lia
 ·show fV ((d5 f y fs).lookup g) (if g=f then some u else mA g)
  rw[iB];by_cases q:g=f
  ·rw[Gn q,Gn q];exact ry
  ·rw[Gj q,Gj q];exact r g
 ·by_cases q:g=f
  ·rw[q];exact (ib f y fs).1
  ·refine (ib f y fs).2 g (wi g λz=>hg ?_);show (if g=f then some u else mA g)=none
   rw[Gj q];exact z
theorem Inv.made(I:Inv X pins σ H s):Inv X pins σ (upd (upd H s.heap.objs.size (.own (s.heap.objs.size+1))) (s.heap.objs.size+1) (.ins C s.heap.objs.size []))
  {s with heap:=(s.heap.push PySem.W.emptyDict).push (PySem.W.instObj C s.heap.objs.size)}:=by
 have e1:(s.heap.push PySem.W.emptyDict).get? s.heap.objs.size=some PySem.W.emptyDict:=Gw s.heap rfl;have e2:((s.heap.push PySem.W.emptyDict).push (PySem.W.instObj C s.heap.objs.size)).get? (s.heap.objs.size+1)=some (PySem.W.instObj C s.heap.objs.size):=by
  have:=Gw (s.heap.push PySem.W.emptyDict) (o:=PySem.W.instObj C s.heap.objs.size) rfl
  rwa [HW] at this
 have e3:(s.heap.push PySem.W.emptyDict).Ns s.heap.objs.size (λ_=>none):=⟨PySem.W.emptyDict,#[],_,e1,rfl,(λe he=>absurd he (by simp)),λ_=>rfl⟩
 have I1:=I.laid (a:=s.heap.objs.size) (o:=.own (s.heap.objs.size+1)) (h':=s.heap.push PySem.W.emptyDict) (t':=s.toks) (λb u q=>Gh _ q) (Gp _) ⟨_,e1⟩;refine I1.laid (a:=s.heap.objs.size+1) (o:=.ins C s.heap.objs.size []) (t':=s.toks) (λb u q=>Gh _ q) (K1 (HW _ _)) ?_;have ne:s.heap.objs.size≠s.heap.objs.size+1:=GG (J7 _);refine⟨by rw[ae ne,aa],GH _,ne,e2,λ_=>none,(Heap.Ns1.of_empty e3).at λo q=>Gh _ q,λ_=>True.intro,λy hy=>absurd rfl hy⟩
theorem yK{prog:Program}{env:Env}{f:Str}{pos:Pos}{s:Shared}(hb:attributeBase e f env (eval e env)=eval e env)
  (h:wpAny (model prog w) A (eval e env) (λo s₁=>wpAny (model prog w) A (getAttr o f true) Q E s₁) E s):wpAny (model prog w) A (eval (.Attribute e f pos) env) Q E s:=
 Attribute_any_ h (by rw[arm_eval_Attribute,hb])
end
noncomputable def vb(K:LA)(ta:TE)(f:Str):TE:=λσ H Q=>ta σ H λx H1=>∃a C dx fs v,x=.ref a/\H1 a=some (.ins C dx fs)/\jO K C/\b9 K C f/\fs.lookup f=some v/\Q v H1
noncomputable def vR(K:LA)(ta tv:TE)(f:Str):TS:=λD σ H=>tv σ H λy H1=>ta σ H1 λx H2=>∃a C dx fs,x=.ref a/\H2 a=some (.ins C dx fs)/\jO K C/\b9 K C f/\fs.length<1000 /\
 D.nx σ (upd H2 a (.ins C dx (d5 f y fs)))
section
variable {X:Cx} {o e value:Expr} {f:Str} {pos pos' tpos:Pos} {ta tv:TE}
theorem Bg(he:PE X e ta)(hb:attributeBase e f X.env (eval e X.env)=eval e X.env):PE X (.Attribute e f pos) (vb X.K ta f):=by
 intro pins s σ H Q I h;refine yK hb (bJ (he pins s σ H _ I h) λu s1 hq40=>?_);obtain⟨x,H1,I1,rx,a,C,dx,fs,v,ex,ea,c,n,l,q⟩:=hq40;subst ex;obtain rfl:u=Value.ref a:=rx;exact pw I1 ea c n l λu' s2 I2 ru=>⟨v,H1,I2,ru,q⟩
theorem Bf(ha:PE X o ta)(hv:PE X value tv)(hs:swapsWith value (some (.Attribute o f pos')) pos.line X.env=pure false):PS X (.Assign [.Attribute o f pos'] value pos) (vR X.K ta tv f):=by
 intro pins s σ H D I h;refine plainObj_wpAny_Assign_Attribute (bJ (hv pins s σ H _ I h) λu s1 ⟨y,H1,I1,ry,q⟩=>bJ (ha pins s1 σ H1 _ I1 q) λov s2 hq42=>?_) hs;obtain⟨x,H2,I2,rx,a,C,dx,fs,ex,ea,c,n,l,q2⟩:=hq42;subst ex;obtain rfl:ov=Value.ref a:=rx;exact oH I2 ea c n l ry λs3 I3=>⟨σ,_,I3,q2⟩
end
section
variable {X:Cx} {pins:List (Addr×Obj)} {σ:St} {H:Hp} {s:Shared} {A:Around} {E:Value->Shared->Prop} {Q:Value->Shared->Prop} {c:Value} {b:Bool}
inductive gw (K:LA) (H:Hp):V->Value->Prop where
 |aP:gw K H .aP (.type "NoneType")
 |bl (x:Bool):gw K H (.bl x) (.type "bool")
 |int (i:Int):gw K H (.int i) (.type "int")
 |str (x:Str):gw K H (.str x) (.type "str")
 |B2 (x:UInt64):gw K H (.B2 x) (.type "float")
 |lst {a:Addr} {xs:List V} (e:H a=some (.lst xs)):gw K H (.ref a) (.type "list")
 |ik {a:Addr} {o:Obj} {xs:List V} (e:H a=some (.ik o (.lst xs))):gw K H (.ref a) (.type "list")
 |tup {a:Addr} {xs:List V} (e:H a=some (.tup xs)):gw K H (.ref a) (.type "tuple")
 |dK {a:Addr} {kvs:List (Key×V)} (e:H a=some (.dK kvs)):gw K H (.ref a) (.type "dict")
 |dT {a:Addr} {kvs:List (List Key×V)} (e:H a=some (.dT kvs)):gw K H (.ref a) (.type "dict")
 |ins {a C dx:Addr} {fs:List (Str×V)} (e:H a=some (.ins C dx fs)) (cl:jO K C) (ha:PySem.W.findIn K (.ref C) "__class__"=some (some (.builtin "object.__class__")))
   (hn:PySem.W.specialIn K (.builtin "object.__class__") "__get__"=some (some (.builtin "getset_descriptor.__get__"))) (htk:PySem.W.takesIn K (.builtin "object.__class__")=some true)
   (hm:PySem.W.mroIn K C (.type "object")=some true):gw K H (.ref a) (.ref C)
theorem kc{x:V}{t:Value}(I:Inv X pins σ H s)(rx:RelV x u)(ty:gw X.K H x t)(e:PySem.W.kitOne X.K t c=some b)(h:∀tk,Q (.bool b) {s with toks:=tk}):
  wpAny (model X.prog X.w) A (call (.builtin "isinstance") [u,c]) Q E s:=by
 cases ty with
 |aP=>cases (show u=Value.none from rx);exact PySem.W.kia_one PySem.W.kitx_none I.gP True.intro e (λz=>nomatch z) h
 |bl y=>cases (show u=Value.bool y from rx);exact PySem.W.kia_one PySem.W.kitx_bool I.gP True.intro e (λz=>nomatch z) h
 |int i=>obtain⟨t,q⟩:=(show ∃t,u=Value.int i t from rx);cases q;exact PySem.W.kia_one PySem.W.kitx_int I.gP True.intro e (λz=>nomatch z) h
 |str y=>obtain⟨t,q⟩:=(show ∃t,u=Value.str y t from rx);cases q;exact PySem.W.kia_one PySem.W.kitx_str I.gP True.intro e (λz=>nomatch z) h
 |B2 y=>obtain⟨t,q⟩:=(show ∃t,u=Value.float y t from rx);cases q;exact PySem.W.kia_one PySem.W.kitx_float I.gP True.intro e (λz=>nomatch z) h
 |@lst a xs ea =>
  cases (show u=Value.ref a from rx)
  obtain⟨_,_,n,_,h1⟩:=(show bf X.prog X.w H s.heap a (.lst xs) from I.aU a _ ea);exact PySem.W.kia_one PySem.W.kitx_list I.gP ⟨_,h1,rfl⟩ e (λz=>nomatch z) h
 |@ik a ob xs ea =>
  cases (show u=Value.ref a from rx)
  obtain⟨_,_,_,n,_,h1⟩:=(show bf X.prog X.w H s.heap a (.ik ob (.lst xs)) from I.aU a _ ea);exact PySem.W.kia_one PySem.W.kitx_list I.gP ⟨_,h1,rfl⟩ e (λz=>nomatch z) h
 |@tup a xs ea =>
  cases (show u=Value.ref a from rx)
  obtain⟨_,_,_,p⟩:=(show bf X.prog X.w H s.heap a (.tup xs) from I.aU a _ ea);obtain⟨o,h1,h2,_⟩:=p;exact PySem.W.kia_one PySem.W.kitx_tuple I.gP ⟨o,h1,h2⟩ e (λz=>nomatch z) h
 |@dK a kvs ea =>
  cases (show u=Value.ref a from rx)
  obtain⟨_,_,vs,_,p⟩:=(show bf X.prog X.w H s.heap a (.dK kvs) from I.aU a _ ea);obtain⟨o,es,ep,h1,h2,_⟩:=p;exact PySem.W.kia_one PySem.W.kitx_dict I.gP ⟨o,h1,h2.1⟩ e (λz=>nomatch z) h
 |@dT a kvs ea =>
  cases (show u=Value.ref a from rx)
  obtain⟨_,_,xs,_,o,es,ep,h1,h2,_⟩:=(show bf X.prog X.w H s.heap a (.dT kvs) from I.aU a _ ea);exact PySem.W.kia_one PySem.W.kitx_dict I.gP ⟨o,h1,h2.1⟩ e (λz=>nomatch z) h
 |@ins a C dx fs ea cl ha hn htk hm =>
  cases (show u=Value.ref a from rx)
  obtain⟨mA,O,_⟩:=iK I.aU ea;obtain⟨od,J,_⟩:=O.look;exact PySem.W.kia_one (PySem.W.kitx_own (cl.get _) cl.hd ha hn htk hm) I.gP J e (λz=>nomatch z) h
end
structure bD (k:Nat) (A:Around):Prop where
 hd:A.handled=none
 dp:A.depth+3*k+5<recursionLimit
 un:A.units+16*k+200<cLine
 gd:A.guards=some []
theorem bD.mono{k:Nat}{A:Around}(r:bD k A)(h:j<=k):bD j A:=⟨r.hd,by have:=r.dp;lia,by have:=r.un;lia,r.gd⟩
theorem bD.deeper{k:Nat}{A:Around}(r:bD (k+1) A)(env:Env):bD k (A.deeper env):=
 ⟨r.hd,by have:=r.dp;show A.depth+1+3*k+5<_;lia,by have:=r.un;show A.units+3+16*k+200<_;lia,r.gd⟩
theorem bD.in1{k:Nat}{A:Around}(r:bD (k+1) A):bD k A.in1:=
 ⟨r.hd,by have:=r.dp;show A.depth+3*k+5<_;lia,by have:=r.un;show A.units+1+16*k+200<_;lia,r.gd⟩
theorem pH{A:Around}:(A.under (.builtin "type.__call__" ⟨.ref C::us,kw⟩)).depth=A.depth+1:=by
 first|rfl|simp[Around.under,Code.weight,Code.isCreation,Code.isGuard,Code.isCaller,Code.frames,Code.isFrame,guardIds]
theorem pU{A:Around}:(A.under (.builtin "type.__call__" ⟨.ref C::us,kw⟩)).units=A.units+1:=by
 first|rfl|simp[Around.under,Code.cUnits,Code.frames,Code.isFrame]
theorem bD.make{k:Nat}{A:Around}(r:bD (k+1) A)(C:Addr)(us:List Value)(kw:List (Str×Value)):bD k (A.under (.builtin "type.__call__" ⟨.ref C::us,kw⟩)):=
 ⟨r.hd,by have:=r.dp;rw[pH];lia,by have:=r.un;rw[pU];lia,by have h:=r.gd;first|exact h | (simp[Around.under,Code.guards,Code.isGuard,guardIds];exact h)⟩
theorem bD.depth{k:Nat}{A:Around}(r:bD k A):A.depth<recursionLimit:=by have:=r.dp;lia
theorem bD.units{k:Nat}{A:Around}(r:bD k A):A.units+64<cLine:=by have:=r.un;lia
noncomputable def iG:TA:=λ_ H Q=>Q [] H
noncomputable def i7(ta:TE)(tr:TA):TA:=λσ H Q=>ta σ H λx H1=>tr σ H1 λxs H2=>Q (x::xs) H2
section
variable {X:Cx} {e:Expr} {es:List Expr} {te:TE} {t:TA} {pos:Pos}
theorem xv:PA X [] iG:=λ_ _ _ _ H Q I h=>Calls.spliced_nil ⟨[],H,I,.nil,h⟩
theorem qz(ha:PE X e te)(hr:PA X es t)(hs:autoParam (starEach (e::es) X.env=(false,eval e X.env)::starEach es X.env) ℜ0):PA X (e::es) (i7 te t):=by
 intro pos pins s σ H Q I h;rw[hs];show wpAny _ _ (spliced ((false,eval e X.env)::backTo pos (starEach es X.env))) _ _ s;refine Calls.spliced_cons (bJ (ha pins s σ H _ I h) λu s1 hq46=>?_);obtain⟨x,H1,I1,r1,q1⟩:=hq46;exact bJ (hr pos pins s1 σ H1 _ I1 q1) λus s2 ⟨xs,H2,I2,r2,q2⟩=>⟨x::xs,H2,I2,.cons r1 r2,q2⟩
noncomputable def u6(t:TA):TE:=λσ H Q=>t σ H λxs H1=>xs.length<=sizeLine/\∀p,H1 p=none->Q (.ref p) (upd H1 p (.tup xs))
noncomputable def wR(t:TA):TE:=λσ H Q=>t σ H λxs H1=>xs.length<=sizeLine/\∀p,H1 p=none->Q (.ref p) (upd H1 p (.lst xs))
theorem Cc{x1}(h:PA X es t):PE X (.Tuple es x1 pos) (u6 t):=by
 intro pins s σ H Q I hq;refine wpAny_Tuple_spliced (bJ (h pos pins s σ H _ I hq) λus s1 ⟨xs,H1,I1,r,z,q⟩=>⟨by rw[<- r.length];exact z,?_⟩)
 have hf:H1 s1.heap.objs.size=none:=I1.aU.fresh (Gp _);refine⟨.ref s1.heap.objs.size,upd H1 s1.heap.objs.size (.tup xs),I1.laid (t':=s1.toks) (λb u e=>Gh _ e) (Gp _) ?_,rfl,q _ hf⟩;exact⟨z,us,r,⟨_,Gw _ rfl,rfl,_,rfl,rfl⟩⟩
theorem AQ(h:PA X es t):PE X (.List es pos) (wR t):=by
 intro pins s σ H Q I hq;refine wpAny_List_spliced (bJ (h pos pins s σ H _ I hq) λus s1 ⟨xs,H1,I1,r,z,q⟩=>⟨by rw[<- r.length];exact z,?_⟩)
 have hf:H1 s1.heap.objs.size=none:=I1.aU.fresh (Gp _);refine⟨.ref s1.heap.objs.size,upd H1 s1.heap.objs.size (.lst xs),I1.laid (t':=s1.toks) (λb u e=>Gh _ e) (Gp _) ?_,rfl,q _ hf⟩;exact⟨z,us,0,r,Gw _ rfl⟩
end
abbrev Sp:=List V->Hp->VK->XK->Prop
abbrev nI:=List Env->Hp->Shared->XK->Value->Shared->Prop
variable{CX:nI}
structure pM (P:Program) (w:World) (K:LA) (mg:Str->Option Value) (base:Heap) (A:Around) (outer:List Env) (s:Shared) (H:Hp):Prop where
 frames:A.frames=some outer
 mod:Mod K mg base
 bs:∀b o,base.get? b=some o->s.heap.get? b=some o/\H b=none
 xD:base.objs.size<=s.heap.objs.size
 iF:s.heap.FunFrames base outer
 Bi:∀b∈wx outer,H b=none
 aU:gy P w H s.heap
 bare:AllBare s.gens
 tabs:TabsOk K H
noncomputable def CE(outer:List Env)(P:Program)(w:World)(H:Hp)(s:Shared)(Q:VK)(u:Value)(s':Shared):Prop:=
 ∃v H',s'.os=s.os/\AllBare s'.gens/\Un (wx outer) [] H H' s.heap s'.heap/\gy P w H' s'.heap/\RelV v u/\Q v H'
noncomputable def CR(CX:nI)(outer:List Env)(P:Program)(w:World)(H:Hp)(s:Shared)(Q:VK)(E:XK)(r:Result)(s':Shared):Prop:=
 match r with
 |.ok (.ret u)=>CE outer P w H s Q u s'
 |.ok _=>False
 |.error e=>CX outer H s E e s'
structure cy (P:Program) (w:World) (K:LA) (mg:Str->Option Value) (base:Heap) (CX:nI) (k:Nat) (f:Addr) (fd:FuncData) (ps:List Str) (sp:Sp):Prop where
 len:∀vs H Q E,sp vs H Q E->vs.length=ps.length
 run:∀(A:Around) (outer:List Env) (s:Shared) (H:Hp) (args:Args) (us:List Value) (vs:List V) (Q:VK) (E:XK),bD k A->pM P w K mg base A outer s H->BindsTo s fd args (ps.zip us)->Vals vs us->sp vs H Q E ->
  codeAny (model P w) A (.call (.ref f) args) (CR CX outer P w H s Q E) s
theorem cy.mono{k:Nat}{f:Addr}{ps:List Str}{sp:Sp}(F:cy P w K mg base CX j f fd ps sp)(h:j<=k):
  cy P w K mg base CX k f fd ps sp:=⟨F.len,λA outer s H args us vs Q E hr=>F.run A outer s H args us vs Q E (hr.mono h)⟩
theorem pM.make{A:Around}{s:Shared}(e:pM P w K mg base A outer s H)(C:Addr)(us:List Value)(kw:List (Str×Value)):
  pM P w K mg base (A.under (.builtin "type.__call__" ⟨.ref C::us,kw⟩)) outer s H:=⟨by first|exact e.frames | (simpa[Around.under,Code.envs,Code.isFrame,pushEnvs] using e.frames),e.mod,e.bs,e.xD,e.iF,e.Bi,e.aU,e.bare,e.tabs⟩
section
variable {X:Cx} {pins:List (Addr×Obj)} {σ:St} {H:Hp} {s s':Shared}
theorem Inv.CZ(I:Inv X pins σ H s):pM X.prog X.w X.K X.mg X.base X.A X.stack s H:=
 ⟨I.ok.frames,I.ok.mod,I.bs,Gr I.ok.xD I.sz,I.stack,I.ma,I.aU,I.bare,I.ok.tabs.un I.base⟩
theorem Inv.after{Q:VK}(I:Inv X pins σ H s)(h:CE X.stack X.prog X.w H s Q u s'):EP X pins σ Q u s':=by
 obtain⟨v,H',os,bare,un,aU,r,q⟩:=h;obtain⟨hh,g,d,t,os'⟩:=s';obtain rfl:os'=s.os:=os;exact⟨v,H',I.call (h':=hh) (g':=g) (d':=d) (t':=t) (ch:=[]) un aU bare (λb z=>absurd z (by simp)),r,q⟩
end
noncomputable def g_(sp:Sp)(dvs:List V)(E:XK)(t:TA):TE:=λσ H Q=>t σ H λvs H1=>sp (vs++dvs) H1 Q E
noncomputable def jh(C:Addr)(m:Str)(sp:Sp)(dvs:List V)(E:XK)(ta:TE)(t:TA):TE:=λσ H Q=>ta σ H λx H1=>∃a dx fs,x=.ref a/\H1 a=some (.ins C dx fs)/\fs.lookup m=none /\
 t σ H1 λvs H2=>sp (x::(vs++dvs)) H2 Q E
noncomputable def nV(C:Addr)(sp:Sp)(dvs:List V)(E:XK)(t:TA):TE:=λσ H Q=>t σ H λvs H1=>∀x dx,H1 x=none->H1 dx=none->dx≠x ->
 sp (.ref x::(vs++dvs)) (upd (upd H1 dx (.own x)) x (.ins C dx [])) (λv H2=>v=.aP/\Q (.ref x) H2) E
noncomputable def Binds(K:LA)(fd:FuncData)(ps:List Str)(ds:List Value):Prop:=
 ∀(s:Shared) (us:List Value),K.In s.heap->(us++ds).length=ps.length->BindsTo s fd ⟨us,[]⟩ (ps.zip (us++ds))
theorem Binds.all{ps:List Str}(h:∀us:List Value,us.length=ps.length->bindArgs fd ⟨us,[]⟩=pure (ps.zip us)):Binds K fd ps []:=λs us _ hl=>by
 rw[Ia] at hl ⊢;exact .of_eq (h us hl)
noncomputable def Passes(CX:nI)(X:Cx)(E:XK):Prop:=∀(pins:List (Addr×Obj)) (σ:St) (H:Hp) (s:Shared) (e:Value) (s':Shared),Inv X pins σ H s->CX X.stack H s E e s'->X.xe e s'
section
variable {X:Cx} {CX:nI} {k:Nat} {f C:Addr} {fd:FuncData} {ps:List Str} {sp:Sp} {dvs:List V} {ds:List Value} {E:XK} {x m:Str} {p pos apos:Pos} {e o:Expr} {es:List Expr} {ta:TE} {t:TA}
theorem lj{s:Shared}{Q:VK}{vs:List V}(F:cy X.prog X.w X.K X.mg X.base CX k f fd ps sp)(hr:bD k X.A)(hb:Binds X.K fd ps ds)(hd:Vals dvs ds)(hx:Passes CX X E)
  (I:Inv X pins σ H s) (r:Vals vs us) (h:sp (vs++dvs) H Q E):wpAny (model X.prog X.w) X.A (call (.ref f) us) (EP X pins σ Q) X.xe s:=by
 have r2:Vals (vs++dvs) (us++ds):=r.append hd;have hl:(us++ds).length=ps.length:=by rw[<- r2.length];exact F.len _ _ _ _ h
 refine wpAny_call (Lr (F.run X.A X.stack s H ⟨us,[]⟩ (us++ds) (vs++dvs) Q E hr I.CZ (hb s us I.gP hl) r2 h) λr s' hq=>?_)
 cases r with
 |error e=>exact hx pins σ H s e s' I hq
 |ok fl =>
  cases fl with
  |ret u=>exact I.after hq
  |next=>exact False.elim hq
  |brk=>exact False.elim hq
  |cont=>exact False.elim hq
theorem zb(F:cy X.prog X.w X.K X.mg X.base CX k f fd ps sp)(hr:bD k X.A)(hg:Gl X x)(hm:X.mg x=some (.ref f))(hk:PySem.W.keepIn X.K (.ref f)=true)(hb:Binds X.K fd ps ds)(hd:Vals dvs ds)(hx:Passes CX X E)
  (ha:PA X (e::es) t) (hdb:autoParam ((x ==("__debug__":Str))=false) ℜ1) (he:autoParam (starEach (e::es) X.env=(false,eval e X.env)::starEach es X.env) ℜ0) (hpl:autoParam ((backTo pos (starEach es X.env)).any (·.1)=false) ℜ0) :
  PE X (.Call (.Name x p) (e::es) [] pos) (g_ sp dvs E t):=by
 intro pins s σ H Q I h;refine Il (iO I hg hm ?_ hdb);refine PySem.W.callWith_K (h₀:=X.base) I.ok.mod.DG hk (bJ (ha pos pins s σ H _ I h) λus s1 ⟨vs,H1,I1,r,q⟩=>⟨I1.gP,?_⟩) he hpl;exact lj F hr hb hd hx I1 r q
theorem xb(F:cy X.prog X.w X.K X.mg X.base CX k f fd ps sp)(hr:bD k X.A)(hg:Gl X x)(hm:X.mg x=some (.ref f))(hk:PySem.W.keepIn X.K (.ref f)=true)(hb:Binds X.K fd ps ds)(hd:Vals dvs ds)(hx:Passes CX X E)
  (hdb:autoParam ((x ==("__debug__":Str))=false) ℜ1):PE X (.Call (.Name x p) [] [] pos) (g_ sp dvs E iG):=by
 intro pins s σ H Q I h;refine Il (iO I hg hm ?_ hdb);exact PySem.W.callWith_K0 I.gP hk (lj (us:=[]) F hr hb hd hx I .nil h)
theorem xT{pl:Sem Bool}(he:PE X o ta)(c:jO X.K C)(hm:Meth X.K C m f)(F:cy X.prog X.w X.K X.mg X.base CX k f fd ps sp)(hr:bD k X.A)(hb:Binds X.K fd ps ds)(hd:Vals dvs ds)(hx:Passes CX X E)(ha:PA X (e::es) t)
  (hst:autoParam (starEach (e::es) X.env=(false,eval e X.env)::starEach es X.env) ℜ0) (hpl:autoParam ((backTo pos (starEach es X.env)).any (·.1)=false) ℜ0)
  (ht:autoParam (eval (.Call (.Attribute o m apos) (e::es) [] pos) X.env=(do
   let ov <- eval o X.env
   standAt apos.atName
   let (f,first) <- holding [ov] (getMethod ov m pl)
   callWith pos f first (backTo pos (starEach (e::es) X.env)) (backToKw pos (keywordEach [] X.env)))) ℜ0) :
  PE X (.Call (.Attribute o m apos) (e::es) [] pos) (jh C m sp dvs E ta t):=by
 intro pins s σ H Q I h;refine PySem.W.methodCall_KW (pl:=pl) (bJ (he pins s σ H _ I h) λu s1 hq47=>?_) ht;obtain⟨x,H1,I1,rx,a,dx,fs,ex,ea,l,q⟩:=hq47;subst ex;obtain rfl:u=Value.ref a:=rx;refine jr I1 ea c hm l ?_;refine PySem.W.callWith_K (first:=[.ref a]) (h₀:=X.base) I.ok.mod.DG hm.kp (bJ (ha pos pins s1 σ H1 _ I1 q) λus s2 ⟨vs,H2,I2,r,q2⟩=>⟨I2.gP,?_⟩) hst hpl
 exact lj (us:=.ref a::us) (vs:=.ref a::vs) F hr hb hd hx I2 (.cons rfl r) q2
theorem ud{pl:Sem Bool}(he:PE X o ta)(c:jO X.K C)(hm:Meth X.K C m f)(F:cy X.prog X.w X.K X.mg X.base CX k f fd ps sp)(hr:bD k X.A)(hb:Binds X.K fd ps ds)(hd:Vals dvs ds)(hx:Passes CX X E)
  (ht:autoParam (eval (.Call (.Attribute o m apos) [] [] pos) X.env=(do
   let ov <- eval o X.env
   standAt apos.atName
   let (f,first) <- holding [ov] (getMethod ov m pl)
   callWith pos f first (backTo pos (starEach [] X.env)) (backToKw pos (keywordEach [] X.env)))) ℜ0) :
  PE X (.Call (.Attribute o m apos) [] [] pos) (jh C m sp dvs E ta iG):=by
 intro pins s σ H Q I h;refine PySem.W.methodCall_KW (pl:=pl) (bJ (he pins s σ H _ I h) λu s1 hq48=>?_) ht;obtain⟨x,H1,I1,rx,a,dx,fs,ex,ea,l,q⟩:=hq48;subst ex;obtain rfl:u=Value.ref a:=rx;refine jr I1 ea c hm l ?_;exact PySem.W.callWith_K0 (first:=[.ref a]) I1.gP hm.kp (lj (us:=[.ref a]) (vs:=[.ref a]) F hr hb hd hx I1 (.cons rfl .nil) q)
structure Mk (K:LA) (C f:Addr):Prop where
 makes:PySem.W.makesIn K C=true
 init:PySem.W.findIn K (.ref C) "__init__"=some (some (.ref f))
 fn:PySem.W.isFn K (.ref f)=true
 kp:PySem.W.keepIn K (.ref C)=true
theorem xo{s:Shared}{Q:VK}{vs:List V}(M:Mk X.K C f)(F:cy X.prog X.w X.K X.mg X.base CX k f fd ps sp)(hr:bD (k+1) X.A)(hb:Binds X.K fd ps ds)(hd:Vals dvs ds)
  (hx:Passes CX X E) (I:Inv X pins σ H s) (r:Vals vs us)
  (h:∀x dx,H x=none->H dx=none->dx≠x->sp (.ref x::(vs++dvs)) (upd (upd H dx (.own x)) x (.ins C dx [])) (λv H2=>v=.aP/\Q (.ref x) H2) E) :
  wpAny (model X.prog X.w) X.A (call (.ref C) us) (EP X pins σ Q) X.xe s:=by
 have hq:=h (s.heap.objs.size+1) s.heap.objs.size (I.aU.fresh (HD _)) (I.aU.fresh (Gp _)) (GG (J7 _));have I2:=Inv.made (C:=C) I;have r2:Vals (V.ref (s.heap.objs.size+1)::(vs++dvs)) (Value.ref (s.heap.objs.size+1)::(us++ds)):=.cons rfl (r.append hd);have hl:(Value.ref (s.heap.objs.size+1)::us++ds).length=ps.length:=by
  have e:=r2.length;rw[F.len _ _ _ _ hq] at e;exact e.symm
 refine wpAny_call (vo (f:=f) I.gP M.makes M.init (IY.mp M.fn) (Lr (F.run _ X.stack _ _ ⟨Value.ref (s.heap.objs.size+1)::us,[]⟩ (Value.ref (s.heap.objs.size+1)::(us++ds)) _ _ E (hr.make C us [])
  (I2.CZ.make C us []) (hb _ (Value.ref (s.heap.objs.size+1)::us) I2.gP hl) r2 hq) λr s' hq'=>?_))
 cases r with
 |error e=>exact hx pins σ _ _ e s' I2 hq'
 |ok fl =>
  cases fl with
  |ret u =>
   obtain⟨v,H',I3,rv,ev,q3⟩:=I2.after hq';subst ev;exact⟨rv,⟨V.ref (s.heap.objs.size+1),H',I3,rfl,q3⟩⟩
  |next=>exact False.elim hq'
  |brk=>exact False.elim hq'
  |cont=>exact False.elim hq'
theorem xW(M:Mk X.K C f)(F:cy X.prog X.w X.K X.mg X.base CX k f fd ps sp)(hr:bD (k+1) X.A)(hg:Gl X x)(hm:X.mg x=some (.ref C))(hb:Binds X.K fd ps ds)(hd:Vals dvs ds)(hx:Passes CX X E)
  (ha:PA X (e::es) t) (hdb:autoParam ((x ==("__debug__":Str))=false) ℜ1) (he:autoParam (starEach (e::es) X.env=(false,eval e X.env)::starEach es X.env) ℜ0) (hpl:autoParam ((backTo pos (starEach es X.env)).any (·.1)=false) ℜ0) :
  PE X (.Call (.Name x p) (e::es) [] pos) (nV C sp dvs E t):=by
 intro pins s σ H Q I h;refine Il (iO I hg hm ?_ hdb);refine PySem.W.callWith_K (h₀:=X.base) I.ok.mod.DG M.kp (bJ (ha pos pins s σ H _ I h) λus s1 ⟨vs,H1,I1,r,q⟩=>⟨I1.gP,?_⟩) he hpl;exact xo M F hr hb hd hx I1 r q
end
noncomputable def PK(X:Cx)(kws:List Keyword)(t:TA):Prop:=
 ∀(pos:Pos) (pins:List (Addr×Obj)) (s:Shared) (σ:St) (H:Hp) (Q:List V->Hp->Prop),Inv X pins σ H s->t σ H Q->wpAny (model X.prog X.w) X.A (evalAll ((backToKw pos (keywordEach kws X.env)).map (·.2))) (AP X pins σ Q) X.xe s
section
variable {X:Cx} {CX:nI} {k:Nat} {f C:Addr} {fd:FuncData} {ps ks:List Str} {sp:Sp} {E:XK} {x m:Str} {p pos apos kpos:Pos} {e o:Expr} {es:List Expr} {kws:List Keyword} {te ta:TE} {t tk:TA} {nm:Option Str}
theorem C1:PK X [] iG:=λ_ _ _ _ H Q I h=>wpAny_evalAll_nil ⟨[],H,I,.nil,h⟩
theorem yv(ha:PE X e te)(hr:PK X kws t):PK X (⟨nm,e,kpos⟩::kws) (i7 te t):=by
 intro pos pins s σ H Q I h;show wpAny _ _ (evalAll ((do let v <- eval e X.env;standAt pos;pure v)::(backToKw pos (keywordEach kws X.env)).map (·.2))) _ _ s
 refine wpAny_evalAll_cons (Gg (bJ (ha pins s σ H _ I h) λu s1 ⟨x,H1,I1,r1,q1⟩=>Gg (Jy (Gq ?_))));exact bJ (hr pos pins s1 σ H1 _ I1 q1) λus s2 ⟨xs,H2,I2,r2,q2⟩=>⟨x::xs,H2,I2,.cons r1 r2,q2⟩
variable {g:List Value->List Value->List Value} {gV:List V->List V->List V}
end
structure ax (N P:List Str) (sc:Scope):Prop where
 kind:sc.kind=.function
 co:sc.isCoroutine=false
 gen:sc.isGenerator=false
 nd:N.Nodup
 pre:N.take P.length=P
 par:∀x∈P,sc.names.lookup x=some .local\/sc.names.lookup x=some .cell
 C2:∀y∈sc.names,y.2≠.free
theorem kT:∀{binds:List (Str×Value)} {m:Str->Option Value},(∀v,(x,v)∉binds)->bindL kindOf binds m x=m x
 |[],_,_=>rfl
 | (n,v)::r,m,h=>by
  unfold bindL;rw[kT λw hw=>h w (GC _ hw)];split
  ·have:x≠n:=by rintro rfl;exact h v GD
   simp[this]
  ·rfl
theorem kn:∀{binds:List (Str×Value)} {m:Str->Option Value},(∀v,(x,v)∉binds)->bindC kindOf binds m x=m x
 |[],_,_=>rfl
 | (n,v)::r,m,h=>by
  unfold bindC;rw[kn λw hw=>h w (GC _ hw)];split
  ·rfl
  ·have:x≠n:=by rintro rfl;exact h v GD
   simp[this]
theorem kg{v:Value}:∀{P:List Str} {vs:List Value} {i:Nat} {m:Str->Option Value},P.Nodup->P[i]?=some x->vs[i]?=some v->kindOf x=some .local ->
  bindL kindOf (P.zip vs) m x=some v
 |[],_,_,_,_,h,_,_=>by simp at h
 |_::_,[],_,_,_,_,h,_=>by simp at h
 |p::P,w::vs,0,m,nd,h1,h2,hk=>by
  simp at h1 h2;subst h1;subst h2;show bindL kindOf ((p,w)::P.zip vs) m p=_;unfold bindL;rw[kT λv hv=>(IM.mp nd).1 (KP hv).1,Gn hk];simp
 |p::P,w::vs,i+1,m,nd,h1,h2,hk=>by
  show bindL kindOf ((p,w)::P.zip vs) m x=_;unfold bindL;exact kg (i:=i) (IM.mp nd).2 (by simpa using h1) (by simpa using h2) hk
theorem kj{v:Value}:∀{P:List Str} {vs:List Value} {i:Nat} {m:Str->Option Value},P.Nodup->P[i]?=some x->vs[i]?=some v->kindOf x≠some .local ->
  bindC kindOf (P.zip vs) m x=some v
 |[],_,_,_,_,h,_,_=>by simp at h
 |_::_,[],_,_,_,_,h,_=>by simp at h
 |p::P,w::vs,0,m,nd,h1,h2,hk=>by
  simp at h1 h2;subst h1;subst h2;show bindC kindOf ((p,w)::P.zip vs) m p=_;unfold bindC;rw[kn λv hv=>(IM.mp nd).1 (KP hv).1,Gj hk];simp
 |p::P,w::vs,i+1,m,nd,h1,h2,hk=>by
  show bindC kindOf ((p,w)::P.zip vs) m x=_;unfold bindC;exact kj (i:=i) (IM.mp nd).2 (by simpa using h1) (by simpa using h2) hk
noncomputable def start(N:List Str)(vs:List V):St:=vs.map some++List.replicate (N.length-vs.length) none
noncomputable def fu(CX:nI)(P:Program)(w:World)(K:LA)(mg:Str->Option Value)(base:Heap)(N:List Str)(qual:Str)(scope:Scope)(f:Addr)(cd:Value)(A:Around)(outer:List Env)(s:Shared)(H:Hp)(E:XK):Cx where
 prog:=P
 w:=w
 K:=K
 mg:=mg
 base:=base
 A:=A.deeper (envOfC qual scope s.heap.objs.size f cd)
 N:=N
 s₀:=s
 H₀:=H
 env:=envOfC qual scope s.heap.objs.size f cd
 outer:=outer
 stack:=envOfC qual scope s.heap.objs.size f cd::outer
 ex:=[]
 calm:=true
 fn:=λ_=>true
 pn:=[]
 xe:=λe s'=>wpAny (model P w) (A.deeper (envOfC qual scope s.heap.objs.size f cd)) (leaving (envOfC qual scope s.heap.objs.size f cd) e) (λ_ s''=>CX outer H s E e s'') (λe' s''=>CX outer H s E e' s'') s'
theorem oj{sc:Scope}{n:Nat}(h:sc.names.lookup x=some .cell):∃c,(cellsFrom n sc.names []).lookup x=some c:=by
 have q:=PySem.W.cellsFrom_some sc.names n [] (.inl h);exact Jn.mp q
theorem sY{ps:List Str}{qual:Str}{f:Addr}{cd:Value}{A:Around}{s s1:Shared}{E:XK}{vs:List V}
  (S:ax N ps scope) (hd:A.handled=none) (e0:pM P w K mg base A outer s H) (hl:vs.length=ps.length) (r:Vals vs us)
  (x:InCallC s s.heap.objs.size (bindL (envOfC qual scope s.heap.objs.size f cd).kindOf (ps.zip us) λ_=>none) (cellsFrom (s.heap.objs.size+1) scope.names []) (bindC (envOfC qual scope s.heap.objs.size f cd).kindOf (ps.zip us) λ_=>none) s1) :
  Inv (fu CX P w K mg base N qual scope f cd A outer s H E) [] (start N vs) H s1:=by
 have hpl:ps.length<=N.length:=by have:=Hj List.length S.pre;rw[GQ] at this;lia
 obtain⟨h1,tk,rfl,hk⟩:=x.done;have noA:∀b:Addr,b∉(fu CX P w K mg base N qual scope f cd A outer s H E).ex:=λb z=>absurd (show b∈([]:List Addr) from z) (by simp)
 refine⟨⟨e0.mod,S.kind,rfl,rfl,Gp _,λy z c h1 h2=>?_,λy hy=>?_,λy c _ h=>?_,λ_=>hd,Around.frames_deeper e0.frames,.inr ⟨rfl,rfl⟩,λb z=>absurd z (noA b),e0.bs,e0.xD,λb _ _=>noA b,λb z=>absurd z (noA b),e0.iF,e0.Bi,e0.tabs⟩,
  rfl,e0.bare,Un.kept hk,⟨_,x.toInCall.ns,λi y v h1 h2 h3=>?_⟩,λy c h=>⟨_,x.cell y c h⟩,e0.aU.fresh (Gp _),λy c h=>?_,λp hp=>absurd (show p∈([]:List (Addr×Obj)) from hp) (by simp),e0.aU.kept hk,?_⟩
 ·exact name_of_addr x.apart (PySem.mem_of_lookup h1) (PySem.mem_of_lookup h2)
 ·have hy:scope.names.lookup y=some .cell\/scope.names.lookup y=some .free:=hy;rcases hy with hy|hy
  ·exact oj hy
  ·exact absurd rfl (S.C2 _ (PySem.mem_of_lookup hy))
 ·exact Iz (x.above y c (PySem.mem_of_lookup h))
 ·have hi:i<vs.length:=by
   unfold start at h2;by_cases hi:i<vs.length
   ·exact hi
   ·rw[Ha (by simpa using hi)] at h2
    rw[KJ] at h2
    split at h2<;>cases h2
  have ha:vs[i]?=some v:=by
   unfold start at h2;rw[Hi (by simpa using hi),G0] at h2
   cases e:vs[i]? with
   |none=>rw[e] at h2;cases h2
   |some a=>rw[e] at h2;cases h2;rfl
  obtain⟨u,hu,rv⟩:=r.get ha;have hp:ps[i]?=some y:=by
   rw[<- S.pre,List.getElem?_take_of_lt (by lia)];exact h1
  have ndP:ps.Nodup:=by rw[<- S.pre];exact S.nd.sublist (List.take_sublist _ _)
  refine⟨u,rv,?_⟩;rcases S.par y (Hx hp) with k|k
  ·exact .inl ⟨k,kg ndP hp hu k⟩
  ·obtain⟨c,e⟩:=oj (n:=s.heap.objs.size+1) k;refine .inr ⟨.inl k,c,e,?_⟩;have q:=x.cell y c e;rw[kj ndP hp hu (by show scope.names.lookup y≠_;rw[k];decide)] at q
   exact q
 ·exact e0.aU.fresh (Iz (x.above y c (PySem.mem_of_lookup h)))
 ·unfold start;show _=N.length;rw[Gk,Gu,GB];lia
theorem Af{k:Nat}{f:Addr}{name qual:Str}{params:Arguments}{dV kV doc pm cdv ct oc:Value}{an od:Option Addr}
  {osl:Array (Option Value)} {ps:List Str} {sp:Sp} (lk:K.lookup f=some ⟨oc,od,.func (PySem.W.fnOf name qual params body scope dV kV doc pm an cdv ct),osl⟩) (g9:PySem.W.codeIn K cdv qual=true) (S:ax N ps scope)
  (len:∀vs H Q E,sp vs H Q E->vs.length=ps.length)
  (hbody:∀(A:Around) (outer:List Env) (s:Shared) (H:Hp) (vs:List V) (Q:VK) (E:XK),bD k (A.deeper (envOfC qual scope s.heap.objs.size f cdv))->sp vs H Q E ->
   ∃t,pV (fu CX P w K mg base N qual scope f cdv A outer s H E) body t/\t {nx:=λ_ H'=>Q .aP H',rt:=Q} (start N vs) H) :
  cy P w K mg base CX (k+1) f (PySem.W.fnOf name qual params body scope dV kV doc pm an cdv ct) ps sp:=by
 refine⟨len,λA outer s H args us vs Q E hr e0 hb r hsp=>?_⟩;have hl:=len _ _ _ _ hsp;have KX:K.In s.heap:=e0.mod.DG.keeps λb o e=>(e0.bs b o e).1;have lim:s.heap.NoLimit:=e0.mod.nolimit.keeps λb o e=>(e0.bs b o e).1;have hkind:∀y∈ps.zip us,scope.names.lookup y.1=some .local\/(scope.names.lookup y.1=some .cell/\((cellsFrom (s.heap.objs.size+1) scope.names []).lookup y.1).isSome=true):=λ⟨n,v⟩ hy=>by
  rcases S.par n (KP hy).1 with q|q
  ·exact .inl q
  ·exact .inr ⟨q,PySem.W.cellsFrom_some _ _ _ (.inl q)⟩
 refine codeAny_call_function hr.depth (KX _ _ lk) rfl S.co S.gen rfl (PySem.W.codeRec_of KX g9) (hb _ _ _ _ ?_);refine wpAny_newFunctionEnv_cells S.kind hkind λenv he s1 x=>?_;subst he;refine⟨lim.keeps x.toInCall.keep,codeAny_func ?_⟩;obtain⟨t,ht,hq⟩:=hbody A outer s H vs Q E (hr.deeper _) hsp;have I:Inv (fu CX P w K mg base N qual scope f cdv A outer s H E) [] (start N vs) H s1:=sY S hr.hd e0 hl r x;refine Hq (ht [] s1 (start N vs) H _ I hq) (λfl s' hs=>?_) λe s' hs=>hs;have fin:∀{σ':St} {H':Hp} {v:V} {u:Value},Inv (fu CX P w K mg base N qual scope f cdv A outer s H E) [] σ' H' s'->RelV v u->Q v H'->CE outer P w H s Q u s':=
  λ{σ' H' v u} J rv q=>⟨v,H',J.os,J.bare,J.base,J.aU,rv,q⟩
 cases fl with
 |ret u =>
  obtain⟨v,σ',H',J,rv,q⟩:=hs;exact fin J rv q
 |next =>
  obtain⟨σ',H',J,q⟩:=hs;exact fin (v:=V.aP) (u:=Value.none) J rfl q
 |brk =>
  obtain⟨_,_,_,q⟩:=hs;exact False.elim q
 |cont =>
  obtain⟨_,_,_,q⟩:=hs;exact False.elim q
section
variable {X:Cx} {x:Str} {p pos:Pos} {e:Expr} {es:List Expr} {t:TA} {id T:String} {r:List V->Hp->VK->Prop}
noncomputable def xI(r:List V->Hp->VK->Prop)(t:TA):TE:=λσ H Q=>t σ H λvs H1=>r vs H1 Q
theorem uJ(hc:b6 X (.builtin id) r)(hg:Gl X x)(hm:X.mg x=none)(hv:bootBuiltins x=some (.builtin id))(ha:PA X (e::es) t)(hn:autoParam (x≠"__name__") ℜ1)(hdb:autoParam ((x ==("__debug__":Str))=false) ℜ1)
  (he:autoParam (starEach (e::es) X.env=(false,eval e X.env)::starEach es X.env) ℜ0) (hpl:autoParam ((backTo pos (starEach es X.env)).any (·.1)=false) ℜ0):PE X (.Call (.Name x p) (e::es) [] pos) (xI r t):=by
 intro pins s σ H Q I h;refine Il (e_ I hg hm hv ?_ hn hdb);exact PyProof.Rows.callWith_builtin1 (bJ (ha pos pins s σ H _ I h) λus s1 ⟨vs,H1,I1,r1,q1⟩=>hc pins s1 σ H1 vs us Q I1 r1 q1) he hpl
theorem tu(hc:b6 X (.type T) r)(hg:Gl X x)(hm:X.mg x=none)(hv:bootBuiltins x=some (.type T))(ha:PA X (e::es) t)(hn:autoParam (x≠"__name__") ℜ1)(hdb:autoParam ((x ==("__debug__":Str))=false) ℜ1)
  (he:autoParam (starEach (e::es) X.env=(false,eval e X.env)::starEach es X.env) ℜ0) (hpl:autoParam ((backTo pos (starEach es X.env)).any (·.1)=false) ℜ0):PE X (.Call (.Name x p) (e::es) [] pos) (xI r t):=by
 intro pins s σ H Q I h;refine Il (e_ I hg hm hv ?_ hn hdb);exact Hv (bJ (ha pos pins s σ H _ I h) λus s1 ⟨vs,H1,I1,r1,q1⟩=>hc pins s1 σ H1 vs us Q I1 r1 q1) he hpl
end
end L2
namespace HT
open PySem PyProof.Rows
section
variable {prog:Program} {w:World} {A:Around} {E:Value->Shared->Prop} {s:Shared}
theorem yj{t b:Addr}{vs ws:List Value}{Q:Value->Shared->Prop}(ht:IsTup s.heap t vs.toArray)(hb:IsTup s.heap b ws.toArray)(hv:vs≠[])
  (h1:ws=[]->Q (.ref t) s) (h2:ws≠[]->Q (.ref s.heap.objs.size) {s with heap:=s.heap.push {cls:=.type "tuple",data:=.seq (vs++ws).toArray}})
  (hsz:vs.length+ws.length<=sizeLine):wpAny (model prog w) A (binaryOp .Add (.ref t) (.ref b)) Q E s:=by
 obtain⟨⟨cls,dd,data,sl⟩,ho,hc,n,hd⟩:=id ht;obtain⟨⟨cls2,dd2,data2,sl2⟩,ho2,hc2,n2,hd2⟩:=id hb;simp only at hc hd hc2 hd2;subst hc hd hc2 hd2;have e:vs.toArray++ws.toArray=(vs++ws).toArray:=by simp
 by_cases hw:ws=[]
 ·exact concat_meets ⟨_,ho,rfl⟩ ⟨_,ho2,rfl⟩ noFill_tuple_add seq_tuple_add PySem.F.slot_tuple_add PySem.F.entry_tuple_add (PySem.F.args_tuple_add_2 _ _)
   (tuple_addW1 t b vs.toArray ws.toArray n n2 dd dd2 sl sl2 (by simpa using hv) (by simp[hw])) ⟨ho,ho2,h1 hw⟩
 ·refine concat_meets ⟨_,ho,rfl⟩ ⟨_,ho2,rfl⟩ noFill_tuple_add seq_tuple_add PySem.F.slot_tuple_add PySem.F.entry_tuple_add (PySem.F.args_tuple_add_2 _ _)
   (tuple_addW2 t b vs.toArray ws.toArray n n2 dd dd2 sl sl2 (by simpa using hv) (by simpa using hw) (by rw[List.size_toArray,List.size_toArray];exact hsz)) ⟨ho,ho2,?_⟩
  rw[e];exact h2 hw
noncomputable def b_(n d:Nat):Option Int->Nat
 |none=>d
 |some v=>if v<0 then (v+(n:Int)).toNat else min v.toNat n
theorem fC(n d:Nat):b_ n d none=d:=rfl
theorem dX(n d k:Nat):b_ n d (some (k:Int))=min k n:=by
 show (if (k:Int)<0 then ((k:Int)+(n:Int)).toNat else min (k:Int).toNat n)=min k n
 rw[if_neg (by lia),Int.toNat_natCast]
theorem pB(n d:Nat)(hd:d<=n)(o:Option Int):b_ n d o<=n:=by
 cases o with
 |none=>exact hd
 |some v =>
  show (if v<0 then (v+(n:Int)).toNat else min v.toNat n)<=n
  by_cases hv:v<0
  ·rw[if_pos hv];lia
  ·rw[if_neg hv];exact Nat.min_le_right _ _
theorem qH(v:Int)(n d:Nat):(if v<0 then max (v+(n:Int)) 0 else min v (n:Int))=((b_ n d (some v):Nat):Int):=by
 show (if v<0 then max (v+(n:Int)) 0 else min v (n:Int))=(((if v<0 then (v+(n:Int)).toNat else min v.toNat n):Nat):Int)
 by_cases hv:v<0
 ·simp only[if_pos hv];lia
 ·simp only[if_neg hv];lia
theorem oQ(lo hi:Option Int)(n:Nat):Builtin.Slice.sliceAdjust lo hi 1 (n:Int)=(((b_ n 0 lo:Nat):Int),((b_ n n hi:Nat):Int)):=by
 have h1:¬ ((1:Int)<0):=by lia
 unfold Builtin.Slice.sliceAdjust;simp only[h1,if_false];refine Prod.ext ?_ ?_
 ·cases lo with
  |none=>rfl
  |some v=>exact qH v n 0
 ·cases hi with
  |none=>rfl
  |some v=>exact qH v n n
theorem oY(i j:Nat):Builtin.Slice.slicePlaces (i:Int) (j:Int) 1=j-i:=by
 unfold Builtin.Slice.slicePlaces;have h1:(1:Int) > 0:=by lia
 simp only[h1,if_true,Int.ediv_one]
 split<;>lia
theorem jj{v:Value}{o:Option Int}{Q:Option Int->Shared->Prop}(p:IsPart v o)(h:Q o s):wpAny (model prog w) A (Builtin.Slice.slicePartIndex v) Q E s:=by
 cases p with
 |none=>exact slicePart_none h
 |int i t=>exact slicePart_int h
theorem ic{sl:Addr}{vl vu:Value}{lo hi:Option Int}{n:Nat}{Q:Int×Int×Nat->Shared->Prop}(hs:s.heap.IsSliceOf sl vl vu .none)(pl:IsPart vl lo)(pu:IsPart vu hi)
  (h:Q (((b_ n 0 lo:Nat):Int),1,b_ n n hi-b_ n 0 lo) s):wpAny (model prog w) A (Builtin.Slice.sliceApplied (.ref sl) (pure (n:Int))) Q E s:=by
 obtain⟨os,hos,hcs,m3⟩:=id hs;unfold Builtin.Slice.sliceApplied Builtin.Slice.sliceFields;refine wpAny_bind (wpAny_bind (wpAny_field hos m3 (x:=vl) rfl (wpAny_bind (wpAny_field hos m3 (x:=vu) rfl (wpAny_bind (wpAny_field hos m3 (x:=.none) rfl (wpAny_pure ?_)))))));refine wpAny_bind (slicePart_none ?_);show wpAny _ _ (if ((1:Int) == 0)=true then _ else _) _ _ s
 rw[if_neg (by decide)]
 refine wpAny_bind (jj pl (wpAny_bind (jj pu (wpAny_bind (wpAny_pure ?_)))));show wpAny _ _ (match Builtin.Slice.sliceAdjust lo hi 1 (n:Int) with | (lo,hi)=>pure (lo,(1:Int),Builtin.Slice.slicePlaces lo hi 1)) _ _ s
 rw[oQ lo hi n];show wpAny _ _ (pure (((b_ n 0 lo:Nat):Int),(1:Int),Builtin.Slice.slicePlaces ((b_ n 0 lo:Nat):Int) ((b_ n n hi:Nat):Int) 1)) _ _ s;rw[oY];exact wpAny_pure h
theorem vy(xs:Array Value)(i k:Nat):((List.range k).filterMap λ(m:Nat)=>xs[((i:Int)+(m:Int)*1).toNat]?).toArray=((xs.toList.drop i).take k).toArray:=by
 have e:(λ(m:Nat)=>xs[((i:Int)+(m:Int)*1).toNat]?)=λm=>xs[i+m]?:=by
  funext m
  have:((i:Int)+(m:Int)*1).toNat=i+m:=by lia
  rw[this]
 rw[e];have:=pick_run xs i k;rw[List.filterMap_map] at this;have e2:((λx=>xs[x]?) ∘ λx=>i+x)=λm=>xs[i+m]?:=rfl;rw[e2] at this;rw[this]
theorem gN{t sl:Addr}{items:Array Value}{vl vu:Value}{lo hi:Option Int}{Q:Value->Shared->Prop}(ht:IsTup s.heap t items)(hs:s.heap.IsSliceOf sl vl vu .none)(pl:IsPart vl lo)(pu:IsPart vu hi)
  (hw:¬ (b_ items.size 0 lo=0/\b_ items.size items.size hi=items.size))
  (h:Q (.ref s.heap.objs.size) {s with heap:=s.heap.push {cls:=.type "tuple",data:=.seq ((items.toList.drop (b_ items.size 0 lo)).take (b_ items.size items.size hi-b_ items.size 0 lo)).toArray}})
  (hsz:items.size<=sizeLine):wpAny (model prog w) A (getItem (.ref t) (.ref sl)) Q E s:=by
 have htake:sizeOk (.seq ((items.toList.drop (b_ items.size 0 lo)).take (b_ items.size items.size hi-b_ items.size 0 lo)).toArray):=by
  show ((items.toList.drop (b_ items.size 0 lo)).take (b_ items.size items.size hi-b_ items.size 0 lo)).toArray.size<=sizeLine;rw[List.size_toArray,List.length_take,List.length_drop,Array.length_toList];exact Nat.le_trans (Nat.min_le_right _ _) (Nat.le_trans (Nat.sub_le _ _) hsz)
 have hj:b_ items.size items.size hi<=items.size:=pB _ _ (Nat.le_refl _) hi;obtain⟨os,hos,hcs,m3⟩:=id hs;have hTs:s.TypeIs (.ref sl) "slice":=⟨os,hos,hcs⟩;unfold getItem
 try with_reducible refine wpAny_holding ?_
 first|refine wpAny_bind (wpAny_pure ?_)|skip
 refine wpAny_bind (wpAny_sequenceKey ht.typeIs (by decide) ?_)
 refine wpAny_bind (wpAny_callSpecial?_slot (name:=Str.ofString "__getitem__") ht.typeIs PyProof.Rows.slot_tuple_getitem
  (wpAny_call_entry PyProof.Rows.slot_tuple_getitem ht.typeIs entry_tuple_getitem ?_ (args_tuple_getitem _ _)))
 show wpAny _ _ (Builtin.Tuple.tupleItemsOf (.ref t) >>= _) _ _ s;refine wpAny_bind (tupleItemsOf_ ht ?_);refine wpAny_bind (wpAny_typeOf hTs ?_);rw[if_pos (by decide)]
 refine wpAny_bind (ic hs pl pu ?_);have hno:¬ ((((b_ items.size 0 lo:Nat):Int) == 0 && (1:Int) == 1 && (b_ items.size items.size hi-b_ items.size 0 lo) == items.size)=true):=by
  intro q;rw[Bool.and_eq_true,Bool.and_eq_true] at q;have q1:((b_ items.size 0 lo:Nat):Int)=0:=eq_of_beq q.1.1;have q2:b_ items.size items.size hi-b_ items.size 0 lo=items.size:=eq_of_beq q.2;exact hw ⟨by lia,by lia⟩
 show wpAny _ _ (if (((b_ items.size 0 lo:Nat):Int) == 0 && (1:Int) == 1 && (b_ items.size items.size hi-b_ items.size 0 lo) == items.size)=true then _ else _) _ _ s
 rw[if_neg hno,vy]
 first
  |exact wpAny_bind (m:=Builtin.Tuple.tupleExact _) (wpAny_newObj_type (wpAny_pure ⟨_,rfl,wpAny_pure h⟩) htake)
  |exact wpAny_bind (m:=Builtin.Tuple.tupleExact _) (wpAny_newObj_type (wpAny_bind (wpAny_pure (wpAny_pure ⟨_,rfl,wpAny_pure h⟩))) htake)
  |exact wpAny_bind (wpAny_bind (m:=Builtin.Tuple.tupleExact _) (wpAny_newObj_type (wpAny_pure (wpAny_pure ⟨_,rfl,wpAny_pure h⟩)) htake))
  |exact wpAny_bind (wpAny_bind (m:=Builtin.Tuple.tupleExact _) (wpAny_newObj_type (wpAny_pure ⟨_,rfl,wpAny_pure h⟩) htake))
end
end HT
namespace L2
open PySem PySem.Spec PyProof.Rows
variable{xs:List (List Key×Addr×Value)}{its its' us:List Value}{α:Type}{pins:List (Addr×Obj)}{σ:St}{H H':Hp}{x y:V}{u:Value}{o:Option V}{P:Program}{w:World}{kvs:List (List Key×V)}{a:Addr}{Q:Value->Shared->Prop}{X:Cx}{trs:List (TE×TE)}
abbrev TO:=St->Hp->(Option Int->Hp->Prop)->Prop
noncomputable def PO(X:Cx)(e:Option Expr)(t:TO):Prop:=
 ∀(pins:List (Addr×Obj)) (s:Shared) (σ:St) (H:Hp) (Q:Option Int->Hp->Prop),Inv X pins σ H s->t σ H Q ->
  wpAny (model X.prog X.w) X.A (evalPart e X.env) (λu s'=>∃o H',Inv X pins σ H' s'/\IsPart u o/\Q o H') X.xe s
noncomputable def gR:TO:=λ_ H Q=>Q none H
noncomputable def mZ(t:TE):TO:=λσ H Q=>t σ H λx H1=>∃i,x=.int i/\Q (some i) H1
theorem intsAre_of{ns:List Int}:∀{us:List Value},Vals (ns.map V.int) us->IntsAre us ns:=by
 induction ns with
 |nil=>intro us r;rw[JL] at r;cases r;exact .nil
 |cons n ns ih =>
  intro us r;rw[Hd] at r
  cases r with
  |cons r1 r2 =>
   obtain⟨t,e⟩:=r1;subst e;exact .cons n t (ih r2)
section
variable {X:Cx} {e:Expr} {te:TE} {lo hi:Option Expr} {tl th:TO} {pos p2:Pos}
theorem y4:PO X none gR:=by
 intro pins s σ H Q I h;rw[evalPart_none];exact Gq ⟨none,H,I,.none,h⟩
theorem yf(h:PE X e te):PO X (some e) (mZ te):=by
 intro pins s σ H Q I hw;rw[evalPart_some];refine bJ (h pins s σ H _ I hw) λu s1 hq50=>?_;obtain⟨x,H1,I1,r1,q1⟩:=hq50;obtain⟨i,rfl,q⟩:=q1;obtain⟨t,rfl⟩:=r1;exact⟨some i,H1,I1,.int i t,q⟩
noncomputable def Aq(X:Cx)(r:V->Option Int->Option Int->Hp->VK->Prop):Prop:=
 ∀(pins:List (Addr×Obj)) (s:Shared) (σ:St) (H:Hp) (x:V) (v vl vu:Value) (lo hi:Option Int) (sl:Addr) (Q:VK),Inv X pins σ H s->RelV x v->s.heap.IsSliceOf sl vl vu .none->IsPart vl lo->IsPart vu hi->r x lo hi H Q ->
  ∃T id,typeLookup (.type T) "__getitem__"=pure (some (.builtin id))/\s.TypeIs v T/\wpAny (model X.prog X.w) X.A (getItem v (.ref sl)) (EP X pins σ Q) X.xe s
noncomputable def E4(r:V->Option Int->Option Int->Hp->VK->Prop)(te:TE)(tl th:TO):TE:=λσ H Q=>te σ H λx H1=>tl σ H1 λl H2=>th σ H2 λu H3=>r x l u H3 Q
theorem vn{r:V->Option Int->Option Int->Hp->VK->Prop}(hr:Aq X r)(he:PE X e te)(hl:PO X lo tl)(hu:PO X hi th):PE X (.Subscript e (.Slice lo hi none p2) pos) (E4 r te tl th):=by
 intro pins s σ H Q I h;refine Subscript_ (bJ (he pins s σ H _ I h) λv s1 hq51=>?_);obtain⟨x,H1,I1,r1,q1⟩:=hq51;refine wpAny_Slice (bJ (hl pins s1 σ H1 _ I1 q1) λvl s2 ⟨l,H2,I2,pl,q2⟩=>bJ (hu pins s2 σ H2 _ I2 q2) λvu s3 hq52=>?_);obtain⟨u,H3,I3,pu,q3⟩:=hq52;rw[evalPart_none];refine Gq ?_;have I4:Inv X pins σ H3 {s3 with heap:=s3.heap.push {cls:=.type "slice",data:=.fields #[vl,vu,.none]}}:=I3.kept (t':=s3.toks) λb ob q=>Gh _ q
 obtain⟨T,id,hT,ht,hg⟩:=hr pins {s3 with heap:=s3.heap.push {cls:=.type "slice",data:=.fields #[vl,vu,.none]}} σ H3 x v vl vu l u s3.heap.objs.size Q I4 r1 (Heap.IsSliceOf.new ..) pl pu q3
 show wpAny (model X.prog X.w) X.A (subscriptTail e (.Slice lo hi none p2) v (.ref s3.heap.objs.size)) (EP X pins σ Q) X.xe {s3 with heap:=s3.heap.push {cls:=.type "slice",data:=.fields #[vl,vu,.none]}}
 exact tail_any (ops:=[.ref s3.heap.objs.size,v]) ht hT hg (by with_unfolding_all rfl)
noncomputable def iE(xs:List V)(lo hi:Option Int):List V:=(xs.drop (HT.b_ xs.length 0 lo)).take (HT.b_ xs.length xs.length hi-HT.b_ xs.length 0 lo)
theorem iy(xs:List V)(lo hi:Option Int):(iE xs lo hi).length<=xs.length:=by
 unfold iE;rw[GQ,Hf];exact Gr (Nat.min_le_right _ _) (Nat.sub_le _ _)
noncomputable def uP(K:LA):V->Option Int->Option Int->Hp->VK->Prop:=λx lo hi H Q=>∃a xs,x=.ref a/\bz K H a xs /\
 ¬ (HT.b_ xs.length 0 lo=0/\HT.b_ xs.length xs.length hi=xs.length)/\∀p,H p=none->Q (.ref p) (upd H p (.tup (iE xs lo hi)))
theorem xn:Aq X (uP X.K):=by
 intro pins s σ H x v vl vu lo hi sl Q I rx hs pl pu h;obtain⟨a,xs,rfl,hx,hw,q⟩:=h;cases rx;obtain⟨its,r,ht,hz⟩:=I.tuple hx;have hlen:its.toArray.size=xs.length:=by rw[Gy];exact r.length.symm
 refine⟨"tuple",_,PyProof.Rows.slot_tuple_getitem.lookup,ht.typeIs,?_⟩;refine HT.gN ht hs pl pu (by rw[hlen];exact hw) ?_ (by rw[hlen];exact hz)
 rw[hlen];refine⟨.ref s.heap.objs.size,_,I.laid (t':=s.toks) (o:=.tup (iE xs lo hi)) (λb ob q=>Gh _ q) (Gp _) ?_,rfl,q _ (I.aU.fresh (Gp _))⟩;exact⟨Gr (iy xs lo hi) hz,_,(r.drop (HT.b_ xs.length 0 lo)).take (HT.b_ xs.length xs.length hi-HT.b_ xs.length 0 lo),dM.new _ _⟩
noncomputable def Dy(K:LA):R2:=λx y H Q=>∃a b xs ys,x=.ref a/\y=.ref b/\bz K H a xs/\bz K H b ys/\xs≠[]/\xs.length+ys.length<=sizeLine /\
 (ys=[]->Q (.ref a) H)/\(ys≠[]->∀p,H p=none->Q (.ref p) (upd H p (.tup (xs++ys))))
theorem Vals.lO{xs:List V}(r:Vals xs us):us=[] ↔ xs=[]:=by
 cases r with
 |nil=>simp
 |cons _ _=>simp
theorem zS:dy X (binaryOp .Add) (Dy X.K):=by
 intro pins s σ H x y v u Q I rx ry h;obtain⟨a,b,xs,ys,rfl,rfl,ha,hb,hx,hz,q1,q2⟩:=h;cases rx;cases ry;obtain⟨its,r1,p1,_⟩:=I.tuple ha;obtain⟨its2,r2,p2,_⟩:=I.tuple hb;refine HT.yj p1 p2 (λz=>hx (r1.lO.mp z)) (λz=>⟨.ref a,H,I,rfl,q1 (r2.lO.mp z)⟩) (λz=>?_) (by rw[<- r1.length,<- r2.length];exact hz)
 refine⟨.ref s.heap.objs.size,_,I.laid (t':=s.toks) (o:=.tup (xs++ys)) (λb ob q=>Gh _ q) (Gp _) ?_,rfl,q2 (λw=>z (r2.lO.mpr w)) _ (I.aU.fresh (Gp _))⟩;exact⟨by rw[Gk];exact hz,_,r1.append r2,dM.new _ _⟩
end
noncomputable def mf(n:Nat)(i:Int):Option Nat:=if 0<=i then (if i<n then some i.toNat else none) else if -(n:Int)<=i then some (i+n).toNat else none
noncomputable def bV(xs:List α)(i:Int):Option α:=(mf xs.length i).bind λj=>xs[j]?
theorem rD{n:Nat}{i:Int}{j:Nat}(h:mf n i=some j):seqIndex? i n=some j/\j<n/\-(n:Int)<=i/\i<n:=by
 unfold mf at h;by_cases h0:0<=i
 ·rw[Gn h0] at h;by_cases h1:i<n
  ·rw[Gn h1] at h;have e:i.toNat=j:=Option.some.inj h;exact⟨by rw[seqIndex_of h0 h1,e],by lia,by lia,h1⟩
  ·rw[Gj h1] at h;cases h
 ·rw[Gj h0] at h;by_cases h1:-(n:Int)<=i
  ·rw[Gn h1] at h;have e:(i+n).toNat=j:=Option.some.inj h;exact⟨by rw[Ls (by lia) h1,e],by lia,h1,by lia⟩
  ·rw[Gj h1] at h;cases h
theorem lQ{xs:List α}{i:Int}{v:α}(h:bV xs i=some v):∃j,seqIndex? i xs.length=some j/\xs[j]?=some v/\j<xs.length/\-(xs.length:Int)<=i/\i<xs.length:=by
 unfold bV at h
 cases e:mf xs.length i with
 |none=>rw[e] at h;cases h
 |some j =>
  rw[e] at h;obtain⟨h1,h2,h3,h4⟩:=rD e;exact⟨j,h1,h,h2,h3,h4⟩
theorem bM{xs:List α}{j:Nat}{v:α}(h:xs[j]?=some v):bV xs (j:Int)=some v:=by
 have hj:j<xs.length:=(Gm.mp h).1;have e:mf xs.length (j:Int)=some j:=by
  unfold mf;rw[Gn (by lia),Gn (by lia)];simp
 unfold bV;rw[e];exact h
noncomputable def qW(b:Expr):Prop:=∀o i,subscripted b false o i=operate [o,i] (getItem o i)
noncomputable def r_(X:Cx)(r:R2):Prop:=
 ∀(value slice:Expr) (pins:List (Addr×Obj)) (s:Shared) (σ:St) (H:Hp) (x y:V) (v u:Value) (Q:VK),Inv X pins σ H s->RelV x v->RelV y u->r x y H Q ->
  subscripted slice false v u=operate [v,u] (getItem v u)->wpAny (model X.prog X.w) X.A (subscriptTail value slice v u) (EP X pins σ Q) X.xe s
noncomputable def vj(X:Cx)(id:String)(r:V->List V->Hp->VK->Prop):Prop:=
 ∀(pins:List (Addr×Obj)) (s:Shared) (σ:St) (H:Hp) (x:V) (xs:List V) (v:Value) (us:List Value) (Q:VK),Inv X pins σ H s->RelV x v->Vals xs us->r x xs H Q ->
  wpAny (model X.prog X.w) X.A (call (.builtin id) (v::us)) (EP X pins σ Q) X.xe s
section
variable {X:Cx} {a b:Expr} {ta tb:TE} {pos:Pos}
theorem r_.or{r r':R2}(h:r_ X r)(h':r_ X r'):r_ X (λx y H Q=>r x y H Q\/r' x y H Q):=by
 intro value slice pins s σ H x y v u Q I rx ry q hs;rcases q with q|q
 ·exact h value slice pins s σ H x y v u Q I rx ry q hs
 ·exact h' value slice pins s σ H x y v u Q I rx ry q hs
theorem Al{r:R2}(hr:r_ X r)(ha:PE X a ta)(hb:PE X b tb)(hs:qW b):PE X (.Subscript a b pos) (tW r ta tb):=by
 intro pins s σ H Q I h;exact Subscript_ (Bw ha hb I h λv u s2 x y H2 I2 rx ry q=>hr a b pins s2 σ H2 x y v u Q I2 rx ry q (hs _ _))
noncomputable def CL(K:LA):R2:=λx y H Q=>∃p xs i v,x=.ref p/\y=.int i/\bY K H p xs/\bV xs i=some v/\Q v H
noncomputable def BE(K:LA):R2:=λx y H Q=>∃p xs i v,x=.ref p/\y=.int i/\bz K H p xs/\bV xs i=some v/\Q v H
noncomputable def CV:R2:=λx y H Q=>∃z i c,x=.str z/\y=.int i/\z.length<=sizeLine/\bV z.cps.toList i=some c/\Q (.str ⟨#[c]⟩) H
theorem yq:r_ X (CL X.K):=by
 intro value slice pins s σ H x y v u Q I rx ry h hs;obtain⟨p,xs,i,z,rfl,rfl,hq,he,q⟩:=h;cases rx;obtain⟨t,rfl⟩:=ry;obtain⟨its,r,pl,hz⟩:=I.list hq;obtain⟨j,h1,h2,h3,h4,h5⟩:=lQ he;obtain⟨w,ew,rw'⟩:=r.get h2;have hl:=r.length;have hn:=hJ;have fin:EP X pins σ Q w s:=⟨z,H,I,rw',q⟩;by_cases h0:0<=i
 ·have hj:i.toNat=j:=by
   rw[seqIndex_of h0 h5] at h1;exact Option.some.inj h1
  exact item_listR pl.isList h0 (by lia) (by rw[hj];simpa using ew) fin hs
 ·have hj:(i+(its.toArray.size:Int)).toNat=j:=by
   rw[Ls (by lia) h4] at h1
   rw[Gy,<- hl];exact Option.some.inj h1
  exact subscriptTail_builtinR (x:=w) pl.isList.typeIs slot_list_getitem.lookup
   (wpAny_getItem_list_neg (Q:=λr s'=>r=w/\EP X pins σ Q r s') pl.isList (by lia) (by rw[Gy]<;>lia) (by lia) (by rw[hj];simpa using ew) ⟨rfl,fin⟩) hs
theorem qe:r_ X (BE X.K):=by
 intro value slice pins s σ H x y v u Q I rx ry h hs;obtain⟨p,xs,i,z,rfl,rfl,hq,he,q⟩:=h;cases rx;obtain⟨t,rfl⟩:=ry;obtain⟨its,r,pl,hz⟩:=I.tuple hq;obtain⟨j,h1,h2,h3,h4,h5⟩:=lQ he;obtain⟨w,ew,rw'⟩:=r.get h2;have hl:=r.length;have hn:=hJ;have fin:EP X pins σ Q w s:=⟨z,H,I,rw',q⟩;exact subscriptTail_builtinR (x:=w) pl.typeIs slot_tuple_getitem.lookup
  (getItem_tuple (j:=j) (Q:=λr s'=>r=w/\EP X pins σ Q r s') pl (by lia) (by lia) (by rw[Gy,<- hl];exact h1) (by simpa using ew) ⟨rfl,fin⟩) hs
theorem AJ:r_ X CV:=by
 intro value slice pins s σ H x y v u Q I rx ry h hs;obtain⟨z,i,c,rfl,rfl,hz,he,q⟩:=h;obtain⟨t,rfl⟩:=rx;obtain⟨t',rfl⟩:=ry;obtain⟨j,h1,h2,h3,h4,h5⟩:=lQ he;have hl:z.cps.toList.length=z.length:=by simp[Str.length]
 rw[hl] at h1 h4 h5;have hn:=hJ;exact tail_any (Ln s z t) slot_str_getitem.lookup (getItem_str (c:=c) (by
  have e1:decide (i < -(2^63:Int))=false:=GJ (by lia)
  have e2:decide (i >= 2^63)=false:=GJ (by lia)
  rw[e1,e2,Bool.or_false]) (by rw[h1];simpa using h2) ⟨.str ⟨#[c]⟩,H,I.tok _,⟨_,rfl⟩,q⟩) hs
noncomputable def F_(K:LA):R2:=λx y H Q=>CL K x y H Q\/BE K x y H Q\/CV x y H Q
theorem Cm:r_ X (F_ X.K):=yq.or (qe.or AJ)
theorem pC(its:List Value)(n j:Nat)(u:Value):Obj.mapSeq (·.setIfInBounds j u) {cls:=.type "list",data:=.seq its.toArray n}={cls:=.type "list",data:=.seq (its.set j u).toArray n}:=by
 simp[Obj.mapSeq]
theorem Inv.lst{s:Shared}{p:Addr}{xs:List V}(I:Inv X pins σ H s)(h:H p=some (.lst xs)):
  ∃(its:List Value) (n:Nat),Vals xs its/\s.heap.get? p=some {cls:=.type "list",data:=.seq its.toArray n}/\xs.length<=sizeLine:=by
 obtain⟨z,its,n,r,e⟩:=I.aU p _ h;exact⟨its,n,r,e,z⟩
theorem Inv.Bv{s:Shared}{p:Addr}{xs ys:List V}{n n':Nat}{f:Obj->Obj}(I:Inv X pins σ H s)(h:H p=some (.lst xs))
  (ho:s.heap.get? p=some {cls:=.type "list",data:=.seq its.toArray n}) (hf:f {cls:=.type "list",data:=.seq its.toArray n}={cls:=.type "list",data:=.seq its'.toArray n'}) (r:Vals ys its') (hz:ys.length<=sizeLine) (t:Nat) :
  Inv X pins σ (upd H p (.lst ys)) {s with heap:=s.heap.update p f,toks:=t}:=by
 have e:(s.heap.update p f).get? p=some {cls:=.type "list",data:=.seq its'.toArray n'}:=by
  rw[JD f ho (by rw[hf]<;>rfl),hf]
 refine I.write (x:=p) (e:=p) (by rw[h];trivial) (.inl rfl) (λb u hb q=>(Ju _ _ (HB hb)).trans q) ⟨_,e⟩ ?_
 exact⟨hz,its',n',r,e⟩
noncomputable def Dq:V->V->V->Hp->(Hp->Prop)->Prop:=λo i v H Q=>∃p xs k j,o=.ref p/\i=.int k/\H p=some (.lst xs)/\mf xs.length k=some j/\Q (upd H p (.lst (xs.set j v)))
theorem set_list:Bh X Dq:=by
 intro pins s σ H o i v ov iv u Q I ro ri rv h;obtain⟨p,xs,k,j,rfl,rfl,hp,hj,q⟩:=h;cases ro;obtain⟨t,rfl⟩:=ri;obtain⟨its,n,r,ho,hz⟩:=I.lst hp;obtain⟨h1,h2,h3,h4⟩:=rD hj;have hl:=r.length;have hn:=hJ;have I':Inv X pins σ (upd H p (.lst (xs.set j v))) {s with heap:=s.heap.update p (Obj.mapSeq (·.setIfInBounds j u))}:=
  I.Bv hp ho (pC its n j u) (r.set rv j) (by rw[HE];exact hz) s.toks
 by_cases h0:0<=k
 ·have hk:k.toNat=j:=by
   rw[seqIndex_of h0 h4] at h1;exact Option.some.inj h1
  exact PySem.W.ki_setAt ho h0 (by lia) (by rw[Gy,<- hl];exact h4) (by rw[hk];exact⟨_,I',q⟩)
 ·have hk:(k+(its.toArray.size:Int)).toNat=j:=by
   rw[Ls (by lia) h3] at h1
   rw[Gy,<- hl];exact Option.some.inj h1
  exact PySem.W.ki_setBack ho (by lia) (by rw[Gy,<- hl];exact h3) (by lia) (by rw[hk];exact⟨_,I',q⟩)
theorem mm(lo hi:Option Int)(n:Nat):(sliceBounds lo hi none n).1=((HT.b_ n 0 lo:Nat):Int)/\(sliceBounds lo hi none n).2.1=((HT.b_ n n hi:Nat):Int)/\(sliceBounds lo hi none n).2.2=1:=by
 refine⟨?_,?_,rfl⟩
 ·cases lo with
  |none=>simp[sliceBounds,HT.b_]
  |some i =>
   simp only[sliceBounds,HT.b_,Option.getD_none,show (1:Int) > 0 by decide,JE]
   by_cases h:i<0
   ·simp only[h,JE]<;>lia
   ·simp only[h,Ih]<;>lia
 ·cases hi with
  |none=>simp[sliceBounds,HT.b_]
  |some i =>
   simp only[sliceBounds,HT.b_,Option.getD_none,show (1:Int) > 0 by decide,JE]
   by_cases h:i<0
   ·simp only[h,JE]<;>lia
   ·simp only[h,Ih]<;>lia
theorem jW(its:List Value)(lo hi:Option Int):slicePick its.toArray lo hi none=((its.drop (HT.b_ its.length 0 lo)).take (HT.b_ its.length its.length hi-HT.b_ its.length 0 lo)).toArray:=by
 obtain⟨h1,h2,h3⟩:=mm lo hi its.toArray.size;unfold slicePick;rw[h1,h2,h3];simp only[sliceRange_one,pick_run,Gy]<;>rfl
noncomputable def DB(K:LA):V->Option Int->Option Int->Hp->VK->Prop:=λx lo hi H Q=>∃a xs,x=.ref a/\bY K H a xs/\∀p,H p=none->Q (.ref p) (upd H p (.lst (iE xs lo hi)))
theorem qR:Aq X (DB X.K):=by
 intro pins s σ H x v vl vu lo hi sl Q I rx hs pl pu h;obtain⟨a,xs,rfl,hx,q⟩:=h;cases rx;obtain⟨its,r,ht,hz⟩:=I.list hx;have hlen:=r.length;refine⟨"list",_,slot_list_getitem.lookup,ht.isList.typeIs,?_⟩;refine wpAny_getItem_list_slice ht.isList hs pl pu .none (by simp) ?_ (by rw[Gy]<;>lia)
 rw[jW,<- hlen];refine⟨.ref s.heap.objs.size,_,I.laid (t':=s.toks) (o:=.lst (iE xs lo hi)) (λb ob q=>Gh _ q) (Gp _) ?_,rfl,q _ (I.aU.fresh (Gp _))⟩;exact⟨Gr (iy xs lo hi) hz,_,0,(r.drop (HT.b_ xs.length 0 lo)).take (HT.b_ xs.length xs.length hi-HT.b_ xs.length 0 lo),Gw _ rfl⟩
noncomputable def dk:V->Bool
 |.aP=>true
 |.bl _=>true
 |.int _=>true
 |.str _=>true
 |_=>false
noncomputable def Aa:V->V->Bool
 |.aP,.aP=>true
 |.bl a,.bl b=>a == b
 |.bl a,.int b=>(if a then 1 else 0) == b
 |.int a,.bl b=>a ==(if b then 1 else 0)
 |.int a,.int b=>a == b
 |.str a,.str b=>a == b
 |_,_=>false
theorem BH{A:Around}{s:Shared}{v:Value}(ry:RelV y u)(rx:RelV x v)(fy:dk y=true)(fx:dk x=true):SeqAt.EqAt A s u v (Aa y x):=by
 cases y with
 |aP =>
  cases ry
  cases x with
  |aP=>cases rx;exact SeqAt.EqAt.same _
  |bl b=>cases rx;exact SeqAt.EqAt.none_bool b
  |int b=>obtain⟨t,rfl⟩:=rx;exact SeqAt.EqAt.none_int b t
  |str b=>obtain⟨t,rfl⟩:=rx;exact SeqAt.EqAt.none_str b t
  |_=>exact absurd (show false=true from fx) Gx
 |bl a =>
  cases ry
  cases x with
  |aP=>cases rx;exact SeqAt.EqAt.bool_none a
  |bl b=>cases rx;exact SeqAt.EqAt.bool_bool a b
  |int b=>obtain⟨t,rfl⟩:=rx;exact SeqAt.EqAt.bool_int a b t
  |str b=>obtain⟨t,rfl⟩:=rx;exact SeqAt.EqAt.bool_str a b t
  |_=>exact absurd (show false=true from fx) Gx
 |int a =>
  obtain⟨t',rfl⟩:=ry
  cases x with
  |aP=>cases rx;exact SeqAt.EqAt.int_none a t'
  |bl b=>cases rx;exact SeqAt.EqAt.int_bool a t' b
  |int b=>obtain⟨t,rfl⟩:=rx;exact SeqAt.EqAt.int_int a t' b t
  |str b=>obtain⟨t,rfl⟩:=rx;exact SeqAt.EqAt.int_str a t' b t
  |_=>exact absurd (show false=true from fx) Gx
 |str a =>
  obtain⟨t',rfl⟩:=ry
  cases x with
  |aP=>cases rx;exact SeqAt.EqAt.str_none a t'
  |bl b=>cases rx;exact SeqAt.EqAt.str_bool a t' b
  |int b=>obtain⟨t,rfl⟩:=rx;exact SeqAt.EqAt.str_int a t' b t
  |str b=>obtain⟨t,rfl⟩:=rx;exact SeqAt.EqAt.str_str a t' b t
  |_=>exact absurd (show false=true from fx) Gx
 |_=>exact absurd (show false=true from fy) Gx
noncomputable def yM(x:V)(u:Value):Bool:=match u with
 |.none=>Aa .aP x
 |.bool b=>Aa (.bl b) x
 |.int i _=>Aa (.int i) x
 |.str z _=>Aa (.str z) x
 |_=>false
theorem wF(r:RelV y u)(f:dk y=true):yM x u=Aa y x:=by
 cases y with
 |aP=>cases r;rfl
 |bl b=>cases r;rfl
 |int i=>obtain⟨t,rfl⟩:=r;rfl
 |str z=>obtain⟨t,rfl⟩:=r;rfl
 |_=>exact absurd (show false=true from f) Gx
theorem lW:∀{xs:List V} {us:List Value},Vals xs us->xs.all dk=true->us.any (yM x)=xs.any λy=>Aa y x
 |_,_,.nil,_=>rfl
 |y::xs,u::us,.cons r t,f=>by
  rw[Ie,Hy] at f;rw[Jz,Jz,wF r f.1,lW t f.2]
theorem jo{A:Around}{s:Shared}{v:Value}(rx:RelV x v)(fx:dk x=true):∀{xs:List V} {us:List Value},Vals xs us->xs.all dk=true->∀u∈us,SeqAt.EqAt A s u v (yM x u)
 |_,_,.nil,_=>λu hu=>by cases hu
 |y::xs,u::us,.cons r t,f=>λu' hu=>by
  rw[Ie,Hy] at f;rcases Gs.mp hu with rfl|hu
  ·rw[wF r f.1];exact BH r rx f.1 fx
  ·exact jo rx fx t f.2 u' hu
noncomputable def pY(x:V)(xs:List V):Bool:=xs.any λy=>Aa y x
noncomputable def ER(K:LA)(neg:Bool):R2:=λx y H Q=>∃p xs,y=.ref p/\(bY K H p xs\/bz K H p xs)/\dk x=true/\xs.all dk=true/\Q (.bl (if neg then !pY x xs else pY x xs)) H
theorem kM:dy X (compareOp .In) (ER X.K false):=by
 intro pins s σ H x y v u Q I rx ry h;obtain⟨p,xs,rfl,hq,fx,fs,q⟩:=h;cases ry;rcases hq with hq|hq
 ·obtain⟨its,r,pl,hz⟩:=I.list hq;refine SeqAt.in_listAt (yM x) pl.isList (λw hw=>jo rx fx r fs w (by simpa using hw)) ⟨.bl _,H,I,rfl,?_⟩
  rw[show its.toArray.any (yM x)=its.any (yM x) by simp,lW r fs]
  exact q
 ·obtain⟨its,r,pl,hz⟩:=I.tuple hq;refine SeqAt.in_tupleAt (yM x) pl (λw hw=>jo rx fx r fs w (by simpa using hw)) ⟨.bl _,H,I,rfl,?_⟩
  rw[show its.toArray.any (yM x)=its.any (yM x) by simp,lW r fs]
  exact q
theorem kW:b6 X (.type "list") (λxs H Q=>∃p ys,xs=[.ref p]/\(bY X.K H p ys\/bz X.K H p ys)/\∀l,H l=none->Q (.ref l) (upd H l (.lst ys))):=by
 intro pins s σ H xs us Q I r h;obtain⟨p,ys,rfl,hq,q⟩:=h;obtain⟨u,rfl,rx⟩:=vals1 r;cases rx;have fin:∀(its:List Value),Vals ys its->ys.length<=sizeLine->∀(h':Heap) (c':Nat),(∀b o',s.heap.get? b=some o'->h'.get? b=some o') ->
   h'.get? s.heap.objs.size=some {cls:=.type "list",dict:=none,data:=.seq its.toArray c',slots:=#[]}->EP X pins σ Q (.ref s.heap.objs.size) {s with heap:=h'}:=λits r' hz h' c' kp e =>
  ⟨.ref s.heap.objs.size,_,I.laid (t':=s.toks) kp (Gp _) (show bf X.prog X.w _ h' _ (.lst ys) from⟨hz,its,c',r',e⟩),rfl,q _ (I.aU.fresh (Gp _))⟩
 rcases hq with hq|hq
 ·obtain⟨its,r',pl,hz⟩:=I.list hq;have hlen:=r'.length;obtain⟨o,ho,hc,n,hd⟩:=pl.isList;exact call_list_seq p (.inl rfl) ho hc hd (λh' c' kp e=>fin its r' hz h' c' kp e) (by simp only[Gy]<;>lia)
 ·obtain⟨its,r',pl,hz⟩:=I.tuple hq;have hlen:=r'.length;obtain⟨o,ho,hc,n,hd⟩:=pl;exact call_list_seq p (.inr rfl) ho hc hd (λh' c' kp e=>fin its r' hz h' c' kp e) (by simp only[Gy]<;>lia)
theorem d_:b6 X (.type "tuple") (λxs H Q=>∃p ys,xs=[.ref p]/\((bY X.K H p ys/\∀l,H l=none->Q (.ref l) (upd H l (.tup ys)))\/(bz X.K H p ys/\Q (.ref p) H))):=by
 intro pins s σ H xs us Q I r h;obtain⟨p,ys,rfl,h⟩:=h;obtain⟨u,rfl,rx⟩:=vals1 r;cases rx;rcases h with ⟨hq,q⟩|⟨hq,q⟩
 ·obtain⟨its,r',pl,hz⟩:=I.list hq;have hlen:=r'.length;refine call_tuple_list pl.isList (λh' kp=>?_) (by simp only[Gy]<;>lia)
  have I1:Inv X pins σ H {s with heap:=h'}:=I.kept (t':=s.toks) kp
  have I2:Inv X pins σ (upd H h'.objs.size (.tup ys)) {s with heap:=h'.push {cls:=.type "tuple",data:=.seq its.toArray}}:=
   I1.laid (t':=s.toks) (λb o e=>Gh _ e) (Gp _) (show bf X.prog X.w _ _ _ (.tup ys) from⟨hz,its,r',dM.new _ _⟩)
  exact⟨.ref h'.objs.size,_,I2,rfl,q _ (I1.aU.fresh (Gp _))⟩
 ·obtain⟨its,r',pl,hz⟩:=I.tuple hq;exact call_tuple_same pl ⟨.ref p,H,I,rfl,q⟩
noncomputable def Er(K:LA)(T:String)(x:V)(H:Hp):Prop:=match x with
 |.str _=>T="str"
 |.int _=>T="int"
 |.ref p=>(T="list"/\∃xs,bY K H p xs)\/(T="tuple"/\∃o,K.lookup p=some o/\o.cls=.type "tuple"/\o.dict=none) \/
   (T="dict"/\((∃kvs,H p=some (.dK kvs))\/∃kvs,H p=some (.dT kvs)))\/(T="set"/\∃S n,H p=some (.set S n))
 |_=>False
theorem wD{s:Shared}{T:String}{v:Value}(I:Inv X pins σ H s)(r:RelV x v)(ty:Er X.K T x H):
  s.TypeIs v T/\∀a,v=.ref a->∃ob,s.heap.get? a=some ob/\ob.dict=none:=by
 cases x with
 |str z =>
  obtain⟨t,rfl⟩:=r
  cases (show T="str" from ty)
  exact⟨Ln s z t,λ_ e=>nomatch e⟩
 |int i =>
  obtain⟨t,rfl⟩:=r
  cases (show T="int" from ty)
  exact⟨Ks s i t,λ_ e=>nomatch e⟩
 |ref p =>
  cases r;rcases ty with ⟨rfl,xs,hq⟩|⟨rfl,o,hk,hc,hd⟩|⟨rfl,hk⟩|⟨rfl,S,n,hk⟩
  ·obtain⟨its,_,pl,_⟩:=I.list hq;refine⟨pl.isList.typeIs,λa e=>?_⟩;cases e;obtain⟨o,n,e,c,hd,_⟩:=pl;exact⟨o,e,hd⟩
  ·refine⟨⟨o,I.gP p o hk,hc⟩,λa e=>?_⟩;cases e;exact⟨o,I.gP _ o hk,hd⟩
  ·have z:∃o,s.heap.get? p=some o/\o.ExactDict:=by
    rcases hk with ⟨kvs,hk⟩|⟨kvs,hk⟩
    ·obtain⟨_,_,_,_,o,_,_,e,ex,_⟩:=I.aU p _ hk;exact⟨o,e,ex⟩
    ·obtain⟨_,_,_,_,o,_,_,e,ex,_⟩:=I.aU p _ hk;exact⟨o,e,ex⟩
   obtain⟨o,e,ex⟩:=z;refine⟨⟨o,e,ex.1⟩,λa e2=>?_⟩;cases e2;exact⟨o,e,ex.2.1⟩
  ·obtain⟨o,_,_,_,e,ex,_⟩:=I.aU p _ hk;refine⟨⟨o,e,ex.1⟩,λa e2=>?_⟩;cases e2;exact⟨o,e,ex.2.1⟩
 |_=>exact False.elim ty
noncomputable def uu(K:LA)(T:String)(r:V->List V->Hp->VK->Prop)(to:TE):TE:=λσ H Q=>to σ H λx H1=>Er K T x H1/\r x [] H1 Q
noncomputable def CI(K:LA)(T:String)(r:V->List V->Hp->VK->Prop)(to:TE)(t:TA):TE:=λσ H Q=>to σ H λx H1=>Er K T x H1/\t σ H1 λxs H2=>r x xs H2 Q
variable {o e:Expr} {es:List Expr} {to:TE} {t:TA} {name:Str} {apos cpos:Pos} {T id:String} {r:V->List V->Hp->VK->Prop}
theorem Bl(pa:PlainAttrs T)(slot:Slot T name id)(hty:typeOf (.builtin id)=pure (.type "method_descriptor"))(hm:vj X id r)(ho:PE X o to)
  (hbase:autoParam (attributeBase o name X.env (eval o X.env)=eval o X.env) ℜ0) (hline:autoParam ((apos.endLine == cpos.line)=true) ℜ0):PE X (.Call (.Attribute o name apos) [] [] cpos) (uu X.K T r to):=by
 intro pins s σ H Q I h;refine wpAny_Call_method0_late hbase hline (bJ (ho pins s σ H _ I h) λv s1 hq53=>?_);obtain⟨x,H1,I1,r1,ty,q1⟩:=hq53;obtain⟨h1,h2⟩:=wD I1 r1 ty;exact⟨T,id,pa,slot,hty,h1,h2,La rfl (PySem.evalArgs_none (hm pins s1 σ H1 x [] v [] Q I1 r1 .nil q1))⟩
theorem Dr(pa:PlainAttrs T)(slot:Slot T name id)(hty:typeOf (.builtin id)=pure (.type "method_descriptor"))(hm:vj X id r)(ho:PE X o to)(ha:PA X (e::es) t)
  (hbase:autoParam (attributeBase o name X.env (eval o X.env)=eval o X.env) ℜ0)
  (hfew:autoParam (((backTo cpos (starEach (e::es) X.env)).all (λx=>!x.1) && (backToKw cpos (keywordEach [] X.env)).all (λx=>x.1.isSome)
   && decide ((e::es).length+([]:List Keyword).length+(if ([]:List Keyword).isEmpty then 0 else 1)<30))=true) ℜ0)
  (hline:autoParam ((apos.endLine == cpos.line)=true) ℜ0) (hs:autoParam (starEach (e::es) X.env=(false,eval e X.env)::starEach es X.env) ℜ0) (hplain:autoParam ((backTo cpos (starEach es X.env)).any (·.1)=false) ℜ0) :
  PE X (.Call (.Attribute o name apos) (e::es) [] cpos) (CI X.K T r to t):=by
 intro pins s σ H Q I h;refine wpAny_Call_method_late hbase hfew hline rfl (bJ (ho pins s σ H _ I h) λv s1 hq54=>?_);obtain⟨x,H1,I1,r1,ty,q1⟩:=hq54;obtain⟨h1,h2⟩:=wD I1 r1 ty;refine⟨T,id,pa,slot,hty,h1,h2,?_⟩;have hA:=ha cpos pins s1 σ H1 _ I1 q1;rw[hs] at hA ⊢;refine La (by show (false || (backTo cpos (starEach es X.env)).any (·.1))=false;rw[hplain]<;>rfl) (Calls.evalArgs_plain ?_)
 exact bJ hA λus s2 ⟨vs,H2,I2,r2,q2⟩=>hm pins s2 σ H2 x vs v us Q I2 r1 r2 q2
/- xs.append(e),list.index on a module's tuple .. are vj facts of 06m -/
end
noncomputable def ED(X:Cx)(id:String)(r:V->List V->Hp->VK->Prop):Prop:=
 ∀(pins:List (Addr×Obj)) (s:Shared) (σ:St) (H:Hp) (x:V) (xs:List V) (v:Value) (us:List Value) (Q:VK),Inv X pins σ H s->RelV x v->Vals xs us->r x xs H Q ->
  wpAny (model X.prog X.w) X.A (call (.builtin id) (v::us)) (EP X pins σ Q) X.xe s
theorem Vals.one:∀{x:V} {us:List Value},Vals [x] us->∃u,us=[u]/\RelV x u
 |_,_,.cons r .nil=>⟨_,rfl,r⟩
theorem Vals.eraseIdx:∀{xs:List V} {us:List Value} (i:Nat),Vals xs us->Vals (xs.eraseIdx i) (us.eraseIdx i)
 |_,_,_,.nil=>.nil
 |_,_,0,.cons _ t=>t
 |_,_,i+1,.cons r t=>.cons r (Vals.eraseIdx i t)
theorem Vals.rep{xs:List V}(h:Vals xs us):∀k:Nat,Vals (List.replicate k xs).flatten (List.replicate k us).flatten
 |0=>.nil
 |k+1=>by
  rw[Hh,Hh,Iv,Iv];exact Vals.append h (Vals.rep h k)
theorem kl:∀(l:List α) (i:Nat),(l.eraseIdx i).length<=l.length
 |[],_=>Gp _
 |_::_,0=>HD _
 |_::r,i+1=>Nat.succ_le_succ (kl r i)
theorem foldl_rep(its:List Value):∀(k:Nat) (acc:List Value),
  List.foldl (λx1 x2=>x1++x2) acc.toArray (List.replicate k its.toArray)=(acc++(List.replicate k its).flatten).toArray
 |0,acc=>by simp
 |k+1,acc=>by
  have e:acc.toArray++its.toArray=(acc++its).toArray:=by simp
  have e2:(acc++its)++(List.replicate k its).flatten=acc++(List.replicate (k+1) its).flatten:=by
   rw[Hh,Iv,GV]
  rw[<- e2,<- foldl_rep its k (acc++its),<- e,Hh,KQ]
section
variable {X:Cx} {pins:List (Addr×Obj)} {σ:St} {H:Hp} {s:Shared} {l b:Addr} {xs ys zs:List V}
theorem Inv.BR{n:Nat}{f:Array Value->Array Value}{t':Nat}(I:Inv X pins σ H s)(hH:H l=some (.lst xs))
  (e:s.heap.get? l=some {cls:=.type "list",data:=.seq its.toArray n}) (hf:f its.toArray=its'.toArray) (hv:Vals ys its') (hz:ys.length<=sizeLine) :
  Inv X pins σ (upd H l (.lst ys)) {s with heap:=s.heap.update l (Obj.mapSeq f),toks:=t'}:=by
 have q:=PySem.IsL.update e f;rw[hf] at q;refine I.write (x:=l) (e:=l) (by rw[hH];exact trivial) (.inl rfl) (λb' u hb hu=>(Ju s.heap (Obj.mapSeq f) (HB hb)).trans hu) ⟨_,q⟩ ?_
 exact⟨hz,its',_,hv,q⟩
theorem Inv.Ca{t':Nat}(I:Inv X pins σ H s)(hv:Vals ys its)(hz:ys.length<=sizeLine):
  Inv X pins σ (upd H s.heap.objs.size (.lst ys)) {s with heap:=s.heap.push {cls:=.type "list",data:=.seq its.toArray},toks:=t'}:=
 I.laid (λ_ _ q=>Gh _ q) (Gp _) ⟨hz,its,0,hv,Gw _ rfl⟩
theorem Inv.fresh(I:Inv X pins σ H s):H s.heap.objs.size=none:=I.aU.fresh (Gp _)
theorem Inv.pz(I:Inv X pins σ H s)(hH:H l=some (.lst xs)):xs.length<=sizeLine/\∃(its:List Value) (n:Nat),Vals xs its/\xs.length=its.length/\s.heap.get? l=some {cls:=.type "list",data:=.seq its.toArray n}:=by
 obtain⟨z,its,n,r,e⟩:=I.aU l _ hH;exact⟨z,its,n,r,r.length,e⟩
theorem vJ{n:Nat}(h:n<=sizeLine):Builtin.List.listTooLong n=false:=by
 unfold Builtin.List.listTooLong;exact GJ (by lia)
end
section
variable {X:Cx}
noncomputable def yk:V->List V->Hp->VK->Prop:=λx vs H Q=>∃l xs y,x=.ref l/\vs=[y]/\H l=some (.lst xs)/\xs.length<sizeLine/\Q .aP (upd H l (.lst (xs++[y])))
theorem cV:ED X "list.append" yk:=by
 intro pins s σ H x vs v us Q I rx rv h;obtain⟨l,xs,y,rfl,rfl,hH,hz,q⟩:=h;cases rx;obtain⟨u,rfl,ru⟩:=rv.one;obtain⟨z,its,n,r,hl,e⟩:=I.pz hH;refine IZ F.slot_list_append ⟨_,e,rfl⟩ F.entry_list_append (F.args_list_append_2 _ _) (PySem.list_append l its.toArray n u (by rw[Gy];lia)) ⟨e,?_⟩
 refine⟨.aP,_,I.BR (its':=its++[u]) hH e (by simp) (r.append (.cons ru .nil)) ?_,rfl,q⟩
 rw[Gk,IV];lia
noncomputable def C6:V->List V->Hp->VK->Prop:=λx vs H Q=>∃l xs i k y,x=.ref l/\vs=[.int i]/\H l=some (.lst xs)/\-(2^63)<=i/\i<2^63/\seqIndex? i xs.length=some k/\xs[k]?=some y/\Q y (upd H l (.lst (xs.eraseIdx k)))
theorem mE:ED X "list.pop" C6:=by
 intro pins s σ H x vs v us Q I rx rv h;obtain⟨l,xs,i,k,y,rfl,rfl,hH,h1,h2,hk,hy,q⟩:=h;cases rx;obtain⟨u,rfl,ru⟩:=rv.one;obtain⟨t,rfl⟩:=ru;obtain⟨z,its,n,r,hl,e⟩:=I.pz hH;obtain⟨w,hw,rw'⟩:=r.get hy;refine IZ F.slot_list_pop ⟨_,e,rfl⟩ F.entry_list_pop (F.args_list_pop_2 _ _)
  (MeetsSeq.list_pop_at l its.toArray n i t k w (Lf h1 h2) (by rw[Gy,<- hl];exact hk) (by rw[<- GY];exact hw) (by rw[Gy];lia)) ⟨e,?_⟩
 refine⟨y,_,I.BR (its':=its.eraseIdx k) hH e ?_ (r.eraseIdx k) ?_,rw',q⟩
 ·show its.toArray.eraseIdxIfInBounds k=(its.eraseIdx k).toArray;rw[List.eraseIdxIfInBounds_toArray]
 ·have:=kl xs k;lia
noncomputable def EZ:R2:=λx y H Q=>∃l b xs zs,x=.ref l/\y=.ref b/\H l=some (.lst xs)/\H b=some (.lst zs)/\xs.length+zs.length<=sizeLine/\∀p,H p=none->Q (.ref p) (upd H p (.lst (xs++zs)))
theorem B6:dy X (binaryOp .Add) EZ:=by
 intro pins s σ H x y v u Q I rx ry h;obtain⟨l,b,xs,zs,rfl,rfl,hH,hB,hz,q⟩:=h;cases rx;cases ry;obtain⟨z,its,n,r,hl,e⟩:=I.pz hH;obtain⟨z2,its2,n2,r2,hl2,e2⟩:=I.pz hB;refine PySem.P.add_list e e2 ?_ (by rw[Gy,Gy];lia)
 have ea:its.toArray++its2.toArray=(its++its2).toArray:=by simp
 rw[ea];exact⟨.ref _,_,I.Ca (t':=s.toks) (r.append r2) (by rw[Gk];lia),rfl,q _ I.fresh⟩
noncomputable def DA:R2:=λx y H Q=>∃l k xs,x=.ref l/\y=.int k/\H l=some (.lst xs)/\-(2^63)<=k/\k<2^63/\xs.length*k.toNat<=sizeLine /\
 ∀p,H p=none->Q (.ref p) (upd H p (.lst (List.replicate k.toNat xs).flatten))
theorem len_rep(xs:List α)(k:Nat):(List.replicate k xs).flatten.length=k*xs.length:=by
 induction k with
 |zero=>simp
 |succ k ih=>rw[Hh,Iv,Gk,ih,K2,Nat.add_comm]
theorem Cj:dy X (binaryOp .Mult) DA:=by
 intro pins s σ H x y v u Q I rx ry h;obtain⟨l,k,xs,rfl,rfl,hH,h1,h2,hz,q⟩:=h;cases rx;obtain⟨t,rfl⟩:=ry;obtain⟨z,its,n,r,hl,e⟩:=I.pz hH;have hlen:its.toArray.size*k.toNat<=sizeLine:=by rw[Gy,<- hl];exact hz
 have hcap:¬ its.toArray.size*k.toNat >(2^63-1) / 8:=by
  have:(sizeLine:Nat)<=(2^63-1) / 8:=by decide
  lia
 have hfit:¬ (!Builtin.List.listFitsIndex k)=true:=by
  rw[Lf h1 h2];exact Gx
 have hlong:¬ Builtin.List.listTooLong (its.toArray.size*k.toNat)=true:=by
  rw[vJ hlen];exact Gx
 have hnew:List.foldl (λx1 x2=>x1++x2) #[] (List.replicate (if its.toArray.isEmpty=true then 0 else k.toNat) its.toArray)=(List.replicate k.toNat its).flatten.toArray:=by
  have f0:∀m:Nat,List.foldl (λx1 x2=>x1++x2) #[] (List.replicate m its.toArray)=(List.replicate m its).flatten.toArray:=λm=>by
   have:=foldl_rep its m [];rw[HF] at this;exact this
  rw[f0]
  cases its with
  |nil=>simp
  |cons a r'=>rw[Gj (by simp)]
 refine Kt (T:="list") (U:="int") (by decide) ⟨_,e,rfl⟩ (λs'=>Ks s' k t) noFill_list_mul F.fills_int_mul F.slot_int_rmul repeat_list F.slot_int_index.lookup
  (IZ F.slot_int_rmul (Ks s k t) F.entry_int_rmul (F.args_int_rmul_2 _ _) (int___rmul___int_list k t l its.toArray n)
   ⟨e,rfl,⟨_,e,rfl⟩,IZ F.slot_list_mul ⟨_,e,rfl⟩ F.entry_list_mul (F.args_list_mul_2 _ _) (AutoListH.list___mul___list_int_3 l its.toArray n k t hfit hcap hlong) ⟨e,?_⟩⟩)
 rw[hnew];exact⟨.ref _,_,I.Ca (t':=s.toks) (r.rep k.toNat) (by rw[len_rep,Nat.mul_comm];exact hz),rfl,q _ I.fresh⟩
end
section
variable {κ:Type} [DecidableEq κ]
noncomputable def cQ(kvs:List (κ×V))(k:κ):Option V:=(kvs.find? λkv=>decide (kv.1=k)).map (·.2)
noncomputable def putK(kvs:List (κ×V))(k:κ)(v:V):List (κ×V):=
 if (kvs.any λkv=>decide (kv.1=k))=true then kvs.map (λkv=>if kv.1=k then (kv.1,v) else kv) else kvs++[(k,v)]
theorem bI{p:κ×V}{r:List (κ×V)}{k:κ}(e:p.1=k):cQ (p::r) k=some p.2:=by simp[cQ,Ib,e]
theorem bE{p:κ×V}{r:List (κ×V)}{k:κ}(e:¬ p.1=k):cQ (p::r) k=cQ r k:=by simp[cQ,Ib,e]
theorem eE(k:κ):∀kvs:List (κ×V),(kvs.any λkv=>decide (kv.1=k))=(cQ kvs k).isSome
 |[]=>rfl
 |p::r=>by
  rw[Jz];by_cases e:p.1=k
  ·simp only[bI e,GZ e,Bool.true_or,Option.isSome_some]
  ·rw[bE e,GJ e,Bool.false_or];exact eE k r
theorem m9(k j:κ)(y:V):∀kvs:List (κ×V),cQ (kvs.map λkv=>if kv.1=k then (kv.1,y) else kv) j=(cQ kvs j).map λx=>if j=k then y else x
 |[]=>rfl
 |p::r=>by
  have ih:=m9 k j y r;rw[Hd];by_cases h:p.1=k
  ·rw[Gn h];by_cases e:p.1=j
   ·rw[bI (p:=(p.1,y)) e,bI e,Jj,Gn (e.symm.trans h)]
   ·rw[bE (p:=(p.1,y)) e,bE e,ih]
  ·rw[Gj h];by_cases e:p.1=j
   ·rw[bI (p:=p) e,bI e,Jj,Gj (λz=>h (e.trans z))]
   ·rw[bE (p:=p) e,bE e,ih]
theorem ke(k j:κ)(y:V):∀kvs:List (κ×V),cQ kvs k=none->cQ (kvs++[(k,y)]) j=if j=k then some y else cQ kvs j
 |[],_=>by
  by_cases e:k=j
  ·rw[Gn e.symm];exact bI (p:=(k,y)) e
  ·rw[Gj (λz=>e z.symm)];exact bE (p:=(k,y)) e
 |p::r,hn=>by
  rw[Ii];have hk:¬ p.1=k:=λz=>by rw[bI z] at hn;cases hn
  rw[bE hk] at hn;have ih:=ke k j y r hn;by_cases e:p.1=j
  ·rw[bI e,bI e,Gj (λz=>hk (e.trans z))]
  ·rw[bE e,bE e,ih]
theorem mK(kvs:List (κ×V))(k j:κ)(y:V):cQ (putK kvs k y) j=if j=k then some y else cQ kvs j:=by
 unfold putK;by_cases a:(kvs.any λkv=>decide (kv.1=k))=true
 ·rw[Gn a,m9];rw[eE] at a;by_cases e:j=k
  ·obtain⟨x,hx⟩:=Jn.mp a;rw[Gn e,e,hx,Jj,Gn rfl]
  ·rw[Gj e]
   cases cQ kvs j with
   |none=>rfl
   |some x=>rw[Jj,Gj e]
 ·rw[Gj a];refine ke k j y kvs ?_;rw[eE] at a
  cases q:cQ kvs k with
  |none=>rfl
  |some x=>rw[q] at a;exact (a rfl).elim
theorem fv(kvs:List (κ×V))(k:κ)(v:V):(putK kvs k v).length<=kvs.length+1:=by
 unfold putK;split
 ·rw[Gu];lia
 ·rw[Gk,GF,Hu];lia
theorem m8{kvs:List (κ×V)}{k:κ}(v:V)(h:cQ kvs k=none):putK kvs k v=kvs++[(k,v)]:=by
 unfold putK;rw[eE,h];exact Gj (by decide)
theorem fV.hX{u:Option Value}(r:fV o u):o.isSome=u.isSome:=by
 cases o with
 |none=>cases u with
  |none=>rfl
  |some _=>exact (show False from r).elim
 |some _=>cases u with
  |none=>exact (show False from r).elim
  |some _=>rfl
theorem KV.val{kvs:List (κ×V)}{vs:List (κ×Value)}(r:KV kvs vs)(k:κ):fV (cQ kvs k) (valueAt vs k):=by
 unfold KV at r
 induction r with
 |nil=>exact True.intro
 |@cons p q ps qs h t ih =>
  obtain⟨h1,h2⟩:=h;by_cases e:p.1=k
  ·have e':q.1=k:=h1.symm.trans e;have b:valueAt (q::qs) k=some q.2:=by simp[valueAt,Ib,e']
   rw[bI e,b];exact h2
  ·have e':¬ q.1=k:=λz=>e (h1.trans z);have b:valueAt (q::qs) k=valueAt qs k:=by simp[valueAt,Ib,e']
   rw[bE e,b];exact ih
theorem KV.any{kvs:List (κ×V)}{vs:List (κ×Value)}(r:KV kvs vs)(k:κ):(kvs.any λkv=>decide (kv.1=k))=vs.any λkv=>decide (kv.1=k):=by
 unfold KV at r
 induction r with
 |nil=>rfl
 |cons h t ih=>rw[Jz,Jz,ih,h.1]
theorem KV.A6{kvs:List (κ×V)}{vs:List (κ×Value)}(r:KV kvs vs)(k:κ)(ry:RelV y u):
  KV (kvs.map λkv=>if kv.1=k then (kv.1,y) else kv) (vs.map λkv=>if kv.1=k then (kv.1,u) else kv):=by
 unfold KV at r ⊢
 induction r with
 |nil=>exact .nil
 |@cons p q ps qs h t ih =>
  rw[Hd,Hd];refine .cons ?_ ih;obtain⟨h1,h2⟩:=h;by_cases e:p.1=k
  ·rw[Gn e,Gn (h1.symm.trans e)];exact⟨h1,ry⟩
  ·rw[Gj e,Gj (λz=>e (h1.trans z))];exact⟨h1,h2⟩
theorem KV.put{kvs:List (κ×V)}{vs:List (κ×Value)}(r:KV kvs vs)(k:κ)(ry:RelV y u):KV (putK kvs k y) (stored vs k u):=by
 unfold putK stored;rw[r.any k];by_cases e:(vs.any λkv=>decide (kv.1=k))=true
 ·rw[Gn e,Gn e];exact r.A6 k ry
 ·rw[Gj e,Gj e];exact Paired.snoc r ⟨rfl,ry⟩
theorem KV.length{kvs:List (κ×V)}{vs:List (κ×Value)}(r:KV kvs vs):kvs.length=vs.length:=Paired.length r
end
theorem kh{k:Key}(r:RelV (kV k) u):(bF P w).is k u=true:=by
 cases k with
 |inl i=>obtain⟨t,e⟩:=(show ∃t,u=Value.int i t from r);subst e;exact nW P w i t
 |inr x=>obtain⟨t,e⟩:=(show ∃t,u=Value.str x t from r);subst e;exact nH P w x t
theorem kP:∀{ks:List Key} {us:List Value},Vals (ks.map kV) us->ItemsAre (bF P w) ks us
 |[],_,r=>by rw[JL] at r;cases r;exact .nil
 |k::ks,_,r=>by
  rw[Hd] at r
  cases r with
  |cons h t=>exact .cons (kh h) (kP t)
abbrev KT(H:Hp):List (List Key×V)->List (List Key×Addr×Value)->Prop:=Paired λp q=>p.1=q.1/\H q.2.1=some (.tup (p.1.map kV))/\RelV p.2 q.2.2
theorem KT.val(r:KT H kvs xs)(k:List Key):fV (cQ kvs k) ((atKey xs k).map (·.2)):=by
 induction r with
 |nil=>exact True.intro
 |@cons p q ps qs h t ih =>
  obtain⟨h1,_,h2⟩:=h;by_cases e:p.1=k
  ·have e':q.1=k:=h1.symm.trans e;have b:atKey (q::qs) k=some q.2:=by simp[atKey,Ib,e']
   rw[bI e,b];exact h2
  ·have e':¬ q.1=k:=λz=>e (h1.trans z);have b:atKey (q::qs) k=atKey qs k:=by simp[atKey,Ib,e']
   rw[bE e,b];exact ih
theorem KT.A6(r:KT H kvs xs)(k:List Key)(ry:RelV y u):
  KT H (kvs.map λkv=>if kv.1=k then (kv.1,y) else kv) (xs.map (putAt k u)):=by
 induction r with
 |nil=>exact .nil
 |@cons p q ps qs h t ih =>
  rw[Hd,Hd];refine .cons ?_ ih;obtain⟨h1,h2,h3⟩:=h;unfold putAt;by_cases e:p.1=k
  ·rw[Gn e,Gn (h1.symm.trans e)];exact⟨h1,h2,ry⟩
  ·rw[Gj e,Gj (λz=>e (h1.trans z))];exact⟨h1,h2,h3⟩
theorem KT.put(r:KT H kvs xs)(k:List Key){b:Addr}(hb:H b=some (.tup (k.map kV)))(ry:RelV y u):
  KT H (putK kvs k y) (storedH xs k b u):=by
 have e:(kvs.any λkv=>decide (kv.1=k))=(atKey xs k).isSome:=by
  rw[eE,(r.val k).hX,Option.isSome_map]
 unfold putK storedH;rw[e];by_cases q:(atKey xs k).isSome=true
 ·rw[Gn q,Gn q];exact r.A6 k ry
 ·rw[Gj q,Gj q];exact Paired.snoc r ⟨rfl,hb,ry⟩
theorem KT.keeps(r:KT H kvs xs)(ht:∀b ys,H b=some (.tup ys)->H' b=some (.tup ys)):KT H' kvs xs:=
 Paired.wN r λ_ _ z=>⟨z.1,ht _ _ z.2.1,z.2.2⟩
section
variable {P:Program} {w:World} {H:Hp} {h:Heap} {a:Addr}
theorem zY{u:HO}(ok:gy P w H h)(e:Rd H a u):bf P w H h a u:=e.ok ok
theorem rp{kvs:List (Key×V)}(ok:gy P w H h)(e:Rd H a (.dK kvs)):kvs.length<=sizeLine/\(a == sysModules)=false/\∃vs,KV kvs vs/\h.DictOf (bF P w) a vs:=
 show bf P w H h a (.dK kvs) from zY ok e
theorem Aj{kvs:List (Key×V)}(ok:gy P w H h)(e:H a=some (.dK kvs)):kvs.length<=sizeLine/\(a == sysModules)=false/\∃vs,KV kvs vs/\h.DictOf (bF P w) a vs:=rp ok (.inl e)
theorem lN{ks:List Key}(ok:gy P w H h)(e:H a=some (.tup (ks.map kV))):(tupleKind (bF P w)).is h ks a:=by
 obtain⟨_,its,r,o,h1,h2,n,h3,_⟩:=(show bf P w H h a (.tup (ks.map kV)) from ok a _ e);exact⟨o,its.toArray,n,h1,h2,h3,by simpa using kP r⟩
theorem rE(ok:gy P w H h)(e:Rd H a (.dT kvs)):kvs.length<=sizeLine/\(a == sysModules)=false /\
  ∃xs,KT H kvs xs/\h.DictOfH (tupleKind (bF P w)) a xs:=by
 obtain⟨z,y,xs,r,o,es,ep,h1,h2,h3,h4,h5⟩:=(show bf P w H h a (.dT kvs) from zY ok e);refine⟨z,y,xs,r,o,es,ep,h1,h2,h3,h4,λx hx=>?_,h5⟩;have all:∀{l:List (List Key×V)} {m:List (List Key×Addr×Value)},KT H l m->∀x∈m,(tupleKind (bF P w)).is h x.1 x.2.1:=by
  intro l m q
  induction q with
  |nil=>intro x hx;exact nomatch hx
  |@cons p q ps qs hq t ih =>
   intro x hx;rcases Gs.mp hx with e|hx
   ·subst e;exact lN ok (by rw[<- hq.1];exact hq.2.1)
   ·exact ih x hx
 exact all r x hx
theorem D_(ok:gy P w H h)(e:H a=some (.dT kvs)):kvs.length<=sizeLine/\(a == sysModules)=false /\
  ∃xs,KT H kvs xs/\h.DictOfH (tupleKind (bF P w)) a xs:=rE ok (.inl e)
end
noncomputable def fX(H:Hp)(a:Addr)(y:V)(r:Option V):Prop:=
 (∃kvs k,Rd H a (.dK kvs)/\y=kV k/\r=cQ kvs k)\/∃kvs k b,Rd H a (.dT kvs)/\y=.ref b/\H b=some (.tup (k.map kV))/\r=cQ kvs k
noncomputable def sd(H:Hp)(a:Addr)(y v:V)(H':Hp):Prop:=
 (∃kvs k,H a=some (.dK kvs)/\y=kV k/\kvs.length<sizeLine/\H'=upd H a (.dK (putK kvs k v))) \/
 ∃kvs k b,H a=some (.dT kvs)/\y=.ref b/\H b=some (.tup (k.map kV))/\kvs.length<sizeLine/\H'=upd H a (.dT (putK kvs k v))
theorem fX.k{kvs:List (Key×V)}{k:Key}(e:H a=some (.dK kvs)):fX H a (kV k) (cQ kvs k):=.inl ⟨kvs,k,.inl e,rfl,rfl⟩
theorem sd.k{kvs:List (Key×V)}{k:Key}{v:V}(e:H a=some (.dK kvs))(hl:kvs.length<sizeLine):sd H a (kV k) v (upd H a (.dK (putK kvs k v))):=.inl ⟨kvs,k,e,rfl,hl,rfl⟩
section
variable {X:Cx} {pins:List (Addr×Obj)} {σ:St} {H:Hp} {s:Shared} {a:Addr} {y v:V} {u r:Value} {o:Option V} {A:Around} {E:Value->Shared->Prop}
theorem Inv.big(I:Inv X pins σ H s):sysModules<s.heap.objs.size:=by
 have h:mainGlobals<s.heap.objs.size:=(I.mod.glob.keeps I.bk).lt;exact JM (by decide) h
theorem rZ(hu:A.units+1<cLine)(I:Inv X pins σ H s)(g:fX H a y (some v))(ry:RelV y u)(h:∀w' s',Inv X pins σ H s'->RelV v w'->Q w' s'):
  wpAny (model X.prog X.w) A (getItem (.ref a) u) Q E s:=by
 rcases g with ⟨kvs,k,e,ey,l⟩|⟨kvs,k,b,e,ey,eb,l⟩
 ·subst ey;obtain⟨z,hd,vs,rel,dd⟩:=rp I.aU e;obtain⟨w',hw,rw'⟩:=fV.some_of (v:=v) (o:=valueAt vs k) (by rw[l];exact rel.val k)
  exact wpAny_getItem_of (kh ry) dd.mapOf hw (h w' _ (I.tok _) rw')
 ·subst ey
  cases (show u=Value.ref b from ry)
  obtain⟨z,hd,xs,rel,dd⟩:=rE I.aU e;obtain⟨w',hw,rw'⟩:=fV.some_of (v:=v) (o:=(atKey xs k).map (·.2)) (by rw[l];exact rel.val k)
  obtain⟨p,hp,hp2⟩:=GO.mp hw;refine wpAny_getItem_heap (Kg hu) (lN I.aU eb) dd hp ?_;rw[hp2];exact h w' _ (I.tok _) rw'
theorem Fu(hu:A.units+1<cLine)(I:Inv X pins σ H s)(g:fX H a y o)(ry:RelV y u)(h:∀s',Inv X pins σ H s'->Q (.bool o.isSome) s'):
  wpAny (model X.prog X.w) A (compareOp .In u (.ref a)) Q E s:=by
 rcases g with ⟨kvs,k,e,ey,l⟩|⟨kvs,k,b,e,ey,eb,l⟩
 ·subst ey;obtain⟨z,hd,vs,rel,dd⟩:=rp I.aU e;refine wpAny_in_of (kh ry) hd dd.mapOf ?_;rw[<- (rel.val k).hX,<- l];exact h _ (I.tok _)
 ·subst ey
  cases (show u=Value.ref b from ry)
  obtain⟨z,hd,xs,rel,dd⟩:=rE I.aU e;refine wpAny_in_heap (Kg hu) (lN I.aU eb) hd dd ?_;have q:=(rel.val k).hX;rw[Option.isSome_map] at q;rw[<- q,<- l];exact h _ (I.tok _)
theorem lR{h':Heap}{t':Nat}{ob:HO}(I:Inv X pins σ H s)(mu:Dh (H a))(hs:Heap.SameBut a s.heap h')(he:∃q,h'.get? a=some q)(new:bf X.prog X.w (upd H a ob) h' a ob):
  Inv X pins σ (upd H a ob) {s with heap:=h',toks:=t'}:=
 I.write (x:=a) (e:=a) mu (.inl rfl) (λb q hb z=>(hs.2 b hb).trans z) he new
theorem pZ{h':Heap}{kvs:List (Key×V)}{vs:List (Key×Value)}(z:kvs.length<=sizeLine)(hd:(a == sysModules)=false)(rel:KV kvs vs)(dd:h'.DictOf (bF P w) a vs):
  bf P w H' h' a (.dK kvs):=⟨z,hd,vs,rel,dd⟩
theorem tU{Q:Unit->Shared->Prop}(hu:A.units+1<cLine)(I:Inv X pins σ H s)(g:sd H a y v H')(ry:RelV y u)(rv:RelV v r)(h:∀s',Inv X pins σ H' s'->Q () s'):
  wpAny (model X.prog X.w) A (setItem (.ref a) u r) Q E s:=by
 rcases g with ⟨kvs,k,e,ey,l,eH⟩|⟨kvs,k,b,e,ey,eb,l,eH⟩
 ·subst ey eH;obtain⟨z,hd,vs,rel,dd⟩:=Aj I.aU e;have hz:vs.length<=sizeLine:=by rw[<- rel.length];exact z
  have hl:(putK kvs k v).length<=sizeLine:=by have:=fv kvs k v;lia
  refine wpAny_setItem_pairs (hsz:=hz) (kh ry) dd λh' dd' hs=>h _ ?_;have he:∃q,h'.get? a=some q:=let ⟨q,_,_,hq,_⟩:=dd';⟨q,hq⟩
  exact lR I (by rw[e];exact True.intro) hs he (pZ hl hd (rel.put k rv) dd')
 ·subst ey eH
  cases (show u=Value.ref b from ry)
  obtain⟨z,hd,xs,rel,dd⟩:=D_ I.aU e;have hz:xs.length<=sizeLine:=by rw[<- Paired.length rel];exact z
  have hl:(putK kvs k v).length<=sizeLine:=by have:=fv kvs k v;lia
  refine wpAny_setItem_heap (hsz:=hz) (Kg hu) (lN I.aU eb) dd λh' dd' hs=>h _ ?_;obtain⟨q,es,ep,hq,h2,h3,h4,_,h5⟩:=dd';refine lR I (by rw[e];exact True.intro) hs ⟨q,hq⟩ ⟨hl,hd,_,(rel.put k eb rv).keeps λc ys ec=>?_,q,es,ep,hq,h2,h3,h4,h5⟩
  rw[ae (DO ec e (λz=>nomatch z))];exact ec
end
noncomputable def vL(i:Expr):Prop:=∀ov iv,subscripted i false ov iv=operate [ov,iv] (getItem ov iv)
theorem q_{prog:Program}{A:Around}{E:Value->Shared->Prop}{s:Shared}{env:Env}{value slice:Expr}{pos:Pos}{T id:String}
  (hl:typeLookup (.type T) "__getitem__"=pure (some (.builtin id))) (hs:vL slice)
  (h:wpAny (model prog w) A (eval value env) (λo s₁=>wpAny (model prog w) A (eval slice env) (λi s₂=>s₂.TypeIs o T/\wpAny (model prog w) A (getItem o i) Q E s₂) E s₁) E s) :
  wpAny (model prog w) A (eval (.Subscript value slice pos) env) Q E s:=by
 refine Subscript_ (Hq h (λo s₁ h₁=>Hq h₁ (λi s₂ h₂=>?_) λ_ _ x=>x) λ_ _ x=>x);obtain⟨hT,h₂⟩:=h₂;unfold subscriptTail;refine Gg ?_;rw[getitemInPython_of_ne hT.not_modules];refine Gg (wpAny_specialOf hT hl ?_);have fin:wpAny (model prog w) A (subscripted slice false o i) (λr s₃=>wpAny (model prog w) A (letTemporaryGo value o r >>= λ_=>pure r) Q E s₃) E s₂:=by
  rw[hs o i];exact wpAny_operating (Hq h₂ (λr s₃ h₃=>Gg (wpAny_letTemporaryGo (Gq h₃))) λ_ _ x=>x)
 first
  |exact Gq (Gg fin)
  |exact Gg (Gq (Gg fin))
  |exact Gg fin
theorem mF{s:Shared}(I:Inv X pins σ H s)(g:fX H a y o):s.TypeIs (.ref a) "dict":=by
 rcases g with ⟨kvs,k,e,_,_⟩|⟨kvs,k,b,e,_,_,_⟩
 ·obtain⟨_,_,vs,_,dd⟩:=rp I.aU e;exact dd.typeIs
 ·obtain⟨_,_,xs,_,dd⟩:=rE I.aU e;exact dd.typeIs
noncomputable def mR(td ty:TE):TE:=λσ H Q=>td σ H λx H1=>ty σ H1 λy H2=>∃a v,x=.ref a/\fX H2 a y (some v)/\Q v H2
noncomputable def oq(td ty tv:TE):TS:=λD σ H=>tv σ H λv H1=>td σ H1 λx H2=>ty σ H2 λy H3=>∃a H4,x=.ref a/\sd H3 a y v H4/\D.nx σ H4
section
variable {X:Cx} {o i e value:Expr} {pos pos' tpos:Pos} {td ty tv:TE}
theorem zB(hu:X.A.units+1<cLine)(ho:PE X o td)(hi:PE X i ty)(hs:vL i):PE X (.Subscript o i pos) (mR td ty):=by
 intro pins s σ H Q I h;refine q_ PySem.F.slot_dict_getitem.lookup hs (bJ (ho pins s σ H _ I h) λu s1 ⟨x,H1,I1,rx,q1⟩=>bJ (hi pins s1 σ H1 _ I1 q1) λiv s2 hq55=>?_);obtain⟨y,H2,I2,ry,a,v,ex,g,q2⟩:=hq55;subst ex;obtain rfl:u=Value.ref a:=rx;exact⟨mF I2 g,rZ hu I2 g ry λw' s3 I3 rw'=>⟨v,H2,I3,rw',q2⟩⟩
theorem yC(hu:X.A.units+1<cLine)(ho:PE X o td)(hi:PE X i ty)(hv:PE X value tv)(hs:swapsWith value (some (.Subscript o i pos')) pos.line X.env=pure false):
  PS X (.Assign [.Subscript o i pos'] value pos) (oq td ty tv):=by
 intro pins s σ H D I h;refine wpAny_Assign_Subscript (bJ (hv pins s σ H _ I h) λr s1 ⟨v,H1,I1,rv,q1⟩=>bJ (ho pins s1 σ H1 _ I1 q1) λu s2 ⟨x,H2,I2,rx,q2⟩=>bJ (hi pins s2 σ H2 _ I2 q2) λiv s3 hq58=>?_) hs;obtain⟨y,H3,I3,ry,a,H4,ex,g,q3⟩:=hq58;subst ex;obtain rfl:u=Value.ref a:=rx;exact tU hu I3 g ry rv λs4 I4=>⟨σ,H4,I4,q3⟩
end
theorem oC(h:Heap)(hb:sysModules<h.objs.size):bf P w H (h.push {cls:=.type "dict",data:=.dict #[]}) h.objs.size (.dK []):=
 ⟨GH _,Hb.mpr (HB (GG hb)),[],.nil,Heap.DictOf.new h⟩
noncomputable def j0:TE:=λ_ H Q=>∀p,H p=none->Q (.ref p) (upd H p (.dK []))
section
variable {X:Cx} {pos:Pos}
theorem u9:PE X (.Dict [] [] pos) j0:=λpins s σ H Q I h =>
 wpAny_Dict_empty ⟨.ref s.heap.objs.size,_,I.laid (a:=s.heap.objs.size) (o:=.dK []) (t':=s.toks) (λ_ _ q=>Gh _ q) (Gp _) (oC s.heap I.big),rfl,h _ (I.aU.fresh (Gp _))⟩
end
noncomputable def gn:List (TE×TE)->St->Hp->(List (V×V)->Hp->Prop)->Prop
 |[],_,H,Q=>Q [] H
 | (tk,tv)::r,σ,H,Q=>tk σ H λx H1=>tv σ H1 λy H2=>gn r σ H2 λps H3=>Q ((x,y)::ps) H3
abbrev VV:List (V×V)->List (Value×Value)->Prop:=Paired λp q=>RelV p.1 q.1/\RelV p.2 q.2
noncomputable def DD(X:Cx)(pos:Pos)(keys:List (Option Expr))(values:List Expr)(trs:List (TE×TE)):Prop:=
 ∀(pins:List (Addr×Obj)) (s:Shared) (σ:St) (H:Hp) (Q:List (V×V)->Hp->Prop),Inv X pins σ H s->gn trs σ H Q ->
  wpAny (model X.prog X.w) X.A (evalPairs (pairTrees keys values X.env pos)) (λvs s'=>∃ps H',Inv X pins σ H' s'/\VV ps vs/\Q ps H') X.xe s
theorem zE{pos:Pos}:DD X pos [] [] []:=λpins s σ H Q I h=>pairTrees_nil_walk ⟨[],H,I,.nil,h⟩
theorem vd{pos:Pos}{k v:Expr}{ks:List (Option Expr)}{vs:List Expr}{tk tv:TE}(hk:PE X k tk)(hv:PE X v tv)(hr:DD X pos ks vs trs):
  DD X pos (some k::ks) (v::vs) ((tk,tv)::trs):=λpins s σ H Q I h =>
 pairTrees_cons_walk (bJ (hk pins s σ H _ I h) λu s1 ⟨x,H1,I1,rx,q1⟩=>bJ (hv pins s1 σ H1 _ I1 q1) λw2 s2 ⟨y,H2,I2,ry,q2⟩=>
  bJ (hr pins s2 σ H2 _ I2 q2) λws s3 ⟨ps,H3,I3,rel,q3⟩=>⟨(x,y)::ps,H3,I3,.cons ⟨rx,ry⟩ rel,q3⟩)
noncomputable def cz(kvs more:List (Key×V)):List (Key×V):=more.foldl (λacc kv=>putK acc kv.1 kv.2) kvs
theorem KV.merge:∀{more:List (Key×V)} {rs:List (Key×Value)} {kvs:List (Key×V)} {vs:List (Key×Value)},KV more rs->KV kvs vs->KV (cz kvs more) (merged vs rs):=by
 intro more rs kvs vs r;unfold KV at r
 induction r generalizing kvs vs with
 |nil=>intro q;exact q
 |@cons p q ps qs h t ih =>
  intro r0;have e:KV (putK kvs p.1 p.2) (stored vs q.1 q.2):=by
   have:=r0.put p.1 h.2;rw[<- h.1];exact this
  exact ih e
theorem e7:∀(more kvs:List (Key×V)),(cz kvs more).length<=kvs.length+more.length
 |[],kvs=>by show kvs.length<=kvs.length+0;lia
 |p::r,kvs=>by
  have h1:=e7 r (putK kvs p.1 p.2);have h2:=fv kvs p.1 p.2;show (cz (putK kvs p.1 p.2) r).length<=_;rw[GF];lia
theorem jf{P:Program}{w:World}:∀{kvs:List (Key×V)} {ws:List (Value×Value)},VV (kvs.map λkv=>(kV kv.1,kv.2)) ws->∃rs,Carries (bF P w) ws rs/\KV kvs rs
 |[],_,r=>by rw[JL] at r;cases r;exact⟨[],True.intro,.nil⟩
 |p::kvs,_,r=>by
  rw[Hd] at r
  cases r with
  |@cons a b as bs h t =>
   obtain⟨rs,c,q⟩:=jf (P:=P) (w:=w) t;obtain⟨b1,b2⟩:=b;exact⟨(p.1,b2)::rs,⟨kh h.1,rfl,c⟩,.cons ⟨rfl,h.2⟩ q⟩
noncomputable def ow(trs:List (TE×TE)):TE:=λσ H Q=>∀p,H p=none->gn trs σ (upd H p (.dK [])) λps H2=>H2 p=some (.dK [])/\∃kvs:List (Key×V),ps=kvs.map (λkv=>(kV kv.1,kv.2))/\kvs.length<=15/\Q (.ref p) (upd H2 p (.dK (cz [] kvs)))
theorem yQ{pos:Pos}{keys:List (Option Expr)}{values:List Expr}(h:DD X pos keys values trs)(hall:keys.all (·.isSome)=true)(hl:keys.length=values.length)(h0:keys≠[])
  (h15:keys.length<=15):PE X (.Dict keys values pos) (ow trs):=by
 intro pins s σ H Q I q;have hn:=I.aU.fresh (Gp s.heap.objs.size);have I1:=I.laid (a:=s.heap.objs.size) (o:=.dK []) (h':=s.heap.push {cls:=.type "dict",data:=.dict #[]}) (t':=s.toks) (λ_ _ q=>Gh _ q) (Gp _) (oC s.heap I.big);refine wpAny_Dict_walk (knd:=bF X.prog X.w) hall hl h0 h15 (bJ (h pins _ σ _ _ I1 (q _ hn)) λws s2 hq62=>?_);obtain⟨ps,H2,I2,rel,e,kvs,ep,lk,q2⟩:=hq62;subst ep;obtain⟨rs,c,rk⟩:=jf (P:=X.prog) (w:=X.w) rel;obtain⟨z,hd,vs0,r0,dd⟩:=Aj I2.aU e;cases r0;refine⟨rs,c,dd,λh' dd' hs=>⟨.ref s.heap.objs.size,_,?_,rfl,q2⟩⟩;have hz:(cz [] kvs).length<=sizeLine:=by
  have h1:=e7 kvs [];rw[Hu] at h1;rw[HC];lia
 have he:∃q,h'.get? s.heap.objs.size=some q:=let ⟨q,_,_,hq,_⟩:=dd';⟨q,hq⟩
 exact lR I2 (by rw[e];exact True.intro) hs he (pZ hz hd (rk.merge .nil) dd')
end L2
namespace Att
open PySem PySem.W PySem.Calls PyProof.Rows
theorem iD{P:Params}{h:Heap}:∀(ns:List Int) (vs:List Value),WellAll P h vs (ns.map WData.int)->IntsAre vs ns:=by
 intro ns
 induction ns with
 |nil =>
  intro vs w;rw[List.map_nil] at w;cases w;exact .nil
 |cons n ns ih =>
  intro vs w;rw[List.map_cons] at w
  cases w with
  |cons a b =>
   cases a;exact .cons _ _ (ih _ b)
theorem tE{l:OpenLaw}{n:Nat}(hn:l.most=some n){P:Params}{h:Heap}{args:List WData}{vals:List Value}
  (hpre:l.row.toRowW.claim.pre args=true) (hwl:WellAll P h vals args) :
  ∃a vs ns,vals=[Value.ref a]/\args=[WData.list (ns.map WData.int)]/\h.get? a=some {cls:=.type "list",data:=.seq vs.toArray}/\IntsAre vs ns/\ns.length<=n:=by
 have hsh:WShape.hasAll [] args [.list .int]=true:=(pre_splitW hpre).1;have hc:l.pre.holds [] {args:=args}=true:=(pre_splitW hpre).2;obtain⟨d,r,rfl,h1,h2⟩:=hasAllW_cons hsh;obtain rfl:=hasAllW_nil h2;obtain⟨xs,rfl,h3⟩:=hasW_list h1;obtain⟨ns,rfl⟩:=items_int h3;have hlen:ns.length<=n:=by
  unfold OpenLaw.pre at hc;have h4:(WTm.not (.lt (.lit (.int (n:Int))) (.len (.arg 0)))).holds [] {args:=[.list (ns.map .int)]}=true:=by
   have h4:=(holds_andW hc).1;rw[hn] at h4;exact h4
  have h5:=condW_of h4 (w_not (w_lt w_lit (w_len_list (w_arg rfl))));rw[List.length_map] at h5;refine Nat.le_of_not_lt λq=>?_;have q':(n:Int)<((ns.length:Nat):Int):=by lia
  first
   | (rw[decide_eq_true q'] at h5;exact absurd h5 (by decide))
   | (simp at h5;lia)
 cases hwl with
 |cons w1 w2 =>
  cases w2
  cases w1 with
  |list ho hall=>exact⟨_,_,ns,rfl,rfl,ho,iD ns _ hall,hlen⟩
theorem sQ(l:OpenLaw)(args:List WData):l.row.toRowW.claim.post args (.bool true) args=true:=
 postW_of (r:=l.row.toRowW) (X:=(true == true))
  (show WShape.has [] (.bool true) .bool=true by first|rfl|decide|simp[WShape.has,WShape.arms,WShape.armsAll])
  (show (WTm.eq .res (.lit (.bool true))).value [] {args:=args,res:=some (.bool true),after:=args}=some (.bool (true == true)) from w_eq_bool (w_res rfl) w_lit) rfl
theorem mL{l:OpenLaw}{n:Nat}{q:Program}{loose:List Str}{XP:(Str->Option Value)->Heap->Prop}{YP:World->Heap->Prop}{d:DefRec}
  (hn:l.most=some n) (hdf:d.params.defaults=[])
  (call:∀(w:World) (s₀ s₁:Shared) (mg mb:Str->Option Value) (fa:Addr) (o:Obj) (pm cd doc:Value) (a:Addr) (vs:List Value) (ns:List Int),
   Ground q loose [] XP w s₀ mg mb s₁.heap->YP w s₁.heap ->
   s₁.heap.get? fa=some o->o.data=.func (docDef d.name d.params d.body d.scope pm cd doc)->s₁.heap.CodeRec cd d.name->mg d.name=some (.ref fa) ->
   s₁.heap.get? a=some {cls:=.type "list",data:=.seq vs.toArray}->IntsAre vs ns->ns.length<=n->s₁.gens=#[] ->
   codeAny (model l.prog w) callerA (.call (.ref fa) ⟨[.ref a],[]⟩) (λr s'=>r=.ok (.ret (.bool true))/\OldK s₁.heap s'.heap/\s'.os=s₁.os/\AllBare s'.gens) s₁) :
  WalkO q loose XP YP l.row.toRowW d [] (λf vs=>PySem.call f vs):=by
 intro w s₀ s₁ mg mb G Y fa o pm cd doc dV kV ho hd g9 hD hmg hg args vals as hpre hlay hrd hwl hlo;obtain rfl:dV=.none:=Dflts.none hD hdf;obtain rfl:kV=.none:=Dflts.noKw hD;obtain⟨a,vs,ns,rfl,rfl,hobj,hints,hlen⟩:=tE hn hpre hwl;refine enter_call (codeAny_mono (call w s₀ s₁ mg mb fa o pm cd doc a vs ns G Y ho (fd_plain hd) g9 hmg hobj hints hlen hg) λr s' hq=>?_);obtain⟨rfl,h2,h3,h4⟩:=hq;exact⟨.inl ⟨.bool true,.bool true,[],rfl,λ_=>rfl,.bool true,sQ l _,λ_=>⟨List.Pairwise.nil,λ_ hm=>(nomatch hm)⟩⟩,h2,h3,h4⟩
end Att
namespace L2
open PySem PySem.Spec PyProof.Rows
variable{P prog q:Program}{K:LA}{N ON loose own:List Str}{mb mg:Str->Option Value}{base h:Heap}{b e elt iter tg:Expr}{o:HO}{t:String}{w:World}{CX:nI}{a f i1 i2 it l1 l2 p z:Addr}{fd:FuncData}{qual x:Str}{sp:Sp}{ns:List Int}{X:Cx}{st:Stmt}{osc scope:Scope}{env:Env}{cells:List (Str×Addr)}{α:Type}{E Q:Value->Shared->Prop}{es ifs:List Expr}{g:TG}{tc:TT}{te tl:TE}{pins:List (Addr×Obj)}{σ:St}{H H':Hp}{RR:Value->Addr->Result->Shared->Prop}{i j:Nat}{r:List V->Hp->VK->Prop}{ta:TA}{xs:List V}{items:Array Value}{ex fp:List Addr}{tp:Pos}{lo:Int}{P1 P2:Nat->Value->Prop}{S1 S2:Nat->Heap->Prop}
theorem kN:∀{vs:List Value} {ns:List Int},IntsAre vs ns->Vals (ns.map V.int) vs
 |_,_,.nil=>.nil
 |_,_,.cons n t h=>.cons ⟨t,rfl⟩ (kN h)
structure gQ (q:Program) (K:LA):Prop where
 nt:PySem.W.noTabs K=true
 nd:((bS K).map (·.2.1)).Nodup
 fd:∀x∈dH,PySem.W.tabIn K x=none\/((recsOf q).find? (λe=>e.name == x)).isSome=true
theorem gQ.at{mean:ExcName->Option Value}(L:gQ q K)(T:Top q loose mean mg mb h)(X:K.In h):∀t∈bS K,PySem.W.CodeHd h t.1 t.2.1/\h.get? t.2.1=some (PySem.W.tabObj #[]):=λt ht=>by
 unfold bS at ht;obtain⟨x,hx,e⟩:=Jm.mp ht;obtain⟨p,e1,e2⟩:=GO.mp e;obtain⟨c,Pt⟩:=p;subst e2;rcases L.fd x hx with z|z
 ·rw[z] at e1;cases e1
 ·obtain⟨d,hd⟩:=Jn.mp z;exact PySem.W.tab_of T X hd e1
noncomputable def lS:List (Addr×Addr×Str)->Addr->Option HO
 |[],_=>none
 |t::r,b=>if b=t.2.1 then some (.vT #[.str t.2.2 0]) else lS r b
theorem fR{b:Addr}:∀{l:List (Addr×Addr×Str)},lS l b=some o->∃t∈l,b=t.2.1/\o=.vT #[.str t.2.2 0]
 |t::r,e=>by
  unfold lS at e;by_cases z:b=t.2.1
  ·rw[Gn z] at e;cases e;exact⟨t,.head _,z,rfl⟩
  ·rw[Gj z] at e;obtain⟨u,hu,q⟩:=fR e;exact⟨u,.tail _ hu,q⟩
theorem nK{t:Addr×Addr×Str}:∀{l:List (Addr×Addr×Str)},(l.map (·.2.1)).Nodup->t∈l->lS l t.2.1=some (.vT #[.str t.2.2 0])
 |u::r,nd,m=>by
  obtain⟨n1,n2⟩:=IM.mp nd;unfold lS;rcases Gs.mp m with rfl|m
  ·rw[Gn rfl]
  ·rw[Gj λz=>n1 (HS.mpr ⟨t,m,z⟩)];exact nK n2 m
theorem w6{k:Nat}{fa:Addr}{s₁:Shared}{vs:List Value}
  (KX:K.In s₁.heap) (hns:s₁.heap.Ns mainGlobals mg) (hb:s₁.heap.Ns builtinsNs mb) (hbb:∀x:Str,x≠"__name__"->mb x=bootBuiltins x) (hlim:s₁.heap.NoLimit) (hbm:Cz mg s₁.heap)
  (hT:∀t∈bS K,PySem.W.CodeHd s₁.heap t.1 t.2.1/\s₁.heap.get? t.2.1=some (PySem.W.tabObj #[])) (L:gQ q K) (hg:s₁.gens=#[])
  (ha:s₁.heap.get? a=some {cls:=.type "list",data:=.seq vs.toArray}) (hi:IntsAre vs ns) (hl:ns.length<=sizeLine) (hr:bD k callerA)
  (F:∀base:Heap,K.In base->base.Ns mainGlobals mg->cy P w K mg base CX k fa fd [x] sp) (hbind:∀(s:Shared) (u:Value),BindsTo s fd ⟨[u],[]⟩ [(x,u)])
  (hsp:∀H:Hp,True->bY K H a (ns.map V.int)->sp [.ref a] H (λv _=>v=.bl true) λ_ _ _=>False)
  (hCX:∀H e s',CX [] H s₁ (λ_ _ _=>False) e s'->False) :
  codeAny (model P w) callerA (.call (.ref fa) ⟨[.ref a],[]⟩) (λr s'=>r=.ok (.ret (.bool true))/\OldK s₁.heap s'.heap/\s'.os=s₁.os/\AllBare s'.gens) s₁:=by
 have rv:=kN hi;have lenV:=hi.length;have naT:∀t∈bS K,t.2.1≠a:=λt ht z=>by
  have e:=(hT t ht).2;rw[z,ha] at e;cases e
 let oS:Obj:={cls:=.type "list",data:=.seq vs.toArray}
 have core:∀S:Option HO,(S=none\/S=some (.ik oS (.lst (ns.map V.int))))->(S≠none->K.lookup a=none)->bY K (λb=>if b=a then S else lS (bS K) b) a (ns.map V.int) ->
   codeAny (model P w) callerA (.call (.ref fa) ⟨[.ref a],[]⟩) (λr s'=>r=.ok (.ret (.bool true))/\OldK s₁.heap s'.heap/\s'.os=s₁.os/\AllBare s'.gens) s₁:=by
  intro S hS hK hSq;generalize hH:(λb=>if b=a then S else lS (bS K) b)=H at hSq
  have hA:H a=S:=by rw[<- hH];exact Gn rfl
  have hB:∀b,b≠a->H b=lS (bS K) b:=λb z=>by rw[<- hH];exact Gj z
  have free:∀{b:Addr} {o:Obj},s₁.heap.get? b=some o->o≠PySem.W.tabObj #[]->(b=a->S=none)->H b=none:=λ{b o} e hn hz=>by
   by_cases z:b=a
   ·rw[z,hA];exact hz z
   ·rw[hB b z]
    cases q:lS (bS K) b with
    |none=>rfl
    |some u =>
     obtain⟨t,ht,e1,_⟩:=fR q;have e2:=(hT t ht).2;rw[<- e1,e] at e2;exact absurd (Option.some.inj e2) hn
  have nsK:∀{b:Addr} {m:Str->Option Value},s₁.heap.Ns b m->(jT s₁.heap H).Ns b m:=λ{b m} ⟨o,es,ep,e,d,r⟩=>⟨o,es,ep,gO e (free e (λz=>by rw[z] at d;cases d) λz=>by rw[z,ha] at e;cases e;cases d),d,r⟩
  have hKb:K.In (jT s₁.heap H):=λb o e=>gO (KX b o e) (free (KX b o e) (λz=>by
    have h2:=K4.mp L.nt (b,o) (PySem.W.mem_of_lookupK e);subst z;exact absurd (show false=true from h2) Gx) λz=>by
    cases q:S with
    |none=>rfl
    |some u=>rw[z,hK (by rw[q];simp)] at e;cases e)
  have g9:∀t∈bS K,PySem.W.CodeHd (jT s₁.heap H) t.1 t.2.1:=λt ht=>by
   obtain⟨o,us,fl,tf,fg,tg,inF,tx,tt,e1,e2,r⟩:=(hT t ht).1;exact⟨o,us,fl,tf,fg,tg,inF,tx,tt,gO e1 (free e1 (λz=>by rw[z] at e2;cases e2) λz=>by rw[z,ha] at e1;cases e1;exact absurd (Value.type.inj e2) (by decide)),e2,r⟩
  have hbm':Cz mg (jT s₁.heap H):=by
   obtain⟨bm,ob,b1,b2,b3,b4,b5⟩:=hbm;exact⟨bm,ob,b1,b2,gO b3 (free b3 (λz=>by rw[z] at b4;cases b4) λz=>by rw[z,ha] at b3;cases b3;exact absurd (Value.type.inj b4) (by decide)),b4,b5⟩
  have aU:gy P w H s₁.heap:=λb u e=>by
   by_cases z:b=a
   ·rw[z,hA] at e;rcases hS with h0|h0
    ·rw[h0] at e;cases e
    ·rw[h0] at e;cases e;subst z;exact⟨ha,by rw[Gu];exact hl,vs,_,rv,ha⟩
   ·rw[hB b z] at e;obtain⟨t,ht,e1,e2⟩:=fR e;subst e2;exact⟨#[],by rw[e1];exact (hT t ht).2,trivial,λpos cv c=>by cases (show (none:Option Value)=some cv from c)⟩
  have hM:Mod K mg (jT s₁.heap H):=⟨hKb,nsK hns,⟨mb,nsK hb,hbb⟩,let ⟨mc,h1,h2⟩:=hlim;⟨mc,nsK h1,h2⟩,g9,hbm'⟩
  have e0:pM P w K mg (jT s₁.heap H) callerA [] s₁ H:=⟨rfl,hM,λb o e=>zk e,K1 (tT _ _),trivial,λb hb=>absurd (show b∈([]:List Addr) from hb) (by simp),aU,.of_eq hg,λt ht=>⟨#[],by
   rw[hB _ (naT t ht),nK L.nd ht,Kh]⟩⟩
  refine Lr ((F _ hKb (nsK hns)).run callerA [] s₁ H ⟨[.ref a],[]⟩ [.ref a] [.ref a] _ _ hr e0 (hbind s₁ (.ref a)) (.cons rfl .nil) (hsp H trivial hSq)) λr s' h=>?_
  cases r with
  |error e=>exact (hCX H e s' h).elim
  |ok fl =>
   cases fl with
   |next=>exact False.elim h
   |brk=>exact False.elim h
   |cont=>exact False.elim h
   |ret u =>
    obtain⟨v,H',os,bare,un,hok',r',qv⟩:=h;have q':v=.bl true:=qv;subst q';obtain rfl:u=Value.bool true:=r';have each:∀b o,s₁.heap.get? b=some o->s'.heap.get? b=some o\/∃c,PySem.W.CodeHd s₁.heap c b/\o=PySem.W.tabObj #[]/\∃ps,s'.heap.get? b=some (PySem.W.tabObj ps):=λb o e=>by
     cases qb:H b with
     |none=>exact .inl (un.keep b o e qb (by intro z;exact absurd (show b∈([]:List Addr) from z) (by simp)) (by simp))
     |some u =>
      by_cases z:b=a
      ·rw[z,hA] at qb;rcases hS with h0|h0
       ·rw[h0] at qb;cases qb
       ·have z2:=un.lH a oS _ (by rw[hA,h0])
        obtain⟨e2,_⟩:=hok' a _ z2;rw[z,ha] at e;cases e;exact .inl (by rw[z];exact e2)
      ·have qt:=qb;rw[hB b z] at qt;obtain⟨t,ht,e1,e2⟩:=fR qt;obtain⟨h1,h2⟩:=hT t ht;rw[<- e1] at h1 h2;rw[e] at h2;cases h2;subst e2;obtain⟨more,e3⟩:=un.jR b _ qb;obtain⟨qs,e4,_⟩:=hok' b _ e3;exact .inr ⟨_,h1,rfl,qs,e4⟩
    refine⟨rfl,⟨λb o e=>?_,λb o e=>?_⟩,os,bare⟩
    ·rcases each b o e with z|⟨c,hc,z,ps,hp⟩
     ·exact .inl z
     ·subst z;exact .inr (.inl ⟨(hc.tab e).isCodeTable,rfl,#[],ps,rfl,by rw[Array.empty_append];exact hp⟩)
    ·rcases each b o e with z|⟨c,hc,z,ps,hp⟩
     ·exact⟨o,z⟩
     ·exact⟨_,hp⟩
 cases hk:K.lookup a with
 |some o =>
  have e:=KX a o hk;rw[ha] at e;cases e;exact core none (.inl rfl) (λz=>absurd rfl z) (.inr ⟨_,vs.toArray,_,hk,rfl,rfl,rfl,by rw[Gy,lenV];exact hl,by simpa using rv⟩)
 |none=>exact core (some (.ik oS (.lst (ns.map V.int)))) (.inr rfl) (λ_=>hk) (.inl (.inr ⟨oS,Gn rfl⟩))
theorem zD{l:PySem.W.OpenLaw}{n k:Nat}{XP:(Str->Option Value)->Heap->Prop}{YP:World->Heap->Prop}{d:DefRec}{K:Params->LA}{CX:World->nI}{sp:World->Sp}
  (hn:l.most=some n) (hn2:n<=sizeLine) (hdf:d.params.defaults=[]) (hr:bD k callerA)
  (hY:∀(w:World) (h:Heap),YP w h->(K w.params).In h)
  (F:∀(w:World) (mg:Str->Option Value) (fa:Addr) (h:Heap),(K w.params).In h->h.Ns mainGlobals mg->mg d.name=some (.ref fa) ->
   ∃fd:FuncData,(∀(s:Shared) (u:Value),BindsTo s fd ⟨[u],[]⟩ [(x,u)]) /\
    ∀base:Heap,(K w.params).In base->base.Ns mainGlobals mg->cy l.prog w (K w.params) mg base (CX w) k fa fd [x] (sp w))
  (hsp:∀(w:World) (H:Hp) (a:Addr) (ns:List Int),ns.length<=n->True->bY (K w.params) H a (ns.map V.int)->sp w [.ref a] H (λv _=>v=.bl true) λ_ _ _=>False)
  (hCX:∀(w:World) (H:Hp) (s:Shared) (e:Value) (s':Shared),CX w [] H s (λ_ _ _=>False) e s'->False) (hL:∀(w:World) (h:Heap),(K w.params).In h->gQ q (K w.params)) :
  PySem.W.WalkO q loose XP YP l.row.toRowW d [] (λf vs=>PySem.call f vs):=by
 refine Att.mL hn hdf λw s₀ s₁ mg mb fa o pm cd doc a vs ns G Y ho hd g9 hmg hobj hints hlen hg=>?_;have KX:=hY w _ Y;obtain⟨fd,hb,hF⟩:=F w mg fa _ KX G.T.g hmg;have L:=hL w _ KX;exact w6 KX G.T.g G.T.b G.T.builtins G.T.nolimit G.T.bmain (L.at G.T KX) L hg hobj hints (Gr hlen hn2) hr hF hb (λH hO hS=>hsp w H a ns hlen hO hS) λH e s'=>hCX w H s₁ e s'
noncomputable def inClass(s:Stmt)(j:Nat):Stmt:=match s with
 |.ClassDef _ _ _ body _ _ _ _ _ _ _=>body.getD j (.Pass ⟨0,0,0,0⟩)
 |_=>.Pass ⟨0,0,0,0⟩
noncomputable def bL(s:Stmt):Arguments:=match s with
 |.FunctionDef _ a _ _ _ _ _ _ _ _=>a
 |_=>{posonlyargs:=[],args:=[],vararg:=none,kwonlyargs:=[],kw_defaults:=[],kwarg:=none,defaults:=[]}
noncomputable def aR(s:Stmt):List Stmt:=match s with
 |.FunctionDef _ _ b _ _ _ _ _ _ _=>b
 |_=>[]
noncomputable def af(s:Stmt):Scope:=match s with
 |.FunctionDef _ _ _ _ _ _ sc _ _ _=>sc
 |_=>{kind:=.function,names:=[],isGenerator:=false,isCoroutine:=false}
abbrev bc:nI:=λ_ _ _ _ _ _=>False
abbrev E0:XK:=λ_ _ _=>False
theorem aA:Passes bc X E0:=λ_ _ _ _ _ _ _ h=>h.elim
structure jy (K:LA) (x qual:Str) (st:Stmt) (f:Addr) (fd:FuncData):Prop where
 ex:∃(oc:Value) (od:Option Addr) (kV doc pm:Value) (an:Option Addr) (cdv ct:Value) (osl:Array (Option Value)),
  fd=PySem.W.fnOf x qual (bL st) (aR st) (af st) .none kV doc pm an cdv ct/\K.lookup f=some ⟨oc,od,.func fd,osl⟩/\PySem.W.codeIn K cdv qual=true
 kp:PySem.W.keepIn K (.ref f)=true
section
variable {P:Program} {w:World} {K:LA} {mg:Str->Option Value} {base:Heap}
theorem jy.ok{ps:List Str}{k:Nat}(F:jy K x qual st f fd)(S:ax N ps (af st))(len:∀vs H Q E,sp vs H Q E->vs.length=ps.length)
  (hbody:∀(cdv:Value) (A:Around) (outer:List Env) (s:Shared) (H:Hp) (vs:List V) (Q:VK) (E:XK),bD k (A.deeper (envOfC qual (af st) s.heap.objs.size f cdv))->sp vs H Q E ->
   ∃t,pV (fu bc P w K mg base N qual (af st) f cdv A outer s H E).oF (aR st) t/\t {nx:=λ_ H'=>Q .aP H',rt:=Q} (start N vs) H):cy P w K mg base bc (k+1) f fd ps sp:=by
 obtain⟨oc,od,kV,doc,pm,an,cdv,ct,osl,rfl,lk,g9⟩:=F.ex;refine Af lk g9 S len λA outer s H vs Q E hr hsp=>?_;obtain⟨t,h,q⟩:=hbody cdv A outer s H vs Q E hr hsp;exact⟨t,h.oF,q⟩
theorem jy.binds{ps:List Str}(F:jy K x qual st f fd)
  (h:∀(kV doc pm:Value) (an:Option Addr) (cdv ct:Value) (us:List Value),us.length=ps.length->bindArgs (PySem.W.fnOf x qual (bL st) (aR st) (af st) .none kV doc pm an cdv ct) ⟨us,[]⟩=pure (ps.zip us)):Binds K fd ps []:=by
 obtain⟨oc,od,kV,doc,pm,an,cdv,ct,osl,rfl,lk,g9⟩:=F.ex;exact .all (h kV doc pm an cdv ct)
theorem ck{oc:Value}{od an:Option Addr}{osl:Array (Option Value)}{kV doc pm cdv ct:Value}(l:K.lookup f=some ⟨oc,od,.func (PySem.W.fnOf x qual (bL st) (aR st) (af st) .none kV doc pm an cdv ct),osl⟩)
  (c:PySem.W.codeIn K cdv qual=true) (k:PySem.W.keepIn K (.ref f)=true):jy K x qual st f (PySem.W.fnOf x qual (bL st) (aR st) (af st) .none kV doc pm an cdv ct):=⟨⟨oc,od,kV,doc,pm,an,cdv,ct,osl,rfl,l,c⟩,k⟩
end
theorem a_{A:Around}{k:Nat}(hr:bD k A):A.units+1<cLine:=Im (Nat.add_le_add_left (by decide:1<=64) _) hr.units
section
variable {X:Cx}
theorem pv(i:Nat){pos:Pos}(hN:autoParam (X.N[i]?=some x) ℜ0)(hv:autoParam (Ek X.env.scope x) ℜ4)(hd:autoParam ((x ==("__debug__":Str))=false) ℜ1)
  (g9:autoParam ((x ==("__classdict__":Str))=false) ℜ1):PE X (.Name x pos) (pI i):=Cp hN hv hd g9
end
noncomputable def xf(H H':Hp):Prop:=∀b o,H b=some o->H' b=some o
theorem xf.refl(H:Hp):xf H H:=λ_ _ h=>h
section
variable {κ:Type} [DecidableEq κ]
theorem yF{kvs:List (κ×V)}{k:κ}{v:V}(h:cQ kvs k=some v):k∈kvs.map (·.1):=by
 have q:(kvs.any λkv=>decide (kv.1=k))=true:=by
  rw[eE,h]
  all_goals rfl
 obtain⟨p,hp,e⟩:=List.any_eq_true.mp q;exact HS.mpr ⟨p,hp,Ht e⟩
end
noncomputable def dG(cells:List (Str×Addr)):List (Str×NameKind)->List (Str×Addr)->List (Str×Addr)
 |[],acc=>acc
 | (n,k)::r,acc=>if k=.free then dG cells r ((n,(cells.lookup n).getD 0)::acc) else dG cells r acc
theorem gc(h:∀x∈scope.names,x.2=.free->∃c,env.cells.lookup x.1=some c):closureFor scope env=pure (dG env.cells scope.names []):=by
 have all:∀(l:List (Str×NameKind)) (acc:List (Str×Addr)),(∀x∈l,x.2=.free->∃c,env.cells.lookup x.1=some c) ->
   (forIn l acc λ(x:Str×NameKind) (cs:List (Str×Addr))=>(match x with | (name,kind)=>if (kind == NameKind.free)=true then (do let c <- cellOf env name;pure (ForInStep.yield ((name,c)::cs))) else pure (ForInStep.yield cs):Sem (ForInStep (List (Str×Addr)))))=(pure (dG env.cells l acc):Sem (List (Str×Addr))):=by
  intro l
  induction l with
  |nil=>intro acc _;rfl
  |cons x r ih =>
   intro acc hl;obtain⟨n,k⟩:=x;rw[KR];by_cases hk:k=.free
   ·subst hk;obtain⟨c,hc⟩:=hl (n,.free) GD rfl;have e:cellOf env n=pure c:=by unfold cellOf;rw[hc]
    simp only[J8,JE,e,dG,pure_bind];rw[ih _ λy hy=>hl y (GC _ hy),hc];rfl
   ·have hb:(k == NameKind.free)=false:=by simpa using hk
    simp only[hb,HH,Ih,dG,hk,pure_bind];exact ih _ λy hy=>hl y (GC _ hy)
 unfold closureFor;simp only[bind_pure];exact all scope.names [] h
theorem iu:∀{l:List (Str×NameKind)} {acc:List (Str×Addr)},(∀x∈l,x.2=.free->∃c,cells.lookup x.1=some c)->(∀x c,acc.lookup x=some c->cells.lookup x=some c) ->
  ∀x c,(dG cells l acc).lookup x=some c->cells.lookup x=some c
 |[],_,_,h,x,c,e=>h x c e
 | (n,k)::r,acc,hl,h,x,c,e=>by
  unfold dG at e;have hr:∀y∈r,y.2=.free->∃c,cells.lookup y.1=some c:=λy hy=>hl y (GC _ hy)
  split at e
  ·rename_i hk;refine iu hr (λy d q=>?_) x c e;rw[Hk] at q
   split at q
   ·rename_i hy;obtain⟨c',hc'⟩:=hl (n,k) GD hk;have hy':y=n:=by simpa using hy
    subst hy';simp only[] at hc';rw[hc'] at q ⊢;exact q
   ·exact h y d q
  ·exact iu hr h x c e
theorem ia:∀{l:List (Str×NameKind)} {acc:List (Str×Addr)},(∃c,acc.lookup x=some c)->∃c,(dG cells l acc).lookup x=some c
 |[],_,h=>h
 | (n,k)::r,acc,h=>by
  unfold dG;split
  ·refine ia ?_;rw[Hk];split
   ·exact⟨_,rfl⟩
   ·exact h
  ·exact ia h
theorem fL:∀{l:List (Str×NameKind)} {acc:List (Str×Addr)},(x,NameKind.free)∈l->∃c,(dG cells l acc).lookup x=some c
 |[],_,h=>by simp at h
 | (n,k)::r,acc,h=>by
  unfold dG;rcases Gs.mp h with e|h
  ·cases e;rw[Gn rfl];exact ia ⟨(cells.lookup x).getD 0,by rw[Hk];simp⟩
  ·split
   ·exact fL h
   ·exact fL h
noncomputable def aZ(X:Cx)(scope:Scope)(N:List Str)(C:Addr)(s:Shared)(H:Hp)(fp:List Addr):Cx where
 prog:=X.prog
 w:=X.w
 K:=X.K
 mg:=X.mg
 base:=X.base
 A:=X.A
 N:=N
 s₀:=s
 H₀:=H
 env:=compEnvC scope (dG X.env.cells scope.names []) C X.env
 outer:=X.stack
 stack:=X.stack
 ex:=fp
 calm:=X.calm
 fn:=λ_=>false
 pn:=[]
 xe:=λ_ _=>False
structure dA (osc:Scope) (ON:List Str) (scope:Scope) (own N:List Str):Prop where
 kind:scope.kind=.function
 nd:N.Nodup
 len:N.length=own.length+ON.length
 iU:∀y∈scope.names,y.2≠.cell
 loc:∀y∈scope.names,y.2=.local->scope.names.lookup y.1=some .local
 free:∀y∈scope.names,y.2=.free->osc.names.lookup y.1=some .cell\/osc.names.lookup y.1=some .free
 out:∀p∈ON.zip (N.drop own.length),p.1=p.2\/scope.names.lookup p.2=none
 own:∀x∈N.drop own.length,scope.names.lookup x≠some .local
theorem cP(x:Str)(hn:∀y∈scope.names,y.2≠.cell):((relabel scope env).names.lookup x=some .local->scope.names.lookup x=some .local) /\
  ((relabel scope env).names.lookup x=some .cell\/(relabel scope env).names.lookup x=some .free->scope.names.lookup x=some .free):=by
 unfold relabel;simp only;revert hn;generalize scope.names=l;intro hn
 induction l with
 |nil=>simp
 |cons y r ih =>
  obtain⟨n,k⟩:=y;have ih:=ih λy hy=>hn y (GC _ hy);have hk:k≠.cell:=hn (n,k) GD;rw[Hd];simp only;by_cases hc:(k == NameKind.free && env.scope.kind == ScopeKind.function && env.kindOf n == some NameKind.cell)=true
  ·rw[Gn hc,Hk,Hk];have hf:k=.free:=by
    simp only[Hy] at hc
    simpa using hc.1.1
   split
   ·subst hf;simp
   ·exact ih
  ·rw[Gj hc,Hk,Hk];split
   ·constructor
    ·exactλh=>h
    ·rintro (h|h)
     ·exact absurd (Option.some.inj h) hk
     ·exact h
   ·exact ih
noncomputable def Cg(X:Cx)(ifs:List Expr)(t:TT):Prop:=
 ∀(pins:List (Addr×Obj)) (s:Shared) (σ:St) (H:Hp) (Q:Bool->Hp->Prop),Inv X pins σ H s->t σ H Q ->
  wpAny (model X.prog X.w) X.A (forIn ifs true λc r=>if r=true then do let ok <- isTrue c X.env (eval c X.env);pure (ForInStep.yield ok) else pure (ForInStep.yield r)) (TP X pins σ Q) X.xe s
noncomputable def gi:TT:=λ_ H Q=>Q true H
theorem x_:Cg X [] gi:=λ_ _ _ H _ I h=>wpAny_tests_nil ⟨H,I,h⟩
theorem yU{c:Expr}{t:TT}(h:PT X c t):Cg X [c] t:=λpins s σ H Q I hw=>wpAny_tests_one (h pins s σ H Q I hw)
theorem rX{M:Model}{A:Around}{s:Shared}{m:Sem α}{Q' Q:α->Shared->Prop}(h:wpAny M A m Q' (λ_ _=>False) s)(k:∀x s',Q' x s'->Q x s'):wpAny M A m Q E s:=Hq h k λ_ _ z=>z.elim
theorem jQ{A:Around}{R:Result->Shared->Prop}{s:Shared}{target:Expr}{pos:Pos}{it acc:Value}{XE:Value->Shared->Prop}(I:Nat->Shared->Prop)(hx:∀x s',XE x s'->notedBy (model prog w) A env (λv s''=>R (.error v) s'') x s')
  (turn:∀n s,I n s->wpAny (model prog w) A (pyNext it) (λr s₁=>match r with
   |none=>R (.ok .next) s₁
   |some v=>wpAny (model prog w) A (letOwnedTupleGo target it v) (λ_ s₁'=>wpAny (model prog w) A (assign target env v) (λ_ s₂ =>
     wpAny (model prog w) A (forIn ifs true λc r=>if r=true then do let ok <- isTrue c env (eval c env);pure (ForInStep.yield ok) else pure (ForInStep.yield r)) (λok s₃ =>
      if ok=true then wpAny (model prog w) A (eval elt env) (λx s₄ =>
       wpAny (model prog w) A (call (.builtin "list.append") [acc,x]) (λ_ s₅=>∃m,m<n/\I m s₅) XE s₄) XE s₃
      else ∃m,m<n/\I m s₃) XE s₂) XE s₁') XE s₁) XE s)
  (n:Nat) (h:I n s):codeAny (model prog w) A (.compLoop (.ListComp elt [⟨target,iter,ifs,0⟩] scope pos) 0 it acc env) R s:=by
 refine codeAny_loop rfl I (λn s hI=>?_) n h;show wpAny _ A ((compTurn (.ListComp elt [⟨target,iter,ifs,0⟩] scope pos) 0 it acc env).onRaise (λx=>do noteFrame x env;theTreesLotGoes x)) _ _ s
 refine wpAny_noted ?_;rw[compTurn_list];refine Gg (Jy (Gg (Hq (turn n s hI) (λr s₁ h₁=>?_) hx)))
 cases r with
 |none=>exact Gq h₁
 |some v =>
  refine Gg (Hq h₁ (λ_ s₁' h₁'=>?_) hx);refine Gg (Hq h₁' (λ_ s₂ h₂=>Gg (Hq h₂ (λok s₃ h₃=>?_) hx)) hx)
  cases ok with
  |false=>exact Gq ⟨rfl,h₃⟩
  |true =>
   exact Gg (Gg (Hq h₃ (λx s₄ h₄=>Gg (Hq h₄ (λ_ s₅ h₅=>Gq (Gq ⟨rfl,h₅⟩)) hx)) hx))
noncomputable def jd(wi:TI)(k:Nat)(g:TG)(tc:TT)(te:TE):TE:=λσ H Q=>wi σ H λJ H1=>∀D,H1 D=none ->
 ∃W:Nat->Nat->List V->St->Hp->Prop,(∃m,W 0 m [] (List.replicate k none++σ) (upd H1 D (.lst [])))/\∀i m ys σ' H',W i m ys σ' H'->H' D=some (.lst ys) /\
  ((J.stop i H'/\Q (.ref D) H')\/(J.go i H'/\ys.length<sizeLine/\∀x H2,J.Ai i H' x H2->g x σ' H2 λσ3 H3=>tc σ3 H3 λb H4 =>
   if b=true then te σ3 H4 λv H5=>H5 D=some (.lst ys)/\∃m',m'<m/\W (i+1) m' (ys++[v]) σ3 (upd H5 D (.lst (ys++[v])))
   else ∃m',m'<m/\W (i+1) m' ys σ3 H4))
theorem p9{pos:Pos}{wi:TI}(S:dA osc ON scope own N)(hosc:X.env.scope=osc)(hON:X.N=ON)(hc:X.calm=true)(hi:PI X tg iter wi)
  (hg:∀C s H fp,PG (aZ X scope N C s H fp) tg g) (ht:∀C s H fp,Cg (aZ X scope N C s H fp) ifs tc) (XE:Addr->Shared->Hp->List Addr->Value->Shared->Prop)
  (he:∀C s H fp pins s' σ' H' Q',(∀b∈fp,∃o,(b,o)∈pins)->Inv (aZ X scope N C s H fp) pins σ' H' s'->te σ' H' Q'->wpAny (model X.prog X.w) X.A (eval elt (aZ X scope N C s H fp).env) (EP (aZ X scope N C s H fp) pins σ' Q') (XE C s H fp) s')
     {s:Shared} {Q:VK} (I:Inv X pins σ H s) (h:jd wi own.length g tc te σ H Q) 
  (fin:∀(D C:Addr) (H':Hp) (s':Shared) (m:Str->Option Value),Inv X pins σ H' s'->Q (.ref D) H'->H' C=none->X.s₀.heap.objs.size<=C->C≠X.env.locals->(∀x c,X.env.cells.lookup x=some c->c≠C)->(∀p∈X.pn++pins,p.1≠C) ->
   s'.heap.Ns C m->RR (.ref D) C (.ok .next) s')
  (hx:∀(D C:Addr) (s3:Shared) (H3:Hp) (fp:List Addr),C=s3.heap.objs.size->Inv X pins σ H3 s3->(∀{pins':List (Addr×Obj)} {σ':St} {H':Hp} {s':Shared},Inv (aZ X scope N C s3 H3 fp) pins' σ' H' s'->Inv X pins σ H' s') ->
   X.s₀.heap.objs.size<=C->C≠X.env.locals->(∀x c,X.env.cells.lookup x=some c->c≠C)->(∀p∈X.pn++pins,p.1≠C)->∀x s',XE C s3 H3 fp x s'->notedBy (model X.prog X.w) X.A (aZ X scope N C s3 H3 fp).env (λv s''=>RR (.ref D) C (.error v) s'') x s') :
  wpAny (model X.prog X.w) X.A (eval iter X.env) (λx s₁=>wpAny (model X.prog X.w) X.A (pyIter x) (λit s₂=>wpAny (model X.prog X.w) X.A (newList []) (λacc s₃ =>
   wpAny (model X.prog X.w) X.A (newFunctionEnv scope X.env.globals (dG X.env.cells scope.names []) [] X.env.qual none .none (some X.env)) (λcenv s₄ =>
    codeAny (model X.prog X.w) X.A (.compStart (.ListComp elt [⟨tg,iter,ifs,0⟩] scope pos) 0 it acc {cenv with scope:=relabel scope X.env}) (RR acc cenv.locals) s₄) X.xe s₃) X.xe s₂) X.xe s₁) X.xe s:=by
 refine bJ (hi pins s σ H _ I h) λv s1 h1=>bJ h1 λitv s2 h2=>?_;obtain⟨it,fp,tn,J,H2,e,I2,T,st2,f2,q⟩:=h2;subst e;refine HN (wpAny_newFunctionEnv S.iU (by intro y hy;simp at hy) (λh₁ hns₁ hsb₁=>?_) S.kind)
 dsimp only at hns₁ hsb₁ ⊢;have I3:Inv X pins σ (upd H2 s2.heap.objs.size (.lst [])) {s2 with heap:=s2.heap.push {cls:=.type "list",data:=.seq ([]:List Value).toArray},toks:=s2.toks}:=I2.Ca (t':=s2.toks) .nil (Nat.zero_le _)
 have hD2:H2 s2.heap.objs.size=none:=I2.fresh;obtain⟨W,⟨m0,w0⟩,turn⟩:=q _ hD2;generalize hs3:({s2 with heap:=s2.heap.push {cls:=.type "list",data:=.seq ([]:List Value).toArray},toks:=s2.toks}:Shared)=s3 at I3
 have eh3:s3.heap=s2.heap.push {cls:=.type "list",data:=.seq ([]:List Value).toArray}:=by rw[<- hs3]
 generalize hD:s2.heap.objs.size=D at I3 turn w0 hD2 ⊢;generalize hH3:upd H2 D (.lst [])=H3 at I3 w0;rw[<- eh3] at hns₁ hsb₁ ⊢;have hC3:H3 s3.heap.objs.size=none:=I3.fresh;have hsz3:s3.heap.objs.size=D+1:=by rw[eh3,HW,hD]
 have fp2:∀b∈fp,b<s2.heap.objs.size:=λb hb=>by
  obtain⟨o,e,_⟩:=T.obj _ _ st2 b hb;exact Gz e
 have f3:∀b∈fp,jn X pins H3 b:=λb hb=>by
  obtain⟨g0,g1⟩:=f2 b hb;refine⟨?_,g1⟩;rw[<- hH3,ae (by rw[<- hD];exact GG (fp2 b hb))]
  exact g0
 have neC:∀b o,s3.heap.get? b=some o->b≠s3.heap.objs.size:=λb o e=>GG (Gz e);have old:∀b o,s3.heap.get? b=some o->h₁.get? b=some o:=λb o e=>hsb₁.extBut b o (neC b o e) (Gh _ e);have hk:=S.kind;have hfr:∀y∈scope.names,y.2=.free->∃c,X.env.cells.lookup y.1=some c:=λy hy hf=>I3.ok.has _ (by subst hosc;exact S.free y hy hf)
 have sub:=iu (acc:=[]) hfr (by intro x c e;simp at e)
 have JB:∀tk,Inv (aZ X scope N s3.heap.objs.size s3 H3 fp) [] (List.replicate own.length none++σ) H3 {s3 with heap:=h₁,toks:=tk}:=λtk=>by
  refine⟨⟨I3.ok.mod,S.kind,I3.ok.glob,I3.ok.blt,Gp _,λx y c e1 e2=>I3.ok.inj x y c (sub x c e1) (sub y c e2),λx hx=>?_,λx c hf _=>(by cases hf),I3.ok.hd,I3.ok.frames,.inl rfl,λb hb=>?_,I3.bs,Gr I3.ok.xD I3.sz,λb o e hb=>?_,λb hb hf=>?_,I3.stack,I3.ma,I3.ok.tabs.un I3.base⟩,
   rfl,I3.bare,Un.kept old,⟨_,hns₁,λi x v e1 e2 e3=>?_⟩,λx c e=>?_,hC3,λx c e=>I3.fk x c (sub x c e),λp hp=>absurd (show p∈([]:List (Addr×Obj)) from hp) (by simp),I3.aU.kept old,?_⟩
  ·have q:=(cP (env:=X.env) x S.iU).2 hx;exact fL (PySem.mem_of_lookup q)
  ·have hb:b∈fp:=hb;obtain⟨_,g1,g2,g3,g4,g5⟩:=f3 b hb;refine⟨?_,λx c e=>g4 x c (sub x c e)⟩;have:=fp2 b hb;show b≠s3.heap.objs.size;rw[hsz3,<- hD];exact GG (IT this)
  ·have hb:b∈fp:=hb;obtain⟨_,g1,g2,g3,g4,g5⟩:=f3 b hb;rcases g3 with g3|g3
   ·exact I3.ok.v5 b o e g3
   ·exact absurd (GK (Gz e) (Gr I3.ok.xD g3)) (Ic _)
  ·have hb:b∈fp:=hb;obtain⟨_,g1,g2,g3,g4,g5⟩:=f3 b hb;rcases Gs.mp (I3.lE b hf) with z|z
   ·exact g1 z
   ·exact g2 z
  ·have hi:own.length<=i:=by
    rcases Hr i own.length with hlt|hge
    ·rw[Hi (by simpa using hlt),KJ] at e2
     split at e2<;>cases e2
    ·exact hge
   rw[Ha (by simpa using hi),GB] at e2
   have e1:N[own.length+(i-own.length)]?=some x:=by rw[Nat.add_sub_cancel' hi];exact e1
   have e1d:(N.drop own.length)[i-own.length]?=some x:=by rw[HX];exact e1
   have nl:scope.names.lookup x≠some .local:=S.own x (Hx e1d);have vis:scope.names.lookup x=some .free:=by
    rcases e3 with z|z
    ·exact absurd ((cP (env:=X.env) x S.iU).1 z) nl
    ·exact (cP (env:=X.env) x S.iU).2 z
   have hlen:=I3.len;have hlt:i-own.length<X.N.length:=by
    rw[<- hlen];exact (Gm.mp e2).1
   have hxN:X.N[i-own.length]?=some x:=by
    rw[Gi hlt];have mz:(X.N[i-own.length],x)∈ON.zip (N.drop own.length):=by
     rw[<- hON];refine Hx (i:=i-own.length) ?_;rw[List.getElem?_zip_eq_some];exact⟨Gi hlt,e1d⟩
    rcases S.out _ mz with z|z
    ·exact Hj some z
    ·exact absurd z (by rw[vis];simp)
   have hko:X.env.scope.names.lookup x=some .cell\/X.env.scope.names.lookup x=some .free:=by subst hosc;exact S.free _ (PySem.mem_of_lookup vis) rfl
   obtain⟨m,hn,hl⟩:=I3.loc;have hv:Ek X.env.scope x:=by
    rcases hko with z|z
    ·exact .inr (.inl z)
    ·exact .inr (.inr z)
   obtain⟨u,ru,lk⟩:=hl _ x v hxN e2 hv;refine⟨u,ru,.inr ⟨?_,?_⟩⟩
   ·rcases e3 with z|z
    ·exact absurd ((cP (env:=X.env) x S.iU).1 z) nl
    ·exact z
   ·rcases lk with ⟨k,_⟩|⟨_,c,ec,hcell⟩
    ·exfalso
     have k':X.env.scope.names.lookup x=some .local:=k;rcases hko with z|z
     ·rw[k'] at z;cases z
     ·rw[k'] at z;cases z
    ·obtain⟨c',ec'⟩:=fL (cells:=X.env.cells) (acc:=[]) (PySem.mem_of_lookup vis);have:=sub x c' ec';rw[ec] at this;cases this;obtain⟨o,ho,hd⟩:=hcell;exact⟨c,ec',o,old c o ho,hd⟩
  ·obtain⟨v,o,ho,hd⟩:=I3.cell x c (sub x c e);exact⟨v,o,old c o ho,hd⟩
  ·show (List.replicate own.length none++σ).length=N.length;rw[S.len,Gk,GB,I3.len,hON]
 have stat:∀{H':Hp},(∀b∈fp,H' b=none)->∀b∈fp,jn (aZ X scope N s3.heap.objs.size s3 H3 fp) [] H' b:=λ{H'} hn b hb=>by
  obtain⟨_,g1,g2,g3,g4,g5⟩:=f3 b hb;refine⟨hn b hb,?_,λhf=>?_,.inl hb,λx c e=>g4 x c (sub x c e),λp hp=>absurd (show p∈([]:List (Addr×Obj)) from hp) (by simp)⟩
  ·have:=fp2 b hb;show b≠s3.heap.objs.size;rw[hsz3,<- hD];exact GG (IT this)
  ·rcases Gs.mp (I3.lE b hf) with z|z
   ·exact g1 z
   ·exact g2 z
 have st4:tn 0 h₁:=T.keep _ _ _ st2 λb hb o e=>old b o (by rw[eh3];exact Gh _ e)
 have o3:∀x c,X.env.cells.lookup x=some c->c≠s3.heap.objs.size:=λx c e z=>by
  obtain⟨v,o,ho,_⟩:=I3.cell x c e;exact absurd (Gz ho) (by rw[z];exact Ic _)
 have o4:∀p∈X.pn++pins,p.1≠s3.heap.objs.size:=λp hp z=>absurd (Gz (I3.pin p hp).1) (by rw[z];exact Ic _)
 have outI:∀{pins':List (Addr×Obj)} {σ':St} {H':Hp} {s':Shared},Inv (aZ X scope N s3.heap.objs.size s3 H3 fp) pins' σ' H' s'->Inv X pins σ H' s':=λI6=>by
  refine I3.Ex (ch:=fp) I6.os I6.base I6.aU I6.bare λb hb=>?_;obtain⟨_,g1,g2,g3,g4,g5⟩:=f3 b hb;exact⟨g3,g1,g4,g5⟩
 have loop:∀s4:Shared,s4={s3 with heap:=h₁,toks:=s2.toks+([]:List (Str×Value)).length} ->
   codeAny (model X.prog X.w) X.A (.compLoop (.ListComp elt [⟨tg,iter,ifs,0⟩] scope pos) 0 (.ref it) (.ref D) (aZ X scope N s3.heap.objs.size s3 H3 fp).env) (RR (.ref D) s3.heap.objs.size) s4:=by
  rintro s4 rfl;refine jQ (XE:=XE s3.heap.objs.size s3 H3 fp) (λn s'=>∃i ys σ' H',Inv (aZ X scope N s3.heap.objs.size s3 H3 fp) [] σ' H' s'/\tn i s'.heap/\(∀b∈fp,H' b=none)/\W i n ys σ' H') (hx D _ s3 H3 fp rfl I3 outI I3.sz (HR I3.lt) o3 o4) ?_ m0 ⟨0,[],_,H3,JB _,st4,λb hb=>(f3 b hb).1,w0⟩;rintro n s5 ⟨i,ys,σ5,H5,I5,st5,fr5,w5⟩;obtain⟨hD5,ways⟩:=turn i n ys σ5 H5 w5;rcases ways with ⟨stop,qn⟩|⟨go,hys,step⟩
  ·refine rX (T.done (aZ X scope N s3.heap.objs.size s3 H3 fp) rfl rfl rfl hc i [] s5 σ5 H5 _ I5 (stat fr5) st5 stop) λr s6 hq1=>?_;obtain⟨hr,I6⟩:=hq1;subst hr;obtain⟨m,hn,_⟩:=I6.loc;exact fin D _ H5 s6 m (outI I6) qn I6.free I3.sz (HR I3.lt) o3 o4 hn
  ·refine rX (T.item (aZ X scope N s3.heap.objs.size s3 H3 fp) rfl rfl rfl hc i [] s5 σ5 H5 _ I5 (stat fr5) st5 go) λr s6 hq2=>?_;obtain⟨u,hr,h6⟩:=hq2;subst hr;refine rX h6 λ_ s7 hq3=>?_;obtain⟨x,H7,I7,r7,y7,st7,fr7⟩:=hq3;have I7':=I7.pinned (stat fr7) (T.obj _ _ st7);have back:∀{σ8:St} {H8:Hp} {s8:Shared},Inv (aZ X scope N s3.heap.objs.size s3 H3 fp) ([]++ig fp s7.heap) σ8 H8 s8->tn (i+1) s8.heap/\∀b∈fp,H8 b=none:=λ{σ8 H8 s8} I8=>by
    refine⟨T.keep _ _ _ st7 λb hb o e=>(I8.pin (b,o) (GL _ (GL _ (dI hb e)))).1,λb hb=>?_⟩;obtain⟨o,e,d⟩:=T.obj _ _ st7 b hb;exact (I8.pin (b,o) (GL _ (GL _ (dI hb e)))).2.1
   have hcov:∀b∈fp,∃o,(b,o)∈([]:List (Addr×Obj))++ig fp s7.heap:=λb hb=>by
    obtain⟨o,e,_⟩:=T.obj _ _ st7 b hb;exact⟨o,GL _ (dI hb e)⟩
   refine rX (hg _ _ _ _ _ s7 σ5 H7 x u _ I7' r7 (step x H7 y7)) λ_ s8 hq4=>?_;obtain⟨σ8,H8,I8,q8⟩:=hq4;refine rX (ht _ _ _ _ _ s8 σ8 H8 _ I8 q8) λok s9 hq5=>?_;obtain⟨H9,I9,q9⟩:=hq5
   cases ok with
   |false =>
    rw[Gj (by simp)] at q9 ⊢
    obtain⟨m',hm,w9⟩:=q9;exact⟨m',hm,i+1,ys,σ8,H9,I9.fq,(back I9).1,(back I9).2,w9⟩
   |true =>
    rw[Gn rfl] at q9 ⊢;refine bJ (he _ _ _ _ _ s9 σ8 H9 _ hcov I9 q9) λy s10 hq6=>?_;obtain⟨v10,H10,I10,r10,hD10,m',hm,w10⟩:=hq6;refine rX (cV _ s10 σ8 H10 (.ref D) [v10] (.ref D) [y] (λr H11=>r=.aP/\H11=upd H10 D (.lst (ys++[v10]))) I10 rfl (.cons r10 .nil) ⟨D,ys,v10,rfl,rfl,hD10,hys,rfl,rfl⟩) λ_ s11 hq7=>?_;obtain⟨_,H11,I11,_,_,e11⟩:=hq7;subst e11;exact⟨m',hm,i+1,_,σ8,_,I11.fq,(back I11).1,(back I11).2,w10⟩
 have start:=codeAny_compStart_list (R:=RR (.ref D) s3.heap.objs.size) (loop _ rfl) (T.self X.A 0 _ _ _ st4 (loop _ rfl));subst hs3;exact start
theorem ki{pos:Pos}{wi:TI}(S:dA osc ON scope own N)(hosc:X.env.scope=osc)(hON:X.N=ON)(hc:X.calm=true)(hi:PI X tg iter wi)
  (hg:∀C s H fp,PG (aZ X scope N C s H fp) tg g) (ht:∀C s H fp,Cg (aZ X scope N C s H fp) ifs tc) (he:∀C s H fp,PE (aZ X scope N C s H fp) elt te)
     {s:Shared} {Q:VK} (I:Inv X pins σ H s) (h:jd wi own.length g tc te σ H Q) 
  (fin:∀(D C:Addr) (H':Hp) (s':Shared) (m:Str->Option Value),Inv X pins σ H' s'->Q (.ref D) H'->H' C=none->X.s₀.heap.objs.size<=C->C≠X.env.locals->(∀x c,X.env.cells.lookup x=some c->c≠C)->(∀p∈X.pn++pins,p.1≠C) ->
   s'.heap.Ns C m->RR (.ref D) C (.ok .next) s') :
  wpAny (model X.prog X.w) X.A (eval iter X.env) (λx s₁=>wpAny (model X.prog X.w) X.A (pyIter x) (λit s₂=>wpAny (model X.prog X.w) X.A (newList []) (λacc s₃ =>
   wpAny (model X.prog X.w) X.A (newFunctionEnv scope X.env.globals (dG X.env.cells scope.names []) [] X.env.qual none .none (some X.env)) (λcenv s₄ =>
    codeAny (model X.prog X.w) X.A (.compStart (.ListComp elt [⟨tg,iter,ifs,0⟩] scope pos) 0 it acc {cenv with scope:=relabel scope X.env}) (RR acc cenv.locals) s₄) X.xe s₃) X.xe s₂) X.xe s₁) X.xe s:=
 p9 S hosc hON hc hi hg ht (λ_ _ _ _ _ _=>False) (λC s H fp pins s' σ' H' Q' _ I h=>he C s H fp pins s' σ' H' Q' I h) I h fin λ_ _ _ _ _ _ _ _ _ _ _ _ _ _ z=>z.elim
theorem yo{pos:Pos}{wi:TI}(S:dA osc ON scope own N)(hosc:X.env.scope=osc)(hON:X.N=ON)(hc:X.calm=true)(hi:PI X tg iter wi)
  (hg:∀C s H fp,PG (aZ X scope N C s H fp) tg g) (ht:∀C s H fp,Cg (aZ X scope N C s H fp) ifs tc) (he:∀C s H fp,PE (aZ X scope N C s H fp) elt te)
  (hs:autoParam (∀x,foldedSetIterable iter X.env x=pure x) ℜ3) :
  PE X (.ListComp elt [⟨tg,iter,ifs,0⟩] scope pos) (jd wi own.length g tc te):=by
 intro pins s σ H Q I h;have hfr:∀y∈scope.names,y.2=.free->∃c,X.env.cells.lookup y.1=some c:=λy hy hf=>I.ok.has _ (by subst hosc;exact S.free y hy hf)
 rw[eval_ListComp];refine K6 (use:=none) rfl hs (gc hfr) S.kind S.loc ?_;refine ki S hosc hON hc hi hg ht he I h (RR:=λacc C=>compPost (model X.prog X.w) X.A X.xe none (EP X pins σ Q) acc C) ?_;intro D C H' s' m I' q h1 h2 h3 h4 h5 hn;exact⟨m,hn,λh'' hs''=>⟨.ref D,H',I'.turned (t':=s'.toks) (λb o hb e=>(hs''.2 b hb).trans e) h1 h3 (.inr h2) h4 h5,rfl,q⟩⟩
theorem pO{pos spos py:Pos}{wi:TI}{y:Str}(hN:X.N.Nodup)(hj:X.N[j]?=some y)(hx:Loc X.env.scope y)(S:dA osc ON scope own N)(hosc:X.env.scope=osc)(hON:X.N=ON)(hc:X.calm=true)(hi:PI X tg iter wi)
  (hg:∀C s H fp,PG (aZ X scope N C s H fp) tg g) (ht:∀C s H fp,Cg (aZ X scope N C s H fp) ifs tc) (he:∀C s H fp,PE (aZ X scope N C s H fp) elt te)
  (hsw:autoParam (swapsWith (.ListComp elt [⟨tg,iter,ifs,0⟩] scope pos) (some (.Name y py)) spos.line X.env=pure true) ℜ0)
  (hf:autoParam (X.fn y=true\/X.env.scope.names.lookup y=some .local) ℜ2)
  (hs:autoParam (∀x,foldedSetIterable iter X.env x=pure x) ℜ3) :
  PS X (.Assign [.Name y py] (.ListComp elt [⟨tg,iter,ifs,0⟩] scope pos) spos) (lC (jd wi own.length g tc te) (bj j)):=by
 intro pins s σ H Dn I h;have hfr:∀y∈scope.names,y.2=.free->∃c,X.env.cells.lookup y.1=some c:=λy hy hf=>I.ok.has _ (by subst hosc;exact S.free y hy hf)
 rw[exec_Assign_Name_used _ _ _ _ hsw];refine Gg (Jy (Gg ?_));show wpAny _ X.A (do let _ <- comprehension (.ListComp elt [⟨tg,iter,ifs,0⟩] scope pos) scope X.env _ (newList []) false (eval iter X.env) (some (assign (.Name y py) X.env))) _ _ s
 refine Gg (Hq (K6 (use:=some (assign (.Name y py) X.env)) (Q:=λ_ s'=>SP X pins Dn .next s') rfl hs (gc hfr) S.kind S.loc ?_) (λ_ s' hq=>Gq (Gq hq)) λ_ _ e=>e);refine ki S hosc hON hc hi hg ht he I h (RR:=λacc C=>compPost (model X.prog X.w) X.A X.xe (some (assign (.Name y py) X.env)) (λ_ s'=>SP X pins Dn .next s') acc C) ?_;intro D C H' s' m I' q h1 h2 h3 h4 h5 hn;show wpAny _ X.A (assign (.Name y py) X.env (.ref D)) _ _ _;refine wpAny_assign_Name (kH I' hN hj hx (v:=.ref D) rfl (λs'' I'' hsb=>?_) hf);obtain⟨a,sb,ha⟩:=hsb;have nC:C≠a:=by
  rcases ha with ha|ha
  ·rw[ha];exact h3
  ·exact (h4 y a ha).symm
 exact⟨m,hn.sameBut sb nC,λh'' hs''=>⟨_,H',I''.turned (t':=s''.toks) (λb o hb e=>(hs''.2 b hb).trans e) h1 h3 (.inr h2) h4 h5,q⟩⟩
noncomputable def fo(e:Expr):Bool:=match e with
 |.Starred ..=>false
 |_=>true
theorem cS(h:fo e=true):starEach (e::es) env=(false,eval e env)::starEach es env:=by
 cases e<;>first|rfl|cases h
theorem plain_any{pos:Pos}:∀{es:List Expr},es.all fo=true->(backTo pos (starEach es env)).any (·.1)=false
 |[],_=>rfl
 |e::es,h=>by
  rw[Ie,Hy] at h;rw[cS h.1];show (false || (backTo pos (starEach es env)).any (·.1))=false;rw[plain_any h.2];rfl
theorem plain_all{pos:Pos}:∀{es:List Expr},es.all fo=true->(backTo pos (starEach es env)).all (λx=>!x.1)=true
 |[],_=>rfl
 |e::es,h=>by
  rw[Ie,Hy] at h;rw[cS h.1];show (true && (backTo pos (starEach es env)).all (λx=>!x.1))=true;rw[plain_all h.2];rfl
theorem Bq{cpos:Pos}(h:(e::es).all fo=true)(hl:(e::es).length<30):
  ((backTo cpos (starEach (e::es) env)).all (λx=>!x.1) && (backToKw cpos (keywordEach [] env)).all (λx=>x.1.isSome) && decide ((e::es).length+([]:List Keyword).length+(if ([]:List Keyword).isEmpty then 0 else 1)<30))=true:=by
 rw[plain_all h];have e2:(backToKw cpos (keywordEach [] env)).all (λx=>x.1.isSome)=true:=rfl;rw[e2];have e3:(e::es).length+([]:List Keyword).length+(if ([]:List Keyword).isEmpty then 0 else 1)<30:=hl
 rw[GZ e3];rfl
section
variable {X:Cx} {e:Expr} {es:List Expr} {te:TE} {t:TA}
theorem EO(ha:PE X e te)(hr:PA X es t)(h:autoParam (fo e=true) ℜ0):PA X (e::es) (i7 te t):=qz ha hr (cS h)
theorem DW{id:String}{p pos:Pos}(hc:b6 X (.builtin id) r)(hg:Gl X x)(hm:X.mg x=none)(hv:bootBuiltins x=some (.builtin id))(ha:PA X (e::es) t)(h1:autoParam (fo e=true) ℜ0)(h2:autoParam (es.all fo=true) ℜ0)(hn:autoParam (x≠"__name__") ℜ1)(hdb:autoParam ((x ==("__debug__":Str))=false) ℜ1):
  PE X (.Call (.Name x p) (e::es) [] pos) (xI r t):=uJ hc hg hm hv ha hn hdb (cS h1) (plain_any h2)
theorem Dt{T:String}{p pos:Pos}(hc:b6 X (.type T) r)(hg:Gl X x)(hm:X.mg x=none)(hv:bootBuiltins x=some (.type T))(ha:PA X (e::es) t)(h1:autoParam (fo e=true) ℜ0)(h2:autoParam (es.all fo=true) ℜ0)(hn:autoParam (x≠"__name__") ℜ1)(hdb:autoParam ((x ==("__debug__":Str))=false) ℜ1):
  PE X (.Call (.Name x p) (e::es) [] pos) (xI r t):=tu hc hg hm hv ha hn hdb (cS h1) (plain_any h2)
theorem AF{o:Expr}{to:TE}{name:Str}{apos cpos:Pos}{T id:String}{r:V->List V->Hp->VK->Prop}(pa:PlainAttrs T)(slot:Slot T name id)(hty:typeOf (.builtin id)=pure (.type "method_descriptor"))(hm:vj X id r)(ho:PE X o to)(ha:PA X (e::es) t)
  (hbase:attributeBase o name X.env (eval o X.env)=eval o X.env) (hline:(apos.endLine == cpos.line)=true) (h:(e::es).all fo=true) (hl:(e::es).length<30):PE X (.Call (.Attribute o name apos) (e::es) [] cpos) (CI X.K T r to t):=by
 have h':=h;rw[Ie,Hy] at h';exact Dr pa slot hty hm ho ha hbase (Bq h hl) hline (cS h'.1) (plain_any h'.2)
theorem qd{a:Expr}{p pos:Pos}(hg:Gl X "range")(hm:X.mg "range"=none)(ha:PA X [a] ta)(h:autoParam (fo a=true) ℜ0):PI X tg (.Call (.Name "range" p) [a] [] pos) (kA ta):=tH hg hm ha (cS h)
theorem pq{a:Expr}{p pos:Pos}(hg:Gl X "range")(hm:X.mg "range"=none)(ha:PA X [a,b] ta)(h:autoParam (fo a=true) ℜ0)(h2:autoParam (fo b=true) ℜ0):PI X tg (.Call (.Name "range" p) [a,b] [] pos) (kR ta):=rQ hg hm ha (by rw[cS h,cS h2];rfl) (cS h2)
end
structure HasFn (K:LA) (mg:Str->Option Value) (x:Str) (st:Stmt) (ps:List Str):Prop where
 ex:∃(f:Addr) (fd:FuncData),jy K x x st f fd/\Binds K fd ps []/\mg x=some (.ref f)
structure aq (P:Program) (w:World) (K:LA) (mg:Str->Option Value) (base:Heap) (CX:nI) (k:Nat) (x:Str) (ps:List Str) (sp:Sp):Prop where
 ex:∃(f:Addr) (fd:FuncData),mg x=some (.ref f)/\PySem.W.keepIn K (.ref f)=true/\Binds K fd ps []/\cy P w K mg base CX k f fd ps sp
section
variable {P:Program} {w:World} {K:LA} {mg:Str->Option Value} {base:Heap}
theorem HasFn.ok{ps:List Str}{k:Nat}(F:HasFn K mg x st ps)(S:ax N ps (af st))(len:∀vs H Q E,sp vs H Q E->vs.length=ps.length)
  (hbody:∀(f:Addr) (cdv:Value) (A:Around) (outer:List Env) (s:Shared) (H:Hp) (vs:List V) (Q:VK) (E:XK),bD k (A.deeper (envOfC x (af st) s.heap.objs.size f cdv))->sp vs H Q E ->
   ∃t,pV (fu bc P w K mg base N x (af st) f cdv A outer s H E).oF (aR st) t/\t {nx:=λ_ H'=>Q .aP H',rt:=Q} (start N vs) H):aq P w K mg base bc (k+1) x ps sp:=by
 obtain⟨f,fd,F1,b,m⟩:=F.ex;exact⟨f,fd,m,F1.kp,b,F1.ok S len λcdv A outer s H vs Q E hr h=>hbody f cdv A outer s H vs Q E hr h⟩
end
section
variable {X:Cx} {CX:nI} {k:Nat} {ps:List Str} {sp:Sp} {E:XK} {x:Str} {p pos:Pos} {e:Expr} {es:List Expr} {t:TA}
theorem DY(F:aq X.prog X.w X.K X.mg X.base CX k x ps sp)(hr:bD k X.A)(hg:Gl X x)(hx:Passes CX X E)(ha:PA X (e::es) t)(h1:autoParam (fo e=true) ℜ0)(h2:autoParam (es.all fo=true) ℜ0)(hdb:autoParam ((x ==("__debug__":Str))=false) ℜ1):
  PE X (.Call (.Name x p) (e::es) [] pos) (g_ sp [] E t):=by
 obtain⟨f,fd,m,kp,b,G⟩:=F.ex;exact zb G hr hg m kp b .nil hx ha hdb (cS h1) (plain_any h2)
theorem Br(F:aq X.prog X.w X.K X.mg X.base CX k x ps sp)(hr:bD k X.A)(hg:Gl X x)(hx:Passes CX X E)(hdb:autoParam ((x ==("__debug__":Str))=false) ℜ1):
  PE X (.Call (.Name x p) [] [] pos) (g_ sp [] E iG):=by
 obtain⟨f,fd,m,kp,b,G⟩:=F.ex;exact xb G hr hg m kp b .nil hx hdb
end
noncomputable def BJ:Expr->Option V
 |.Constant (.int i) _ _=>some (.int i)
 |.Constant (.str x) _ _=>some (.str x)
 |.Constant (.bool b) _ _=>some (.bl b)
 |.Constant .none _ _=>some .aP
 |_=>none
noncomputable def qA:List Expr->Option (List V)
 |[]=>some []
 |e::es=>match BJ e,qA es with
  |some v,some vs=>some (v::vs)
  |_,_=>none
noncomputable def tK(vs:List V):TA:=λ_ H Q=>Q vs H
theorem AL{v:V}(h:BJ e=some v):PE X e (tC v)/\∀es,starEach (e::es) X.env=(false,eval e X.env)::starEach es X.env:=by
 unfold BJ at h
 split at h
 ·cases h;exact⟨wg,λ_=>rfl⟩
 ·cases h;exact⟨qc,λ_=>rfl⟩
 ·cases h;exact⟨zT,λ_=>rfl⟩
 ·cases h;exact⟨vS,λ_=>rfl⟩
 ·cases h
theorem kC{X:Cx}:∀{es:List Expr} {vs:List V},qA es=some vs->PA X es (tK vs)
 |[],vs,h=>by cases h;exact xv
 |e::es,vs,h=>by
  unfold qA at h
  split at h
  ·rename_i v ws e1 e2;cases h;have p:=AL (X:=X) e1;exact qz (te:=tC v) (t:=tK ws) p.1 (kC e2) (p.2 es)
  ·cases h
noncomputable def sq(H:Hp)(p:Addr):Option (Bool×List V):=match H p with
 |some (.lst xs)=>some (true,xs)
 |some (.tup xs)=>some (false,xs)
 |some (.ik _ (.lst xs))=>some (true,xs)
 |some (.ik _ (.tup xs))=>some (false,xs)
 |_=>none
theorem fO(h:sq H p=some (true,xs)):bY K H p xs:=by
 unfold sq at h
 split at h
 ·rename_i e;cases h;exact .inl (.inl e)
 ·cases h
 ·rename_i e;cases h;exact .inl (.inr ⟨_,e⟩)
 ·cases h
 ·cases h
theorem fB(h:sq H p=some (false,xs)):bz K H p xs:=by
 unfold sq at h
 split at h
 ·cases h
 ·rename_i e;cases h;exact .inl (.inl e)
 ·cases h
 ·rename_i e;cases h;exact .inl (.inr ⟨_,e⟩)
 ·cases h
theorem Cf{b:Bool}(h:sq H p=some (b,xs)):bY K H p xs\/bz K H p xs:=by
 cases b with
 |true=>exact .inl (fO h)
 |false=>exact .inr (fB h)
theorem aC(h:H p=some (.lst xs)):sq H p=some (true,xs):=by unfold sq;rw[h]
theorem aH(h:H p=some (.tup xs)):sq H p=some (false,xs):=by unfold sq;rw[h]
section
variable {X:Cx}
noncomputable def sG(K:LA):R2:=λx y H Q=>match x,y with
 |.int i,.int j=>Q (.int (i+j)) H
 |.str i,.str j=>i.length+j.length<=sizeLine/\Q (.str (i++j)) H
 |.ref a,.ref b=>match H a,H b with
  |some (.lst xs),some (.lst ys)=>xs.length+ys.length<=sizeLine/\∀p,H p=none->Q (.ref p) (upd H p (.lst (xs++ys)))
  |some (.tup xs),some (.tup ys)=>xs≠[]/\ys≠[]/\xs.length+ys.length<=sizeLine/\∀p,H p=none->Q (.ref p) (upd H p (.tup (xs++ys)))
  |_,_=>False
 |_,_=>False
theorem yl:dy X (binaryOp .Add) (sG X.K):=by
 intro pins s σ H x y v u Q I rx ry h
 cases x with
 |int i=>cases y with
  |int j=>exact Bj pins s σ H _ _ v u Q I rx ry ⟨i,j,rfl,rfl,h⟩
  |_=>exact (show False from h).elim
 |str i=>cases y with
  |str j=>exact oV pins s σ H _ _ v u Q I rx ry ⟨i,j,rfl,rfl,h.1,h.2⟩
  |_=>exact (show False from h).elim
 |ref a=>cases y with
  |ref b =>
   unfold sG at h;simp only at h
   split at h
   ·rename_i xs ys e1 e2;exact B6 pins s σ H _ _ v u Q I rx ry ⟨a,b,xs,ys,rfl,rfl,e1,e2,h.1,h.2⟩
   ·rename_i xs ys e1 e2;obtain⟨h1,h2,h3,h4⟩:=h;exact zS pins s σ H _ _ v u Q I rx ry ⟨a,b,xs,ys,rfl,rfl,bz.of e1,bz.of e2,h1,h3,λz=>absurd z h2,λ_=>h4⟩
   ·exact h.elim
  |_=>exact (show False from h).elim
 |_=>exact (show False from h).elim
noncomputable def C0:R2:=λx y H Q=>match x,y with
 |.int i,.int j=>um i j/\Q (.int (i*j)) H
 |.ref a,.int j=>DA (.ref a) (.int j) H Q
 |_,_=>False
theorem cp:dy X (binaryOp .Mult) C0:=by
 intro pins s σ H x y v u Q I rx ry h
 cases x with
 |int i=>cases y with
  |int j=>exact AW pins s σ H _ _ v u Q I rx ry ⟨i,j,rfl,rfl,h.1,h.2⟩
  |_=>exact (show False from h).elim
 |ref a=>cases y with
  |int j=>exact Cj pins s σ H _ _ v u Q I rx ry h
  |_=>exact (show False from h).elim
 |_=>exact (show False from h).elim
theorem aQ:dy X (compareOp .Eq) Am:=DL
theorem js:dy X (compareOp .NotEq) CD:=CW
noncomputable def Ea(K:LA)(neg:Bool):R2:=λx y H Q=>match y with
 |.str j=>∃i,x=.str i/\Q (.bl (if neg then !(!(Builtin.Str.occurrences j i 0 j.length 1).isEmpty) else !(Builtin.Str.occurrences j i 0 j.length 1).isEmpty)) H
 |.ref p=>match sq H p with
  |some (_,xs)=>dk x=true/\xs.all dk=true/\Q (.bl (if neg then !pY x xs else pY x xs)) H
  |none=>∃xs,bz K H p xs/\dk x=true/\xs.all dk=true/\Q (.bl (if neg then !pY x xs else pY x xs)) H
 |_=>False
theorem AX{neg:Bool}{x:V}{Q:VK}(h:Ea K neg x (.ref p) H Q):ER K neg x (.ref p) H Q:=by
 unfold Ea at h;simp only at h
 split at h
 ·rename_i xs e;exact⟨p,_,rfl,Cf e,h.1,h.2.1,h.2.2⟩
 ·obtain⟨xs,hq,h⟩:=h;exact⟨p,xs,rfl,.inr hq,h.1,h.2.1,h.2.2⟩
theorem AY{k:Nat}(hu:k<cLine):dy X (compareOp .In) (Ea X.K false):=by
 intro pins s σ H x y v u Q I rx ry h
 match y,h with
 |.str j,h =>
  obtain⟨i,rfl,h'⟩:=h;exact rT pins s σ H _ _ v u Q I rx ry ⟨i,j,rfl,rfl,h'⟩
 |.ref p,h=>exact kM pins s σ H _ _ v u Q I rx ry (AX h)
noncomputable def CM(K:LA):R2:=λx y H Q=>match x,y with
 |.str z,.int i=>z.length<=sizeLine/\(match bV z.cps.toList i with|some c=>Q (.str ⟨#[c]⟩) H|none=>False)
 |.ref p,.int i=>match sq H p with
  |some (_,xs)=>(match bV xs i with|some v=>Q v H|none=>False)
  |none=>∃xs v,bz K H p xs/\bV xs i=some v/\Q v H
 |_,_=>False
theorem Ga{k:Nat}(hu:k<cLine):r_ X (CM X.K):=by
 intro value slice pins s σ H x y v u Q I rx ry h hs;refine Cm value slice pins s σ H x y v u Q I rx ry ?_ hs
 cases x with
 |str z=>cases y with
  |int i =>
   obtain⟨hz,h⟩:=h
   split at h
   ·rename_i c e;exact .inr (.inr ⟨z,i,c,rfl,rfl,hz,e,h⟩)
   ·exact h.elim
  |_=>exact (show False from h).elim
 |ref p=>cases y with
  |int i =>
   unfold CM at h;simp only at h
   split at h
   ·rename_i b xs e
    split at h
    ·rename_i w' e'
     cases b with
     |true=>exact .inl ⟨p,xs,i,w',rfl,rfl,fO e,e',h⟩
     |false=>exact .inr (.inl ⟨p,xs,i,w',rfl,rfl,fB e,e',h⟩)
    ·exact h.elim
   ·obtain⟨xs,w',hq,e',h⟩:=h;exact .inr (.inl ⟨p,xs,i,w',rfl,rfl,hq,e',h⟩)
  |_=>exact (show False from h).elim
 |_=>exact (show False from h).elim
noncomputable def EC(K:LA):V->Option Int->Option Int->Hp->VK->Prop:=λx lo hi H Q=>match x with
 |.ref p=>match sq H p with
  |some (true,xs)=>∀q,H q=none->Q (.ref q) (upd H q (.lst (iE xs lo hi)))
  |some (false,xs)=>uP K (.ref p) lo hi H Q
  |none=>uP K (.ref p) lo hi H Q
 |_=>False
theorem xP:Aq X (EC X.K):=by
 intro pins s σ H x v vl vu lo hi sl Q I rx hs pl pu h
 match x,h with
 |.ref p,h =>
  unfold EC at h;simp only at h
  split at h
  ·rename_i xs e;exact qR pins s σ H _ v vl vu lo hi sl Q I rx hs pl pu ⟨p,xs,rfl,fO e,h⟩
  ·exact xn pins s σ H _ v vl vu lo hi sl Q I rx hs pl pu h
  ·exact xn pins s σ H _ v vl vu lo hi sl Q I rx hs pl pu h
noncomputable def zc:V->V->V->Hp->(Hp->Prop)->Prop:=λo i v H Q=>match o,i with
 |.ref p,.int k=>match H p with
  |some (.lst xs)=>(match mf xs.length k with|some j=>Q (upd H p (.lst (xs.set j v)))|none=>False)
  |_=>False
 |_,_=>False
theorem uset:Bh X zc:=by
 intro pins s σ H o i v ov iv u Q I ro ri rv h
 cases o with
 |ref p=>cases i with
  |int k =>
   unfold zc at h;simp only at h
   split at h
   ·rename_i xs e
    split at h
    ·rename_i j e';exact set_list pins s σ H _ _ v ov iv u Q I ro ri rv ⟨p,xs,k,j,rfl,rfl,e,e',h⟩
    ·exact h.elim
   ·exact h.elim
  |_=>exact (show False from h).elim
 |_=>exact (show False from h).elim
noncomputable def u_(K:LA):List V->Hp->VK->Prop:=λxs H Q=>match xs with
 |[.str y]=>y.length<=sizeLine/\Q (.int y.length) H
 |[.ref p]=>match sq H p with
  |some (_,ys)=>Q (.int ys.length) H
  |none=>∃ys,bz K H p ys/\Q (.int ys.length) H
 |_=>False
theorem rM:b6 X (.builtin "len") (u_ X.K):=by
 intro pins s σ H xs us Q I r h;rcases xs with _|⟨x,_|⟨y,xs⟩⟩
 ·exact (show False from h).elim
 rotate_left
 ·cases x<;>exact (show False from h).elim
 cases x with
 |str y=>exact gY pins s σ H _ us Q I r ⟨.str y,_,rfl,⟨h.1,rfl⟩,h.2⟩
 |ref p =>
  unfold u_ at h;simp only at h
  split at h
  ·rename_i b ys e;refine gY pins s σ H _ us Q I r ⟨.ref p,ys.length,rfl,?_,h⟩
   cases b with
   |true=>exact .inl ⟨ys,fO e,rfl⟩
   |false=>exact .inr ⟨ys,fB e,rfl⟩
  ·obtain⟨ys,hq,h⟩:=h;exact gY pins s σ H _ us Q I r ⟨.ref p,ys.length,rfl,.inr ⟨ys,hq,rfl⟩,h⟩
 |_=>exact (show False from h).elim
noncomputable def De:List V->Hp->VK->Prop:=λxs H Q=>match xs with
 |[.int i,.int j]=>Q (.int (if j<i then j else i)) H
 |_=>False
theorem sm(hc:X.calm=true):b6 X (.builtin "min") De:=by
 intro pins s σ H xs us Q I r h;rcases xs with _|⟨x,_|⟨y,_|⟨z,xs⟩⟩⟩
 ·exact (show False from h).elim
 ·cases x<;>exact (show False from h).elim
 ·cases x with
  |int i=>cases y with
   |int j=>exact sC hc pins s σ H _ us Q I r ⟨i,j,rfl,h⟩
   |_=>exact (show False from h).elim
  |_=>exact (show False from h).elim
 ·cases x with
  |int i=>cases y<;>exact (show False from h).elim
  |_=>exact (show False from h).elim
noncomputable def Ee:List V->Hp->VK->Prop:=λxs H Q=>match xs with
 |[.int i,.int j]=>Q (.int (if j > i then j else i)) H
 |_=>False
theorem sF(hc:X.calm=true):b6 X (.builtin "max") Ee:=by
 intro pins s σ H xs us Q I r h;rcases xs with _|⟨x,_|⟨y,_|⟨z,zs⟩⟩⟩
 ·exact (show False from h).elim
 ·cases x<;>exact (show False from h).elim
 ·cases x with
  |int i=>cases y with
   |int j=>exact tO hc pins s σ H _ us Q I r ⟨i,j,rfl,h⟩
   |_=>exact (show False from h).elim
  |_=>exact (show False from h).elim
 ·cases x<;>first|exact (show False from h).elim | (cases y<;>exact (show False from h).elim)
noncomputable def mq(K:LA):List V->Hp->VK->Prop:=λxs H Q=>match xs with
 |[.ref p]=>match sq H p with
  |some (true,ys)=>∀l,H l=none->Q (.ref l) (upd H l (.tup ys))
  |some (false,_)=>Q (.ref p) H
  |none=>∃ys,bz K H p ys/\Q (.ref p) H
 |_=>False
theorem oh:b6 X (.type "tuple") (mq X.K):=by
 intro pins s σ H xs us Q I r h;rcases xs with _|⟨x,_|⟨y,xs⟩⟩
 ·exact (show False from h).elim
 rotate_left
 ·cases x<;>exact (show False from h).elim
 cases x with
 |ref p =>
  unfold mq at h;simp only at h
  split at h
  ·rename_i ys e;exact d_ pins s σ H _ us Q I r ⟨p,ys,rfl,.inl ⟨fO e,h⟩⟩
  ·rename_i ys e;exact d_ pins s σ H _ us Q I r ⟨p,ys,rfl,.inr ⟨fB e,h⟩⟩
  ·obtain⟨ys,hq,h⟩:=h;exact d_ pins s σ H _ us Q I r ⟨p,ys,rfl,.inr ⟨hq,h⟩⟩
 |_=>exact (show False from h).elim
noncomputable def Ec:List V->Hp->VK->Prop:=λxs H Q=>match xs with
 |[.int i]=>Q (.int i) H
 |[.bl k]=>Q (.int (if k=true then 1 else 0)) H
 |_=>False
theorem sR:b6 X (.type "int") Ec:=by
 intro pins s σ H xs us Q I r h;rcases xs with _|⟨x,_|⟨y,ys⟩⟩
 ·exact (show False from h).elim
 ·cases x with
  |int i=>exact kJ pins s σ H _ us Q I r (.inl ⟨i,rfl,h⟩)
  |bl k=>exact kJ pins s σ H _ us Q I r (.inr ⟨k,rfl,h⟩)
  |_=>exact (show False from h).elim
 ·cases x<;>exact (show False from h).elim
theorem sx(hc:X.calm=true):b6 X (.builtin "sum") (λxs H Q=>∃(p:Addr) (ns:List Int),xs=[.ref p]/\bY X.K H p (ns.map V.int)/\Q (.int ns.sum) H):=by
 intro pins s σ H xs us Q I r h;obtain⟨p,ns,rfl,hq,q⟩:=h;obtain⟨u,rfl,ru⟩:=vals1 r;cases ru;obtain⟨its,rv,pl,hz⟩:=I.list hq;have hi:=intsAre_of rv;obtain⟨xs,hx⟩:=hi.allInts.items;have hl':s.heap.IsList p (intItems xs):=by rw[<- hx];exact pl.isList
 refine sum_intListG (I.ok.hd hc) hl' λh' tk t' hk=>?_;have e1:ns=xs.toList.map (·.1):=by rw[<- nums_intItems,<- hx];exact hi.numsOf.symm
 have e2:preSum (numAt xs) xs.size=ns.sum:=by rw[preSum_eq,Hs (by simp),e1]
 rw[e2];exact⟨.int ns.sum,H,I.kept hk,⟨_,rfl⟩,q⟩
noncomputable def Ce(H:Hp):V->Option String
 |.aP=>some "NoneType"
 |.bl _=>some "bool"
 |.int _=>some "int"
 |.str _=>some "str"
 |.ref a=>match H a with
  |some (.lst _)=>some "list"
  |some (.tup _)=>some "tuple"
  |some (.dK _)=>some "dict"
  |_=>none
 |_=>none
theorem C7{x:V}(h:Ce H x=some t):gw K H x (.type t):=by
 unfold Ce at h
 split at h
 ·cases h;exact .aP
 ·cases h;exact .bl _
 ·cases h;exact .int _
 ·cases h;exact .str _
 ·split at h
  ·rename_i e;cases h;exact .lst e
  ·rename_i e;cases h;exact .tup e
  ·rename_i e;cases h;exact .dK e
  ·cases h
 ·cases h
noncomputable def gL(t c:String):Bool:=decide (t=c) || (t == "bool" && c == "int")
theorem uT{c:String}(ht:t∈["NoneType","bool","int","str","list","tuple","dict"])(hc:c∈["bool","int","str","list","tuple","dict"]):PySem.W.kitOne K (.type t) (.type c)=some (gL t c):=by
 simp only[Gs,GI,Hn] at ht hc;rcases ht with rfl|rfl|rfl|rfl|rfl|rfl|rfl<;>rcases hc with rfl|rfl|rfl|rfl|rfl|rfl<;>rfl
theorem BO{x:V}(h:Ce H x=some t):t∈["NoneType","bool","int","str","list","tuple","dict"]:=by
 unfold Ce at h
 split at h
 ·cases h;decide
 ·cases h;decide
 ·cases h;decide
 ·cases h;decide
 ·split at h
  ·cases h;decide
  ·cases h;decide
  ·cases h;decide
  ·cases h
 ·cases h
noncomputable def B9(K:LA):List V->Hp->VK->Prop:=λxs H Q=>match xs with
 |[x,.ty T]=>T∈["bool","int","str","list","tuple","dict"]/\match Ce H x with
  |some t=>Q (.bl (gL t T)) H
  |none=>∃t b,gw K H x t/\PySem.W.kitOne K t (.type T)=some b/\Q (.bl b) H
 |_=>False
theorem si:b6 X (.builtin "isinstance") (B9 X.K):=by
 intro pins s σ H xs us Q I r h;rcases xs with _|⟨x,_|⟨y,_|⟨z,xs⟩⟩⟩
 ·exact (show False from h).elim
 ·exact (show False from h).elim
 rotate_left
 ·cases y<;>exact (show False from h).elim
 cases y with
 |ty T =>
  obtain⟨u,w',rfl,r1,r2⟩:=vals2 r;cases r2;obtain⟨hT,h⟩:=h
  split at h
  ·rename_i t e;exact kc I r1 (C7 e) (uT (BO e) hT) λtk=>⟨.bl _,H,I.tok _,rfl,h⟩
  ·obtain⟨t,b,ty,k,q⟩:=h;exact kc I r1 ty k λtk=>⟨.bl b,H,I.tok _,rfl,q⟩
 |_=>exact (show False from h).elim
theorem BX{T:String}{pos:Pos}(hg:Gl X x)(hm:X.mg x=none)(hv:bootBuiltins x=some (.type T))(hn:autoParam (x≠"__name__") ℜ1)(hd:autoParam ((x ==("__debug__":Str))=false) ℜ1):PE X (.Name x pos) (tC (.ty T)):=yX hg hm hv rfl hn hd
end
section
variable {X:Cx} {e:Expr} {te:TE}
theorem qU(p:Nat->Bool):∀(l:List Nat),l.drop (l.takeWhile p).length=l.dropWhile p
 |[]=>rfl
 |x::l=>by
  by_cases h:p x
  ·simp[JY,Jh,h,qU p l]
  ·simp[JY,Jh,h]
end
open AutoSeq1 (wpAny_loadPart')
section
variable {prog:Program} {w:World} {A:Around} {E:Value->Shared->Prop} {s:Shared}
theorem iI{l:Addr}{x:Value}(hit:s.heap.IsTupleIter it l i)(hl:s.heap.IsTuple l items)(hx:items[i]?=some x)
  (hQ:∀h',h'.IsTupleIter it l (i+1)->Heap.SameBut it s.heap h'->Q x {s with heap:=h'}):wpAny (model prog w) A (Builtin.SmallTypes.nextOf (.ref it)) Q E s:=by
 obtain⟨o,ho,hc,hd⟩:=id hit;obtain⟨ol,hol,_,nl,hdl⟩:=hl;unfold Builtin.SmallTypes.nextOf;refine Gg (Hw (name:=Str.ofString "__next__") hit.typeIs Ir (Hz Ir hit.typeIs Ki ?_ (Ka _)));show wpAny _ _ (field (.ref it) 0 >>= _) _ _ s;refine Gg (HU ho hd (x:=.ref l) rfl ?_);show wpAny _ _ (if (Value.ref l == Value.none)=true then _ else _) _ _ s
 rw[Gj (show ¬ ((Value.ref l == Value.none)=true) from Gx)];show wpAny _ _ (field (.ref it) 1 >>= _) _ _ s;refine Gg (HU ho hd (x:=.int i 0) rfl ?_);show wpAny _ _ (seqItems? (.ref l) >>= _) _ _ s;refine Gg (HY hol hdl ?_);simp only[GW,hx];refine Gg (Kb ho hd (by simp) (Gq ⟨x,rfl,Gq (hQ _ ?_ (HQ ..))⟩))
 exact⟨_,JD _ ho (Obj.isFreed_of_fields (Jo hd _)),(Obj.cls_mapFields ..).trans hc,by rw[Jo hd];simp[rawInt]⟩
theorem jw{l:Addr}(hh:A.handled=none)(hit:s.heap.IsTupleIter it l i)(hl:s.heap.IsTuple l items)(hx:items[i]?=none)
  (hE:∀h' e,Heap.ExtBut it s.heap h'->(∃o,h'.get? e=some o/\o.cls=.type "StopIteration")->E (.ref e) {s with heap:=h'}):wpAny (model prog w) A (Builtin.SmallTypes.nextOf (.ref it)) Q E s:=by
 obtain⟨o,ho,hc,hd⟩:=id hit;obtain⟨ol,hol,_,nl,hdl⟩:=hl;unfold Builtin.SmallTypes.nextOf;refine Gg (Hw (name:=Str.ofString "__next__") hit.typeIs Ir (Hz Ir hit.typeIs Ki ?_ (Ka _)));show wpAny _ _ (field (.ref it) 0 >>= _) _ _ s;refine Gg (HU ho hd (x:=.ref l) rfl ?_);show wpAny _ _ (if (Value.ref l == Value.none)=true then _ else _) _ _ s
 rw[Gj (show ¬ ((Value.ref l == Value.none)=true) from Gx)];show wpAny _ _ (field (.ref it) 1 >>= _) _ _ s;refine Gg (HU ho hd (x:=.int i 0) rfl ?_);show wpAny _ _ (seqItems? (.ref l) >>= _) _ _ s;refine Gg (HY hol hdl ?_);simp only[GW,hx];refine Gg (Ku (Gg (Kb ho hd (by simp) ?_)))
 show wpAny _ _ (newExc (.type "StopIteration") [] >>= _) _ _ _;refine Gg ?_;simp only[newExc,newTuple];refine Gg (HN ?_ (by size_fits))
 refine Gg (m:=firstArgMember _ _) (wpAny_of_eq (a:=Value.none) (by first|rfl | (simp only[firstArgMember];rfl)) ?_)
 refine HN ?_ (by size_fits)
 simp only[raiseNew];refine Gg (wpAny_handled ?_)
 first|rw[show A.in1.handled=none from hh]|rw[hh]
 refine Gg (Gq (wpAny_throw ?_));exact hE _ _ (((HQ ..).extBut.push _).push _) ⟨_,Gw _ rfl,rfl⟩
theorem h_(hh:A.handled=none)(it l:Addr)(hne:l≠it)(items:Array Value):
  Draws prog w A it [it,l] items.size (λi v=>items[i]?=some v) (λi h=>h.IsTupleIter it l i/\h.IsTuple l items) where
 live:=λ_ _ st=>let ⟨o,ho,_⟩:=st.1;⟨o,ho⟩
 frame:=λ_ _ _ st hk=>⟨let ⟨o,e,r⟩:=st.1;⟨o,hk it (by simp) o e,r⟩,let ⟨o,e,r⟩:=st.2;⟨o,hk l (by simp) o e,r⟩⟩
 item:=λi s Q E hi st hQ=>by
  refine iI st.1 st.2 (x:=items[i]) (by simp[hi]) λh' hit' hs'=>?_
  exact hQ _ h' s.toks (by simp[hi]) ⟨hit',st.2.extBut hs'.extBut hne⟩ hs'
 done:=λs Q E st hE=>jw hh st.1 st.2 (by simp) hE
theorem ji(l:Addr)(items:Array Value)(n:Nat)(dct:Option Addr)(sl:Array (Option Value)):
  Meets (Builtin.«enumerate.__new__» ⟨[.type "enumerate",.ref l],[]⟩) (λ_ R s=>s.heap.get? l=some {cls:=.type "tuple",dict:=dct,data:=.seq items n,slots:=sl} /\
   R (.ok (.ret (.ref (s.heap.push {cls:=.type "tuple_iterator",data:=.fields #[.ref l,.int 0 0]}).objs.size)))
    {s with heap:=(s.heap.push {cls:=.type "tuple_iterator",data:=.fields #[.ref l,.int 0 0]}).push {cls:=.type "enumerate",data:=.fields #[.none,.bool false,.ref s.heap.objs.size,rawInt 0,.none,.none]}}):=
 .of_wp λprog w A R s h=>by
  obtain⟨hp,g,d,tk,os⟩:=s;obtain⟨hl,h⟩:=h;have hsub:=sub_enumerate;have hL:Heap.IsTuple (Shared.heap ⟨hp,g,d,tk,os⟩) l items:=⟨_,hl,rfl,n,rfl⟩;wp_walk using KU hl;refine wpAny_stack_any λst=>Gq ?_;split
  ·rename_i c _ _ _ _ _
   cases (c == Value.type "enumerate")<;>(wp_walk using KU hl,HI hL;exact⟨_,rfl,h⟩)
  ·wp_walk using KU hl,HI hL;exact⟨_,rfl,h⟩
theorem jY{l:Addr}(hL:s.heap.IsTuple l items)
  (h:∀h',IsEnum h' (s.heap.objs.size+1) s.heap.objs.size 0 .none->h'.IsTupleIter s.heap.objs.size l 0->h'.objs.size=s.heap.objs.size+2 ->
   (∀b o,s.heap.get? b=some o->h'.get? b=some o)->Q (.ref (s.heap.objs.size+1)) {s with heap:=h'}) :
  wpAny (model prog w) A (call (.type "enumerate") [.ref l]) Q E s:=by
 obtain⟨⟨c,dct,dt,sl⟩,hl,hc,n,hd⟩:=hL
 replace hc:c=.type "tuple":=hc
 replace hd:dt=.seq items n:=hd
 subst hc hd;refine Lu F.called_enumerate (by decide) (F.typeCall_enumerate_1 _) (F.newCall_enumerate_1 _) (λobj=>F.args_object_init_2 obj _) F.entry_enumerate_new (ji l items n dct sl) ⟨hl,?_⟩
 have hz:(s.heap.push {cls:=.type "tuple_iterator",data:=.fields #[.ref l,.int 0 0]}).objs.size=s.heap.objs.size+1:=HW ..;show _/\_;rw[hz];have he:IsEnum ((s.heap.push {cls:=.type "tuple_iterator",data:=.fields #[.ref l,.int 0 0]}).push {cls:=.type "enumerate",data:=.fields #[.none,.bool false,.ref s.heap.objs.size,rawInt 0,.none,.none]}) (s.heap.objs.size+1) s.heap.objs.size 0 .none:=by
  have:=Gw (s.heap.push {cls:=.type "tuple_iterator",data:=.fields #[.ref l,.int 0 0]}) (o:={cls:=.type "enumerate",data:=.fields #[.none,.bool false,.ref s.heap.objs.size,rawInt 0,.none,.none]}) rfl;rw[hz] at this;exact this
 refine⟨⟨_,he,rfl⟩,h _ he ⟨_,Gh _ (Gw _ rfl),rfl,rfl⟩ (by rw[HW,hz]) λb o x=>Gh _ (Gh _ x)⟩
end
section
variable {X:Cx} {pins:List (Addr×Obj)} {σ:St} {H:Hp} {s:Shared} {h':Heap}
theorem Inv.turns{t':Nat}(I:Inv X pins σ H s)(hf:∀b∈fp,jn X pins H b)(k:∀b o,b∉fp->s.heap.get? b=some o->h'.get? b=some o):Inv X pins σ H {s with heap:=h',toks:=t'}:=by
 have nf:∀b u,H b=some u->b∉fp:=λb u e z=>by rw[(hf b z).1] at e;cases e
 refine I.step (g':=s.gens) (d':=s.drawn) (ch:=fp) (λb hb=>?_) (λb o _ _ hc e _=>k b o hc e) (λb o _ _ hc e _=>⟨o.slots,k b o hc e⟩) (λ_ _ _ _ n=>n)
  (λb o hc e=>⟨o,k b o hc e⟩) (λ_ _ e=>e) (λ_ _ _ e=>e) (λb ps e=>⟨#[],by rw[e];simp⟩) (λm hm=>?_) (λb u e=>?_) I.bare
 ·obtain⟨_,g1,g2,g3,g4,g5⟩:=hf b hb;exact⟨g3,g1,g4,g5⟩
 ·obtain⟨o,es,ep,ho,r⟩:=hm;exact⟨o,es,ep,k _ o (λz=>(hf _ z).2.1 rfl) ho,r⟩
 ·refine (I.aU b u e).me (λc v hc q=>k c v ?_ q) (λ_ q=>q) (λ_ _ q=>q) λ_ _ _ q=>q;rcases hc with z|z
  ·rw[z];exact nf b u e
  ·exact nf c _ z
theorem Inv.lq{t':Nat}(I:Inv X pins σ H s)(hf:∀b∈fp,jn X pins H b)(hp:s.heap.objs.size<=p)(k:∀b o,b∉fp->s.heap.get? b=some o->h'.get? b=some o)
  (new:bf X.prog X.w (upd H p o) h' p o):Inv X pins σ (upd H p o) {s with heap:=h',toks:=t'}:=by
 have nf:∀b u,H b=some u->b∉fp:=λb u e z=>by rw[(hf b z).1] at e;cases e
 have fr:H p=none:=I.aU.fresh hp;have np:∀b u,H b=some u->b≠p:=λb u e=>ai e fr;have ne:∀b o,s.heap.get? b=some o->b≠p:=λb o e z=>by rw[z] at e;exact absurd (GK (Gz e) hp) (Ic _)
 refine I.step (g':=s.gens) (d':=s.drawn) (ch:=fp) (λb hb=>?_) (λb o _ _ hc e _=>k b o hc e) (λb o _ _ hc e _=>⟨o.slots,k b o hc e⟩) (λb o _ e n=>by rw[ae (ne b o e)];exact n)
  (λb o hc e=>⟨o,k b o hc e⟩) (λb xs e=>by rw[ae (np b _ e)];exact e) (λb o u e=>by rw[ae (np b _ e)];exact e) (λb ps e=>⟨#[],by rw[ae (np b _ e),e];simp⟩) (λm hm=>?_) (λb u e=>?_) I.bare
 ·obtain⟨_,g1,g2,g3,g4,g5⟩:=hf b hb;exact⟨g3,g1,g4,g5⟩
 ·obtain⟨o,es,ep,ho,r⟩:=hm;exact⟨o,es,ep,k _ o (λz=>(hf _ z).2.1 rfl) ho,r⟩
 ·by_cases hb:b=p
  ·subst hb;rw[aa] at e;cases e;exact new
  ·rw[ae hb] at e;refine (I.aU b u e).me (λc v hc q=>k c v ?_ q) (λc q=>by rw[ae (np c _ q)];exact q) (λc xs q=>by rw[ae (np c _ q)];exact q) λc _ _ q=>by rw[ae (np c _ q)];exact q
   rcases hc with z|z
   ·rw[z];exact nf b u e
   ·exact nf c _ z
end
noncomputable def getL(K:LA)(a:Addr):Nat->Hp->V->Prop:=λi H x=>∃xs,bY K H a xs/\xs[i]?=some x
noncomputable def Fq(K:LA)(a:Addr):Nat->Hp->V->Prop:=λi H x=>∃xs,bz K H a xs/\xs[i]?=some x
noncomputable def Fo(K:LA)(a:Addr):Nat->Hp->Prop:=λi H=>∃xs,bY K H a xs/\xs.length=i
noncomputable def Fv(K:LA)(a:Addr):Nat->Hp->Prop:=λi H=>∃xs,bz K H a xs/\xs.length=i
noncomputable def ur(K:LA)(a:Addr):It:=
 ⟨λi H=>∃x,Fq K a i H x,λi H x H'=>∃p y,(∀xs,bz K H a xs->xs[i]?=some y)/\H p=none/\x=.ref p/\H'=upd H p (.tup [.int i,y]),Fv K a⟩
theorem oW{tk:Nat}(a it e:Addr)(hne:e≠it):Turn P w K (.Tuple es tk tp) (ur K a) [e,it] e (λi h=>(∃old,IsEnum h e it i old)/\h.IsTupleIter it a i) where
 mem:=by simp
 obj:=λi h st b hb=>by
  obtain⟨⟨old,he⟩,o,eo,c,d⟩:=st;rcases Gs.mp hb with z|z
  ·subst z;exact⟨_,he,λv z=>by cases z⟩
  ·have z:b=it:=by simpa using z
   subst z;exact⟨o,eo,λv z=>by rw[d] at z;cases z⟩
 keep:=λi h h' st k=>by
  obtain⟨⟨old,he⟩,o,eo,r⟩:=st;exact⟨⟨old,k e (by simp) _ he⟩,o,k it (by simp) o eo,r⟩
 item:=by
  intro X hP hw hK hc i pins s σ H E I hf st hg;subst hP hw hK;obtain⟨x,xs,hq,hx⟩:=hg;obtain⟨⟨old,he⟩,hit⟩:=st;obtain⟨its,rv,p,hz⟩:=I.tuple hq;obtain⟨u,hu,ru⟩:=rv.get hx;obtain⟨g0,g1,g2,g3,g4,g5⟩:=hf e (by simp)
  obtain⟨f0,f1,f2,f3,f4,f5⟩:=hf it (by simp)
  have ht:s.heap.IsTuple a its.toArray:=p;have ha:a≠it:=by
   rintro rfl;obtain⟨o,e1,c1,_⟩:=hit;obtain⟨o',e2,c2,_⟩:=ht;rw[e1] at e2;cases e2;rw[c1] at c2;exact absurd (Value.type.inj c2) (by decide)
  have hea:e≠a:=by
   rintro rfl;obtain⟨o',e2,c2,_⟩:=ht;have e1:s.heap.get? e=some _:=he;rw[e1] at e2;cases e2;exact absurd (Value.type.inj c2) (by decide)
  have hi:i<its.toArray.size:=by
   have:=(Gm.mp hu).1
   simpa using this
  refine KL (h_ (A:=X.A.in1) (I.ok.hd hc) it a ha its.toArray) he ⟨hit,ht⟩ hi hne (by simp[hne,hea]) λx' h' tk' hP ho hs' hT hsz hk=>?_
  have ex:x'=u:=by
   have hP':its.toArray[i]?=some x':=hP;rw[Ho,hu] at hP';exact (Option.some.inj hP').symm
  subst ex;refine⟨.ref s.heap.objs.size,rfl,Ko ho λh2 he2 hs2=>?_⟩;have fr:H s.heap.objs.size=none:=I.aU.fresh (Gp _);have hle:e≠s.heap.objs.size:=GG (Gz he);have hT2:h2.get? s.heap.objs.size=some {cls:=.type "tuple",data:=.seq #[.int i tk',x']}:=(hs2.2 _ (HB hle)).trans hT;have I2:Inv X pins σ (upd H s.heap.objs.size (.tup [.int i,x])) {s with heap:=h2,toks:=tk'+1}:=by
   refine I.lq (fp:=[e,it]) hf (Gp _) (λb o hb eb=>?_) ⟨by show 2<=sizeLine;decide,[.int i tk',x'],.cons ⟨_,rfl⟩ (.cons ru .nil),⟨_,hT2,rfl,_,rfl,rfl⟩⟩
   have n1:b≠e:=λz=>hb (by simp[z])
   have n2:b≠it:=λz=>hb (by simp[z])
   exact (hs2.2 b n1).trans (hk b o n1 n2 eb)
  refine⟨.ref s.heap.objs.size,_,I2,rfl,⟨s.heap.objs.size,x,λys hy=>by rw[I.ip hy hq];exact hx,fr,rfl,rfl⟩,⟨⟨x',?_⟩,?_⟩,λb hb=>?_⟩
  ·have e:(((i+1:Nat)):Int)=(i:Int)+1:=by lia
   rw[e];exact he2
  ·obtain⟨o,e1,r⟩:=hs'.1;exact⟨o,(hs2.2 it (HB hne)).trans e1,r⟩
  ·have n:b≠s.heap.objs.size:=by
    rcases Gs.mp hb with z|z
    ·subst z;exact hle
    ·have z:b=it:=by simpa using z
     subst z;obtain⟨o,e1,_⟩:=hit;exact GG (Gz e1)
   rw[ae n];exact (hf b hb).1
 done:=by
  intro X hP hw hK hc i pins s σ H E I hf st hg;subst hP hw hK;obtain⟨xs,hq,hx⟩:=hg;obtain⟨⟨old,he⟩,hit⟩:=st;obtain⟨its,rv,p,hz⟩:=I.tuple hq;have ht:s.heap.IsTuple a its.toArray:=p;have ha:a≠it:=by
   rintro rfl;obtain⟨o,e1,c1,_⟩:=hit;obtain⟨o',e2,c2,_⟩:=ht;rw[e1] at e2;cases e2;rw[c1] at c2;exact absurd (Value.type.inj c2) (by decide)
  have hl:=rv.length;have hsz:its.toArray.size=i:=by simp;lia
  refine Lb (h_ (A:=X.A.in1) (I.ok.hd hc) it a ha its.toArray) he (by rw[hsz];exact⟨hit,ht⟩) λh' eb=>⟨rfl,?_⟩
  exact I.turns (t':=s.toks) hf λb o hb e1=>eb b o (λz=>hb (by simp[z])) e1
 self:=λA i s Q E st h=>by
  obtain⟨⟨old,he⟩,_⟩:=st;exact Jq he h
section
variable {X:Cx} {es:List Expr} {tk:Nat} {tp:Pos}
noncomputable def nG(K:LA)(ta:TA):TI:=λσ H R=>ta σ H λvs H1=>∃a,vs=[.ref a]/\(∃xs,bz K H1 a xs)/\R (ur K a) H1
theorem ya{p pos:Pos}(hg:Gl X "enumerate")(hm:X.mg "enumerate"=none)(ha:PA X [e] ta)(h1:autoParam (fo e=true) ℜ0)(hv:autoParam (bootBuiltins "enumerate"=some (.type "enumerate")) ℜ6):
  PI X (.Tuple es tk tp) (.Call (.Name "enumerate" p) [e] [] pos) (nG X.K ta):=by
 intro pins s σ H R I h;refine Call_ (e_ I hg hm hv (Hv (bJ (ha pos pins s σ H _ I h) λus s1 hq1=>?_) (cS h1) rfl));obtain⟨vs,H1,I1,r1,q1⟩:=hq1;obtain⟨a,e,⟨xs,hq⟩,q⟩:=q1;subst e;obtain⟨u,rfl,ru⟩:=vals1 r1;cases ru;obtain⟨its,rv,pt,hz⟩:=I1.tuple hq;refine jY (show s1.heap.IsTuple a its.toArray from pt) λh' he hit hsz hk=>?_;refine Jq he ?_;have I2:Inv X pins σ H1 {s1 with heap:=h'}:=I1.kept (t':=s1.toks) hk
 refine⟨s1.heap.objs.size+1,[s1.heap.objs.size+1,s1.heap.objs.size],_,_,H1,rfl,I2,oW a s1.heap.objs.size (s1.heap.objs.size+1) (HR (J7 _)),⟨⟨_,he⟩,hit⟩,λb hb=>?_,q⟩;have hb':s1.heap.objs.size<=b:=by
  rcases Gs.mp hb with z|z
  ·rw[z];exact HD _
  ·have z:b=s1.heap.objs.size:=by simpa using z
   rw[z];exact Gp _
 exact I1.lg hb' (I1.aU.fresh hb')
noncomputable def vK(K:LA)(tl:TE):TI:=λσ H R=>tl σ H λx H1=>match x with
 |.ref a=>match sq H1 a with
  |some (true,_)=>R (xc K a) H1
  |some (false,_)=>R (tL K a) H1
  |none=>(∃xs,bz K H1 a xs)/\R (tL K a) H1
 |_=>False
theorem Bs{l:Expr}(hl:PE X l tl):PI X tg l (vK X.K tl):=by
 intro pins s σ H R I h;refine bJ (hl pins s σ H _ I h) λv s1 hq2=>?_;obtain⟨x,H1,I1,r1,q1⟩:=hq2;obtain⟨a,rfl,q⟩:∃a,x=V.ref a/\(((∃xs,bY X.K H1 a xs)/\R (xc X.K a) H1)\/((∃xs,bz X.K H1 a xs)/\R (tL X.K a) H1)):=by
  match x,q1 with
  |.ref a,q1 =>
   simp only at q1
   split at q1
   ·rename_i xs e;exact⟨a,rfl,.inl ⟨⟨xs,fO e⟩,q1⟩⟩
   ·rename_i xs e;exact⟨a,rfl,.inr ⟨⟨xs,fB e⟩,q1⟩⟩
   ·exact⟨a,rfl,.inr q1⟩
 cases r1;rcases q with ⟨⟨xs,hq⟩,q⟩|⟨⟨xs,hq⟩,q⟩
 ·obtain⟨its,rv,p,hz⟩:=I1.list hq;refine HP p.isList ?_;refine⟨s1.heap.objs.size,[s1.heap.objs.size],_,_,H1,rfl,I1.kept (t':=s1.toks) λb o e=>Gh _ e,km a _,⟨_,Gw _ rfl,rfl,rfl⟩,λb hb=>?_,q⟩;have e:b=s1.heap.objs.size:=by simpa using hb
  subst e;exact I1.lg (Gp _) (I1.aU.fresh (Gp _))
 ·obtain⟨its,rv,p,hz⟩:=I1.tuple hq;refine HI (show s1.heap.IsTuple a its.toArray from p) ?_;refine⟨s1.heap.objs.size,[s1.heap.objs.size],_,_,H1,rfl,I1.kept (t':=s1.toks) λb o e=>Gh _ e,jz a _,⟨_,Gw _ rfl,rfl,rfl⟩,λb hb=>?_,q⟩;have e:b=s1.heap.objs.size:=by simpa using hb
  subst e;exact I1.lg (Gp _) (I1.aU.fresh (Gp _))
end
noncomputable def qk(J:It)(g:TG)(tb:TS)(D:Ends)(σ:St)(H:Hp):Prop:=∃W:Nat->Nat->St->Hp->Prop,(∃m,W 0 m σ H)/\∀i m σ H,W i m σ H ->
 (J.stop i H/\D.nx σ H)\/(J.go i H/\∃N:St->Hp->Prop,(∀σ' H',N σ' H'->∃m',m'<m/\W (i+1) m' σ' H')/\∀x H',J.Ai i H x H'->g x σ H' λσ2 H2=>tb {D with nx:=N,ct:=N,bk:=D.nx} σ2 H2)
theorem xU(wi:TI)(g:TG)(tb:TS)(D:Ends)(σ:St)(H:Hp):A1 wi g tb D σ H=wi σ H λJ H1=>qk J g tb D σ H1:=rfl
noncomputable def j_(J:It)(k:Nat)(g:TG)(tc:TT)(te:TE)(Q:VK)(σ:St)(H1:Hp):Prop:=∀D,H1 D=none ->
 ∃W:Nat->Nat->List V->St->Hp->Prop,(∃m,W 0 m [] (List.replicate k none++σ) (upd H1 D (.lst [])))/\∀i m ys σ' H',W i m ys σ' H'->H' D=some (.lst ys) /\
  ((J.stop i H'/\Q (.ref D) H')\/(J.go i H'/\ys.length<sizeLine/\∀x H2,J.Ai i H' x H2->g x σ' H2 λσ3 H3=>tc σ3 H3 λb H4 =>
   if b=true then te σ3 H4 λv H5=>H5 D=some (.lst ys)/\∃m',m'<m/\W (i+1) m' (ys++[v]) σ3 (upd H5 D (.lst (ys++[v])))
   else ∃m',m'<m/\W (i+1) m' ys σ3 H4))
theorem uz(wi:TI)(k:Nat)(g:TG)(tc:TT)(te:TE)(σ:St)(H:Hp)(Q:VK):jd wi k g tc te σ H Q=wi σ H λJ H1=>j_ J k g tc te Q σ H1:=rfl
section
variable {K:LA} {g:TG} {tb:TS} {D:Ends} {σ:St} {H:Hp} {te:TE} {Q:VK}
theorem eM(Pv:Nat->St->Hp->Prop)(h0:Pv 0 σ H)(hl:∀i σ H,i<=xs.length->Pv i σ H->bY K H a xs)
  (hs:∀i x σ H,xs[i]?=some x->Pv i σ H->g x σ H λσ2 H2=>tb {D with nx:=Pv (i+1),ct:=Pv (i+1),bk:=D.nx} σ2 H2) (hd:∀σ H,Pv xs.length σ H->D.nx σ H):qk (xc K a) g tb D σ H:=vF Pv h0 hl hs hd
theorem jG(Pv:Nat->St->Hp->Prop)(h0:Pv 0 σ H)(hl:∀i σ H,i<=xs.length->Pv i σ H->bz K H a xs)
  (hs:∀i x σ H,xs[i]?=some x->Pv i σ H->g x σ H λσ2 H2=>tb {D with nx:=Pv (i+1),ct:=Pv (i+1),bk:=D.nx} σ2 H2) (hd:∀σ H,Pv xs.length σ H->D.nx σ H):qk (tL K a) g tb D σ H:=xK Pv h0 hl hs hd
theorem cf{n:Nat}(Pv:Nat->St->Hp->Prop)(h0:Pv 0 σ H)
  (hs:∀i σ H,i<n->Pv i σ H->g (.int (lo+i)) σ H λσ2 H2=>tb {D with nx:=Pv (i+1),ct:=Pv (i+1),bk:=D.nx} σ2 H2) (hd:∀σ H,Pv n σ H->D.nx σ H):qk (wW lo n) g tb D σ H:=tF Pv h0 hs hd
theorem qh(Pv:Nat->St->Hp->Prop)(h0:Pv 0 σ H)(hl:∀i σ H,i<=xs.length->Pv i σ H->bz K H a xs)
  (hs:∀i x σ H p,xs[i]?=some x->Pv i σ H->H p=none->g (.ref p) σ (upd H p (.tup [.int i,x])) λσ2 H2=>tb {D with nx:=Pv (i+1),ct:=Pv (i+1),bk:=D.nx} σ2 H2) (hd:∀σ H,Pv xs.length σ H->D.nx σ H) :
  qk (ur K a) g tb D σ H:=by
 refine⟨λi m σ H=>m=xs.length-i/\i<=xs.length/\Pv i σ H,⟨xs.length,by simp,GH _,h0⟩,?_⟩
 rintro i m σ H ⟨rfl,hi,p⟩;have q:=hl i σ H hi p;by_cases hlt:i<xs.length
 ·refine .inr ⟨⟨xs[i],xs,q,by simp[hlt]⟩,Pv (i+1),λσ' H' p'=>⟨xs.length-(i+1),by lia,rfl,hlt,p'⟩,λx H' y=>?_⟩
  obtain⟨b,y,hy,fr,rfl,rfl⟩:=y;exact hs i y σ H b (hy xs q) p fr
 ·have e:i=xs.length:=by lia
  subst e;exact .inl ⟨⟨xs,q,rfl⟩,hd σ H p⟩
theorem ng{n:Nat}(hn:n<=sizeLine)(Pv:Addr->Nat->List V->Hp->Prop)(h0:∀D,H D=none->Pv D 0 [] (upd H D (.lst [])))(hD:∀D i ys H',Pv D i ys H'->H' D=some (.lst ys)/\ys.length=i)
  (hs:∀D i ys H' (R:VK),i<n->Pv D i ys H'->(∀v H5,H5 D=some (.lst ys)->Pv D (i+1) (ys++[v]) (upd H5 D (.lst (ys++[v])))->R v H5)->te (some (.int (lo+i))::σ) H' R) (hd:∀D ys H',Pv D n ys H'->Q (.ref D) H') :
  j_ (wW lo n) 1 (bj 0) gi te Q σ H:=by
 intro D hD0;refine⟨λi m ys σ' H'=>m=n-i/\i<=n/\Pv D i ys H'/\∃o,σ'=o::σ,⟨n,by simp,GH _,h0 D hD0,none,rfl⟩,?_⟩
 rintro i m ys σ' H' ⟨rfl,hi,p,o,rfl⟩;obtain⟨hDi,hly⟩:=hD _ _ _ _ p;refine⟨hDi,?_⟩;by_cases hlt:i<n
 ·refine .inr ⟨hlt,by lia,λx H2 y=>?_⟩
  obtain⟨rfl,rfl⟩:=y;unfold bj gi;dsimp only;rw[if_pos rfl];exact hs D i ys H2 _ hlt p λv H5 q1 q2=>⟨q1,n-(i+1),by lia,rfl,hlt,q2,_,rfl⟩
 ·have e:i=n:=by lia
  subst e;exact .inl ⟨Gp _,hd D ys H' p⟩
theorem d9(hn:xs.length<=sizeLine)(Pv:Addr->Nat->List V->Hp->Prop)(h0:∀D,H D=none->Pv D 0 [] (upd H D (.lst [])))(hD:∀D i ys H',Pv D i ys H'->H' D=some (.lst ys)/\ys.length=i)
  (hl:∀D i ys H',Pv D i ys H'->bz K H' a xs)
  (hs:∀D i ys H' x (R:VK),xs[i]?=some x->Pv D i ys H'->(∀v H5,H5 D=some (.lst ys)->Pv D (i+1) (ys++[v]) (upd H5 D (.lst (ys++[v])))->R v H5)->te (some x::σ) H' R) (hd:∀D ys H',Pv D xs.length ys H'->Q (.ref D) H') :
  j_ (tL K a) 1 (bj 0) gi te Q σ H:=by
 intro D hD0;refine⟨λi m ys σ' H'=>m=xs.length-i/\i<=xs.length/\Pv D i ys H'/\∃o,σ'=o::σ,⟨xs.length,by simp,GH _,h0 D hD0,none,rfl⟩,?_⟩
 rintro i m ys σ' H' ⟨rfl,hi,p,o,rfl⟩;obtain⟨hDi,hly⟩:=hD _ _ _ _ p;have q:=hl _ _ _ _ p;refine⟨hDi,?_⟩;by_cases hlt:i<xs.length
 ·refine .inr ⟨⟨xs,xs[i],q,by simp[hlt]⟩,by lia,λx H2 y=>?_⟩
  obtain⟨rfl,y⟩:=y;unfold bj gi;dsimp only;rw[if_pos rfl];exact hs D i ys H2 x _ (y xs q) p λv H5 q1 q2=>⟨q1,xs.length-(i+1),by lia,rfl,hlt,q2,_,rfl⟩
 ·have e:i=xs.length:=by lia
  subst e;exact .inl ⟨⟨xs,q,Gp _⟩,hd D ys H' p⟩
end
namespace Ap
theorem pI(i:Nat)(σ:St)(H:Hp)(Q:VK):L2.pI i σ H Q=∃v,σ[i]?=some (some v)/\Q v H:=rfl
theorem tC(v:V)(σ:St)(H:Hp)(Q:VK):L2.tC v σ H Q=Q v H:=rfl
theorem tW(r:R2)(ta tb:TE)(σ:St)(H:Hp)(Q:VK):L2.tW r ta tb σ H Q=ta σ H λx H1=>tb σ H1 λy H2=>r x y H2 Q:=rfl
theorem DE(r:V->Hp->VK->Prop)(ta:TE)(σ:St)(H:Hp)(Q:VK):L2.DE r ta σ H Q=ta σ H λx H1=>r x H1 Q:=rfl
theorem iz(t:TE)(σ:St)(H:Hp)(Q:Bool->Hp->Prop):L2.iz t σ H Q=t σ H λx H'=>∃k,x=.bl k/\Q k H':=rfl
theorem Du(t:TT)(ta tb:TE)(σ:St)(H:Hp)(Q:VK):L2.Du t ta tb σ H Q=t σ H λc H1=>if c=true then ta σ H1 Q else tb σ H1 Q:=rfl
theorem vQ(t u:TT)(σ:St)(H:Hp)(Q:Bool->Hp->Prop):L2.vQ t u σ H Q=t σ H λc H1=>if c=true then u σ H1 Q else Q false H1:=rfl
theorem CJ(t u:TT)(σ:St)(H:Hp)(Q:Bool->Hp->Prop):L2.CJ t u σ H Q=t σ H λc H1=>if c=true then Q true H1 else u σ H1 Q:=rfl
theorem uq(t:TT)(σ:St)(H:Hp)(Q:Bool->Hp->Prop):L2.uq t σ H Q=t σ H λc H1=>Q (!c) H1:=rfl
theorem ny(ta tb:TE)(σ:St)(H:Hp)(Q:VK):L2.ny ta tb σ H Q=ta σ H λx H1=>∃c,x=.bl c/\if c=true then tb σ H1 Q else Q (.bl false) H1:=rfl
theorem jA(r r':R2)(ta tb tc:TE)(σ:St)(H:Hp)(Q:VK):L2.jA r r' ta tb tc σ H Q=ta σ H λx H1=>tb σ H1 λy H2=>r x y H2 λz H3=>∃k,z=.bl k/\(if k=true then tc σ H3 λw' H4=>r' y w' H4 Q else Q (.bl false) H3):=rfl
theorem tK(vs:List V)(σ:St)(H:Hp)(Q:List V->Hp->Prop):L2.tK vs σ H Q=Q vs H:=rfl
theorem iG(σ:St)(H:Hp)(Q:List V->Hp->Prop):L2.iG σ H Q=Q [] H:=rfl
theorem i7(ta:TE)(tr:TA)(σ:St)(H:Hp)(Q:List V->Hp->Prop):L2.i7 ta tr σ H Q=ta σ H λx H1=>tr σ H1 λxs H2=>Q (x::xs) H2:=rfl
theorem u6(t:TA)(σ:St)(H:Hp)(Q:VK):L2.u6 t σ H Q=t σ H λxs H1=>xs.length<=sizeLine/\∀p,H1 p=none->Q (.ref p) (upd H1 p (.tup xs)):=rfl
theorem wR(t:TA)(σ:St)(H:Hp)(Q:VK):L2.wR t σ H Q=t σ H λxs H1=>xs.length<=sizeLine/\∀p,H1 p=none->Q (.ref p) (upd H1 p (.lst xs)):=rfl
theorem g_(sp:Sp)(dvs:List V)(E:XK)(t:TA)(σ:St)(H:Hp)(Q:VK):L2.g_ sp dvs E t σ H Q=t σ H λvs H1=>sp (vs++dvs) H1 Q E:=rfl
theorem xI(r:List V->Hp->VK->Prop)(t:TA)(σ:St)(H:Hp)(Q:VK):L2.xI r t σ H Q=t σ H λvs H1=>r vs H1 Q:=rfl
theorem CI(K:LA)(T:String)(r:V->List V->Hp->VK->Prop)(to:TE)(t:TA)(σ:St)(H:Hp)(Q:VK):L2.CI K T r to t σ H Q=to σ H λx H1=>Er K T x H1/\t σ H1 λxs H2=>r x xs H2 Q:=rfl
theorem uu(K:LA)(T:String)(r:V->List V->Hp->VK->Prop)(to:TE)(σ:St)(H:Hp)(Q:VK):L2.uu K T r to σ H Q=to σ H λx H1=>Er K T x H1/\r x [] H1 Q:=rfl
theorem E4(r:V->Option Int->Option Int->Hp->VK->Prop)(te:TE)(tl th:TO)(σ:St)(H:Hp)(Q:VK):L2.E4 r te tl th σ H Q=te σ H λx H1=>tl σ H1 λl H2=>th σ H2 λu H3=>r x l u H3 Q:=rfl
theorem gR(σ:St)(H:Hp)(Q:Option Int->Hp->Prop):L2.gR σ H Q=Q none H:=rfl
theorem mZ(t:TE)(σ:St)(H:Hp)(Q:Option Int->Hp->Prop):L2.mZ t σ H Q=t σ H λx H1=>∃i,x=.int i/\Q (some i) H1:=rfl
theorem s_(t u:TS)(D:Ends)(σ:St)(H:Hp):L2.s_ t u D σ H=t {D with nx:=u D} σ H:=rfl
theorem lC(te:TE)(g:TG)(D:Ends)(σ:St)(H:Hp):L2.lC te g D σ H=te σ H λx H1=>g x σ H1 D.nx:=rfl
theorem bj(i:Nat)(v:V)(σ:St)(H:Hp)(Q:St->Hp->Prop):L2.bj i v σ H Q=Q (σ.set i (some v)) H:=rfl
theorem vD(to ti:TE)(t:yz)(v:V)(σ:St)(H:Hp)(Q:St->Hp->Prop):L2.vD to ti t v σ H Q=to σ H λo H1=>ti σ H1 λi H2=>t o i v H2 λH3=>Q σ H3:=rfl
theorem mI(K:LA)(n:Nat)(t:qV)(v:V)(σ:St)(H:Hp)(Q:St->Hp->Prop):L2.mI K n t v σ H Q=∃a xs,v=.ref a/\bz K H a xs/\xs.length=n/\t xs σ H Q:=rfl
theorem fw(t:TG)(u:qV)(v:V)(vs:List V)(σ:St)(H:Hp)(Q:St->Hp->Prop):L2.fw t u (v::vs) σ H Q=t v σ H λσ' H'=>u vs σ' H' Q:=by
 refine propext ⟨λhq1=>?_,λh=>⟨v,vs,rfl,h⟩⟩;obtain⟨a,b,e,h⟩:=hq1
 cases e;exact h
theorem mG(σ:St)(H:Hp)(Q:St->Hp->Prop):L2.mG [] σ H Q=Q σ H:=propext ⟨λh=>h.2,λh=>⟨rfl,h⟩⟩
theorem ve(te:TE)(D:Ends)(σ:St)(H:Hp):L2.ve te D σ H=te σ H D.rt:=rfl
theorem mW(te:TE)(D:Ends)(σ:St)(H:Hp):L2.mW te D σ H=te σ H λ_ H1=>D.nx σ H1:=rfl
theorem lL(c:TT)(t u:TS)(D:Ends)(σ:St)(H:Hp):L2.lL c t u D σ H=c σ H λb H1=>if b=true then t D σ H1 else u D σ H1:=rfl
theorem nQ(D:Ends)(σ:St)(H:Hp):L2.nQ D σ H=D.nx σ H:=rfl
theorem kA(ta:TA)(σ:St)(H:Hp)(R:It->Hp->Prop):L2.kA ta σ H R=ta σ H λvs H1=>∃j:Int,vs=[.int j]/\-(2^62)<=j/\j<2^62/\R (wW 0 j.toNat) H1:=rfl
theorem kR(ta:TA)(σ:St)(H:Hp)(R:It->Hp->Prop):L2.kR ta σ H R=ta σ H λvs H1=>∃i j:Int,vs=[.int i,.int j]/\(-(2^62)<=i/\i<2^62/\-(2^62)<=j/\j<2^62)/\R (wW i (j-i).toNat) H1:=rfl
theorem vK(K:LA)(tl:TE)(σ:St)(H:Hp)(R:It->Hp->Prop):L2.vK K tl σ H R=tl σ H λx H1=>match x with
 |.ref a=>match sq H1 a with
  |some (true,_)=>R (xc K a) H1
  |some (false,_)=>R (tL K a) H1
  |none=>(∃xs,bz K H1 a xs)/\R (tL K a) H1
 |_=>False:=rfl
theorem nG(K:LA)(ta:TA)(σ:St)(H:Hp)(R:It->Hp->Prop):L2.nG K ta σ H R=ta σ H λvs H1=>∃a,vs=[.ref a]/\(∃xs,bz K H1 a xs)/\R (ur K a) H1:=rfl
theorem rI(C:Int->Int->Prop)(g:Int->Int->V)(i j:Int)(H:Hp)(Q:VK):L2.rI C g (.int i) (.int j) H Q=(C i j/\Q (g i j) H):=by
 refine propext ⟨λhq2=>?_,λh=>⟨i,j,rfl,rfl,h⟩⟩;obtain⟨a,b,e1,e2,h⟩:=hq2
 cases e1;cases e2;exact h
theorem tB(g:Int->Int->V)(i j:Int)(H:Hp)(Q:VK):L2.tB g (.int i) (.int j) H Q=Q (g i j) H:=by
 refine propext ⟨λhq3=>?_,λh=>⟨i,j,rfl,rfl,h⟩⟩;obtain⟨a,b,e1,e2,h⟩:=hq3
 cases e1;cases e2;exact h
theorem rU(g:Int->V)(i:Int)(H:Hp)(Q:VK):L2.rU g (.int i) H Q=Q (g i) H:=by
 refine propext ⟨λhq4=>?_,λh=>⟨i,rfl,h⟩⟩;obtain⟨a,e1,h⟩:=hq4
 cases e1;exact h
theorem Ag(K:LA)(i j:Int)(H:Hp)(Q:VK):sG K (.int i) (.int j) H Q=Q (.int (i+j)) H:=rfl
theorem Di(K:LA)(i j:Str)(H:Hp)(Q:VK):sG K (.str i) (.str j) H Q=(i.length+j.length<=sizeLine/\Q (.str (i++j)) H):=rfl
theorem CK(i j:Int)(H:Hp)(Q:VK):C0 (.int i) (.int j) H Q=(um i j/\Q (.int (i*j)) H):=rfl
theorem Fs(i j:Int)(H:Hp)(Q:VK):Am (.int i) (.int j) H Q=Q (.bl (decide (i=j))) H:=by
 have e:decide (V.int i=V.int j)=decide (i=j):=by rw[Ij];constructor<;>intro h<;>(try cases h)<;>(try rw[h])<;>rfl
 unfold Am;rw[e];exact propext ⟨λh=>h.2,λh=>⟨rfl,h⟩⟩
theorem za(i j:Str)(H:Hp)(Q:VK):Am (.str i) (.str j) H Q=Q (.bl (decide (i=j))) H:=by
 have e:decide (V.str i=V.str j)=decide (i=j):=by rw[Ij];constructor<;>intro h<;>(try cases h)<;>(try rw[h])<;>rfl
 unfold Am;rw[e];exact propext ⟨λh=>h.2,λh=>⟨rfl,h⟩⟩
theorem FA(i j:Int)(H:Hp)(Q:VK):CD (.int i) (.int j) H Q=Q (.bl (!decide (i=j))) H:=by
 have e:decide (V.int i=V.int j)=decide (i=j):=by rw[Ij];constructor<;>intro h<;>(try cases h)<;>(try rw[h])<;>rfl
 unfold CD;rw[e];exact propext ⟨λh=>h.2,λh=>⟨rfl,h⟩⟩
theorem ET(i j:Str)(H:Hp)(Q:VK):CD (.str i) (.str j) H Q=Q (.bl (!decide (i=j))) H:=by
 have e:decide (V.str i=V.str j)=decide (i=j):=by rw[Ij];constructor<;>intro h<;>(try cases h)<;>(try rw[h])<;>rfl
 unfold CD;rw[e];exact propext ⟨λh=>h.2,λh=>⟨rfl,h⟩⟩
theorem Ft(K:LA)(b:Bool)(H:Hp)(k:Bool):wH K (.bl b) H k=(k=b):=rfl
end Ap
noncomputable def KB(ex:List Addr)(H H':Hp):Prop:=∀b o,H b=some o->b∉ex->H' b=some o
theorem KB.refl(ex:List Addr)(H:Hp):KB ex H H:=λ_ _ e _=>e
theorem KB.trans{H1 H2:Hp}(a:KB ex H H1)(b:KB ex H1 H2):KB ex H H2:=λc o e n=>b c o (a c o e n) n
theorem KB.mono{ex':List Addr}(h:KB ex H H')(s:∀b∈ex,b∈ex'):KB ex' H H':=λb o e n=>h b o e λz=>n (s b z)
theorem KB.all(h:KB [] H H'):KB ex H H':=h.mono (by simp)
theorem KB.new(h:H p=none):KB ex H (upd H p o):=λb u e _=>by rw[ae (ai e h)];exact e
theorem KB.set(h:p∈ex):KB ex H (upd H p o):=λb u e n=>by rw[ae (λ(z:b=p)=>n (by rw[z];exact h))];exact e
theorem KB.free(h:KB ex H H'){b:Addr}(n:b∉ex)(e:H' b=none):H b=none:=by
 cases q:H b with
 |none=>rfl
 |some o=>rw[h b o q n] at e;cases e
theorem KB.DC(h:KB ex H H')(n:a∉ex)(q:bY K H a xs):bY K H' a xs:=by
 rcases q with (q|⟨o,q⟩)|q
 ·exact .inl (.inl (h _ _ q n))
 ·exact .inl (.inr ⟨o,h _ _ q n⟩)
 ·exact .inr q
theorem Bo(x:α)(r:List α):bV (x::r) 0=some x:=bM (j:=0) rfl
theorem xF(a x:α)(r:List α):bV (a::x::r) 1=some x:=bM (j:=1) rfl
theorem Fl(a b x:α)(r:List α):bV (a::b::x::r) 2=some x:=bM (j:=2) rfl
theorem Fj(a b c x:α)(r:List α):bV (a::b::c::x::r) 3=some x:=bM (j:=3) rfl
theorem jx{n:Nat}{i:Int}(h0:0<=i)(h:i<n):mf n i=some i.toNat:=by unfold mf;rw[Gn h0,Gn h]
namespace Ap
theorem fj(K:LA)(p:Addr)(i:Int)(H:Hp)(Q:VK):CM K (.ref p) (.int i) H Q=(match sq H p with
  |some (_,xs)=>(match bV xs i with|some v=>Q v H|none=>False)
  |none=>∃xs v,bz K H p xs/\bV xs i=some v/\Q v H):=rfl
theorem Df(K:LA)(z:Str)(i:Int)(H:Hp)(Q:VK):CM K (.str z) (.int i) H Q=(z.length<=sizeLine/\(match bV z.cps.toList i with|some c=>Q (.str ⟨#[c]⟩) H|none=>False)):=rfl
theorem setRef(p:Addr)(k:Int)(v:V)(H:Hp)(Q:Hp->Prop):zc (.ref p) (.int k) v H Q=(match H p with
  |some (.lst xs)=>(match mf xs.length k with|some j=>Q (upd H p (.lst (xs.set j v)))|none=>False)
  |_=>False):=rfl
theorem uw(K:LA)(p:Addr)(H:Hp)(Q:VK):u_ K [.ref p] H Q=(match sq H p with
  |some (_,ys)=>Q (.int ys.length) H
  |none=>∃ys,bz K H p ys/\Q (.int ys.length) H):=rfl
theorem C8(K:LA)(y:Str)(H:Hp)(Q:VK):u_ K [.str y] H Q=(y.length<=sizeLine/\Q (.int y.length) H):=rfl
theorem CU(i j:Int)(H:Hp)(Q:VK):De [.int i,.int j] H Q=Q (.int (if j<i then j else i)) H:=rfl
theorem DS(i j:Int)(H:Hp)(Q:VK):Ee [.int i,.int j] H Q=Q (.int (if j > i then j else i)) H:=rfl
theorem EV(k:Bool)(H:Hp)(Q:VK):Ec [.bl k] H Q=Q (.int (if k=true then 1 else 0)) H:=rfl
theorem qg(K:LA)(p:Addr)(H:Hp)(Q:VK):mq K [.ref p] H Q=(match sq H p with
  |some (true,ys)=>∀l,H l=none->Q (.ref l) (upd H l (.tup ys))
  |some (false,_)=>Q (.ref p) H
  |none=>∃ys,bz K H p ys/\Q (.ref p) H):=rfl
theorem CT(K:LA)(p:Addr)(lo hi:Option Int)(H:Hp)(Q:VK):EC K (.ref p) lo hi H Q=(match sq H p with
  |some (true,xs)=>∀q,H q=none->Q (.ref q) (upd H q (.lst (iE xs lo hi)))
  |some (false,xs)=>uP K (.ref p) lo hi H Q
  |none=>uP K (.ref p) lo hi H Q):=rfl
theorem E1(K:LA)(neg:Bool)(x:V)(p:Addr)(H:Hp)(Q:VK):Ea K neg x (.ref p) H Q=(match sq H p with
  |some (_,xs)=>dk x=true/\xs.all dk=true/\Q (.bl (if neg then !pY x xs else pY x xs)) H
  |none=>∃xs,bz K H p xs/\dk x=true/\xs.all dk=true/\Q (.bl (if neg then !pY x xs else pY x xs)) H):=rfl
theorem Fm(K:LA)(x:V)(T:String)(H:Hp)(Q:VK):B9 K [x,.ty T] H Q=(T∈["bool","int","str","list","tuple","dict"]/\match Ce H x with
  |some t=>Q (.bl (gL t T)) H
  |none=>∃t b,gw K H x t/\PySem.W.kitOne K t (.type T)=some b/\Q (.bl b) H):=rfl
theorem addRef(K:LA)(a b:Addr)(H:Hp)(Q:VK):sG K (.ref a) (.ref b) H Q=(match H a,H b with
  |some (.lst xs),some (.lst ys)=>xs.length+ys.length<=sizeLine/\∀p,H p=none->Q (.ref p) (upd H p (.lst (xs++ys)))
  |some (.tup xs),some (.tup ys)=>xs≠[]/\ys≠[]/\xs.length+ys.length<=sizeLine/\∀p,H p=none->Q (.ref p) (upd H p (.tup (xs++ys)))
  |_,_=>False):=rfl
theorem AK(H:Hp)(p:Addr)(xs:List V):sq (upd H p (.lst xs)) p=some (true,xs):=aC aa
theorem xY(H:Hp)(p:Addr)(xs:List V):sq (upd H p (.tup xs)) p=some (false,xs):=aH aa
theorem zm(H:Hp)(p:Addr)(o:HO):upd H p o p=some o:=aa
end Ap
theorem ao{t u:TS}{D:Ends}(h:∀N,N=u D->t {D with nx:=N} σ H):s_ t u D σ H:=h _ rfl
structure QE (X:Cx) (e:Expr) (t:TE):Prop where h:PE X e t
structure QT (X:Cx) (e:Expr) (t:TT):Prop where h:PT X e t
structure QW (X:Cx) (e:Expr) (t:TT):Prop where h:PW X e t
structure QA (X:Cx) (es:List Expr) (t:TA):Prop where h:PA X es t
structure QS (X:Cx) (st:Stmt) (t:TS):Prop where h:PS X st t
structure QB (X:Cx) (sts:List Stmt) (t:TS):Prop where h:pV X sts t
structure QI (X:Cx) (tg it:Expr) (t:TI):Prop where h:PI X tg it t
structure QG (X:Cx) (e:Expr) (t:TG):Prop where h:PG X e t
structure E9 (X:Cx) (es:List Expr) (t:qV):Prop where h:CH X es t
structure QO (X:Cx) (e:Option Expr) (t:TO):Prop where h:PO X e t
structure E8 (X:Cx) (es:List Expr) (t:TT):Prop where h:Cg X es t
namespace Z
noncomputable def sim(b:Expr):Bool:=match b with
 |.Name .. |.Constant .. |.Call .. |.BinOp .. |.Subscript .. |.Attribute .. |.UnaryOp .. |.Compare .. |.IfExp ..=>true
 |_=>false
theorem FK(h:sim b=true):qW b:=by
 cases b<;>first | (intro _ _;rfl)|cases h
noncomputable def FG(b:Expr):Bool:=match b with
 |.Name .. |.Call .. |.Subscript .. |.Attribute ..=>true
 |_=>false
theorem ptr(h:FG b=true):∀whole,isTrue b env whole=(do let v <- whole;standAt b.pos;holding [v] (truthy v)):=by
 cases b<;>first | (intro _;rfl)|cases h
noncomputable def Fn(b:Expr):Bool:=match b with
 |.ListComp .. |.SetComp .. |.DictComp ..=>false
 |_=>true
theorem FJ{tg:Option Expr}{l:Nat}(h:Fn b=true):swapsWith b tg l env=pure false:=by
 cases b<;>first|rfl|cases h
section
variable {X:Cx}
theorem aN(K:LA)(hK:X.K=K):dy X (binaryOp .Add) (sG K):=by subst hK;exact yl
theorem Ff(K:LA)(hK:X.K=K){k:Nat}(hu:k<cLine):dy X (compareOp .In) (Ea K false):=by subst hK;exact AY hu
theorem ay(K:LA)(hK:X.K=K){k:Nat}(hu:k<cLine):r_ X (CM K):=by subst hK;exact Ga hu
theorem Fd(K:LA)(hK:X.K=K):Aq X (EC K):=by subst hK;exact xP
theorem Ay(K:LA)(hK:X.K=K):Aq X (DB K):=by subst hK;exact qR
theorem bB(K:LA)(hK:X.K=K):b6 X (.builtin "len") (u_ K):=by subst hK;exact rM
theorem C3(K:LA)(hK:X.K=K):b6 X (.builtin "len") (λxs H Q=>∃x n,xs=[x]/\Eh K x H n/\Q (.int n) H):=by subst hK;exact gY
theorem iR(K:LA)(hK:X.K=K):b6 X (.builtin "isinstance") (B9 K):=by subst hK;exact si
theorem c_(K:LA)(hK:X.K=K):b6 X (.type "tuple") (mq K):=by subst hK;exact oh
theorem Ew(K:LA)(hK:X.K=K)(hc:X.calm=true):b6 X (.builtin "sum") (λxs H Q=>∃(p:Addr) (ns:List Int),xs=[.ref p]/\bY K H p (ns.map V.int)/\Q (.int ns.sum) H):=by subst hK;exact sx hc
end
section
variable {X:Cx} {a b c e o:Expr} {es:List Expr} {ta tb tc te to:TE} {t:TA} {pos p p2:Pos} {tA tB':TT} {rest:List Expr} {x:Str}
theorem int{i:Int}:QE X (.Constant (.int i) j pos) (tC (.int i)):=⟨wg⟩
theorem bl{i:Bool}:QE X (.Constant (.bool i) j pos) (tC (.bl i)):=⟨zT⟩
theorem aP:QE X (.Constant .none j pos) (tC .aP):=⟨vS⟩
theorem str{i:Str}:QE X (.Constant (.str i) j pos) (tC (.str i)):=⟨qc⟩
theorem v(i:Nat)(hN:autoParam (X.N[i]?=some x) ℜ0)(hv:autoParam (Ek X.env.scope x) ℜ4)(hd:autoParam ((x ==("__debug__":Str))=false) ℜ1)
  (g9:autoParam ((x ==("__classdict__":Str))=false) ℜ1):QE X (.Name x pos) (pI i):=⟨pv i hN hv hd g9⟩
theorem glob{w:V}{u:Value}(hg:Gl X x)(hm:X.mg x=some u)(r:RelV w u)(hd:autoParam ((x ==("__debug__":Str))=false) ℜ1):QE X (.Name x pos) (tC w):=⟨qP hg hm r hd⟩
theorem op{o:Operator}{r:R2}(ho:dy X (binaryOp o) r)(ha:QE X a ta)(hb:QE X b tb):QE X (.BinOp a o b pos) (tW r ta tb):=⟨DH ho ha.h hb.h⟩
theorem un{o:UnaryOp}{r:V->Hp->VK->Prop}(ho:EI X (unaryOp o) r)(ha:QE X a ta):QE X (.UnaryOp o a pos) (DE r ta):=⟨Dz ho ha.h⟩
theorem cmp{o:CmpOp}{r:R2}(ho:dy X (compareOp o) r)(ha:QE X a ta)(hb:QE X b tb)(hm:autoParam (behindInMarks o b=false) ℜ0):QE X (.Compare a [o] [b] pos) (tW r ta tb):=⟨zA ho ha.h hb.h hm⟩
theorem and(ha:QE X a ta)(hb:QE X (.BoolOp .And (b::rest) pos) tb):QE X (.BoolOp .And (a::b::rest) pos) (ny ta tb):=⟨BY ha.h hb.h⟩
theorem one{o:BoolOp}(ha:QE X a ta):QE X (.BoolOp o [a] pos) ta:=⟨A_ ha.h⟩
theorem not(ha:QE X a ta):QE X (.UnaryOp .Not a pos) (oy ta):=⟨BW ha.h⟩
theorem CN(hc:QT X c tA)(ha:QE X a ta)(hb:QE X b tb):QE X (.IfExp c a b pos) (Du tA ta tb):=⟨wQ hc.h ha.h hb.h⟩
theorem slice{r:V->Option Int->Option Int->Hp->VK->Prop}{lo hi:Option Expr}{tl th:TO}(hr:Aq X r)(he:QE X e te)(hl:QO X lo tl)(hu:QO X hi th):QE X (.Subscript e (.Slice lo hi none p2) pos) (E4 r te tl th):=⟨vn hr he.h hl.h hu.h⟩
theorem AI:QO X none gR:=⟨y4⟩
theorem ll(he:QE X e te):QO X (some e) (mZ te):=⟨yf he.h⟩
theorem ix{r:R2}(hr:r_ X r)(ha:QE X a ta)(hb:QE X b tb)(hs:autoParam (sim b=true) ℜ0):QE X (.Subscript a b pos) (tW r ta tb):=⟨Al hr ha.h hb.h (FK hs)⟩
theorem tup{k:Nat}(h:QA X es t):QE X (.Tuple es k pos) (u6 t):=⟨Cc h.h⟩
theorem lst(h:QA X es t):QE X (.List es pos) (wR t):=⟨AQ h.h⟩
theorem nil:QA X [] iG:=⟨xv⟩
theorem cons(ha:QE X e te)(hr:QA X es t)(h:autoParam (fo e=true) ℜ0):QA X (e::es) (i7 te t):=⟨EO ha.h hr.h h⟩
theorem consts{vs:List V}(h:qA es=some vs):QA X es (tK vs):=⟨kC h⟩
theorem cb{id:String}(hc:b6 X (.builtin id) r)(hg:Gl X x)(hm:X.mg x=none)(hv:bootBuiltins x=some (.builtin id))(ha:QA X (e::es) t)(h1:autoParam (fo e=true) ℜ0)(h2:autoParam (es.all fo=true) ℜ0)(hn:autoParam (x≠"__name__") ℜ1)(hdb:autoParam ((x ==("__debug__":Str))=false) ℜ1):
  QE X (.Call (.Name x p) (e::es) [] pos) (xI r t):=⟨DW hc hg hm hv ha.h h1 h2 hn hdb⟩
theorem ct{T:String}(hc:b6 X (.type T) r)(hg:Gl X x)(hm:X.mg x=none)(hv:bootBuiltins x=some (.type T))(ha:QA X (e::es) t)(h1:autoParam (fo e=true) ℜ0)(h2:autoParam (es.all fo=true) ℜ0)(hn:autoParam (x≠"__name__") ℜ1)(hdb:autoParam ((x ==("__debug__":Str))=false) ℜ1):
  QE X (.Call (.Name x p) (e::es) [] pos) (xI r t):=⟨Dt hc hg hm hv ha.h h1 h2 hn hdb⟩
theorem BZ{T:String}(hg:Gl X x)(hm:X.mg x=none)(hv:bootBuiltins x=some (.type T))(hn:autoParam (x≠"__name__") ℜ1)(hd:autoParam ((x ==("__debug__":Str))=false) ℜ1):QE X (.Name x pos) (tC (.ty T)):=⟨BX hg hm hv hn hd⟩
theorem fn{k:Nat}{ps:List Str}{E:XK}(F:aq X.prog X.w X.K X.mg X.base CX k x ps sp)(hr:bD k X.A)(hg:Gl X x)(hx:Passes CX X E)(ha:QA X (e::es) t)(h1:autoParam (fo e=true) ℜ0)(h2:autoParam (es.all fo=true) ℜ0)(hdb:autoParam ((x ==("__debug__":Str))=false) ℜ1):
  QE X (.Call (.Name x p) (e::es) [] pos) (g_ sp [] E t):=⟨DY F hr hg hx ha.h h1 h2 hdb⟩
theorem FU{k:Nat}{ps:List Str}{E:XK}(F:aq X.prog X.w X.K X.mg X.base CX k x ps sp)(hr:bD k X.A)(hg:Gl X x)(hx:Passes CX X E)(hdb:autoParam ((x ==("__debug__":Str))=false) ℜ1):
  QE X (.Call (.Name x p) [] [] pos) (g_ sp [] E iG):=⟨Br F hr hg hx hdb⟩
theorem bm(K:LA)(hK:X.K=K){name:Str}{apos:Pos}{T id:String}{r:V->List V->Hp->VK->Prop}(pa:PlainAttrs T)(slot:Slot T name id)(hty:typeOf (.builtin id)=pure (.type "method_descriptor"))(hm:vj X id r)(ho:QE X o to)(ha:QA X (e::es) t)
  (hbase:autoParam (attributeBase o name X.env (eval o X.env)=eval o X.env) ℜ0) (hline:autoParam ((apos.endLine == pos.line)=true) ℜ0) (h:autoParam ((e::es).all fo=true) ℜ0) (hl:autoParam ((e::es).length<30) ℜ1):QE X (.Call (.Attribute o name apos) (e::es) [] pos) (CI K T r to t):=by
 subst hK;exact⟨AF pa slot hty hm ho.h ha.h hbase hline h hl⟩
theorem comp{wi:TI}{tc:TT}(S:dA osc ON scope own N)(hosc:X.env.scope=osc)(hON:X.N=ON)(hc:X.calm=true)(hi:QI X tg iter wi)
  (hg:∀C s H fp,QG (aZ X scope N C s H fp) tg g) (ht:∀C s H fp,E8 (aZ X scope N C s H fp) ifs tc) (he:∀C s H fp,QE (aZ X scope N C s H fp) elt te) (hs:autoParam (∀x,foldedSetIterable iter X.env x=pure x) ℜ3) :
  QE X (.ListComp elt [⟨tg,iter,ifs,0⟩] scope pos) (jd wi own.length g tc te):=⟨yo S hosc hON hc hi.h (λC s H fp=>(hg C s H fp).h) (λC s H fp=>(ht C s H fp).h) (λC s H fp=>(he C s H fp).h) hs⟩
theorem aS{o:CmpOp}{r:R2}(ho:dy X (compareOp o) r)(ha:QE X a ta)(hb:QE X b tb)(hm:autoParam (behindInMarks o b=false) ℜ0):QT X (.Compare a [o] [b] pos) (iz (tW r ta tb)):=⟨xZ ho ha.h hb.h hm⟩
theorem vg{o o':CmpOp}{r r':R2}(ho:dy X (compareOp o) r)(ho':dy X (compareOp o') r')(ha:QE X a ta)(hb:QE X b tb)(hc:QE X c tc)(hm:autoParam (lastMarks [o,o'] [b,c]=false) ℜ5):QT X (.Compare a [o,o'] [b,c] pos) (iz (jA r r' ta tb tc)):=⟨xw ho ho' ha.h hb.h hc.h hm⟩
theorem tw(h:QW X e tA):QT X e tA:=⟨h.h.pt⟩
theorem vm(ha:QT X a tA):QT X (.UnaryOp .Not a pos) (uq tA):=⟨B7 ha.h⟩
noncomputable def zJ(K:LA)(ta:TE):TT:=λσ H Q=>ta σ H λx H'=>∃k,wH K x H' k/\Q k H'
theorem mx(K:LA)(hK:X.K=K)(ha:QE X a ta)(he:autoParam (FG a=true) ℜ0):QT X a (zJ K ta):=by subst hK;exact⟨tZ ha.h (ptr he)⟩
theorem kr(ha:QT X a tA):QW X (.BoolOp .And [a] pos) tA:=⟨xM ha.h⟩
theorem xJ(ha:QT X a tA):QW X (.BoolOp .Or [a] pos) tA:=⟨B_ ha.h⟩
theorem se(ha:QT X a tA)(hb:QW X (.BoolOp .And (b::rest) pos) tB'):QW X (.BoolOp .And (a::b::rest) pos) (vQ tA tB'):=⟨A5 ha.h hb.h⟩
theorem EA(ha:QT X a tA)(hb:QW X (.BoolOp .Or (b::rest) pos) tB'):QW X (.BoolOp .Or (a::b::rest) pos) (CJ tA tB'):=⟨Em ha.h hb.h⟩
theorem ba(hN:X.N.Nodup)(hi:X.N[i]?=some x)(hx:Loc X.env.scope x)(hf:autoParam (X.fn x=true\/X.env.scope.names.lookup x=some .local) ℜ2):QG X (.Name x pos) (bj i):=⟨yy hN hi hx hf⟩
theorem rJ(K:LA)(hK:X.K=K){k n:Nat}{tg:qV}(hc:X.calm=true)(h:E9 X es tg)(hn:autoParam ((assignEach es X.env).length=n) ℜ0)(hst:autoParam ((assignEach es X.env).findIdx? (·.1)=none) ℜ0):QG X (.Tuple es k pos) (mI K n tg):=by subst hK;exact⟨wy hc h.h hn hst⟩
theorem jl:E9 X [] mG:=⟨zj⟩
theorem cC{u:qV}(h1:QG X e g)(h2:E9 X es u)(hs:autoParam ((assignEach (e::es) X.env).map (·.2)=assign e X.env::(assignEach es X.env).map (·.2)) ℜ0):E9 X (e::es) (fw g u):=⟨xa h1.h h2.h hs⟩
theorem lu{i:Expr}{ti:TE}(ho:QE X o to)(hi:QE X i ti)
  (ha:autoParam (∀v,assign (.Subscript o i pos) X.env v=(do
   let ov <- holding [v] (eval o X.env)
   let iv <- holding [v,ov] (eval i X.env)
   standAt pos
   holding [v,ov,iv] (setItem ov iv v)
   release [v,ov,iv] [])) ℜ3):QG X (.Subscript o i pos) (vD to ti zc):=⟨BA ho.h hi.h uset ha⟩
theorem mV{ta:TA}(hg:Gl X "range")(hm:X.mg "range"=none)(ha:QA X [a] ta)(h:autoParam (fo a=true) ℜ0):QI X tg (.Call (.Name "range" p) [a] [] pos) (kA ta):=⟨qd hg hm ha.h h⟩
theorem Fc{ta:TA}(hg:Gl X "range")(hm:X.mg "range"=none)(ha:QA X [a,b] ta)(h:autoParam (fo a=true) ℜ0)(h2:autoParam (fo b=true) ℜ0):QI X tg (.Call (.Name "range" p) [a,b] [] pos) (kR ta):=⟨pq hg hm ha.h h h2⟩
theorem enum(K:LA)(hK:X.K=K){k:Nat}{ta:TA}(hg:Gl X "enumerate")(hm:X.mg "enumerate"=none)(ha:QA X [e] ta)(h1:autoParam (fo e=true) ℜ0):QI X (.Tuple es k tp) (.Call (.Name "enumerate" p) [e] [] pos) (nG K ta):=by subst hK;exact⟨ya hg hm ha.h h1⟩
theorem any(K:LA)(hK:X.K=K){l:Expr}(hl:QE X l tl):QI X tg l (vK K tl):=by subst hK;exact⟨Bs hl.h⟩
theorem zr:E8 X [] gi:=⟨x_⟩
theorem FV(h:QT X c tA):E8 X [c] tA:=⟨yU h.h⟩
end
section
variable {X:Cx} {e o tg:Expr} {te to:TE} {st:Stmt} {sts xs ys:List Stmt} {t u:TS} {pos pos':Pos} {x:Str}
theorem bp:QB X [] nQ:=⟨yx⟩
theorem ar(h:QS X st t):QB X [st] t:=⟨zF h.h⟩
theorem ag(h:QS X st t)(h2:QB X sts u):QB X (st::sts) (s_ t u):=⟨uQ h.h h2.h⟩
theorem set(hN:X.N.Nodup)(hi:X.N[i]?=some x)(hx:Loc X.env.scope x)(he:QE X e te)(hs:autoParam (Fn e=true) ℜ0)(hf:autoParam (X.fn x=true\/X.env.scope.names.lookup x=some .local) ℜ2):
  QS X (.Assign [.Name x pos'] e pos) (lC te (bj i)):=⟨AZ hN hi hx he.h (FJ hs) hf⟩
theorem setC{p2:Pos}{wi:TI}(hN:X.N.Nodup)(hj:X.N[j]?=some x)(hx:Loc X.env.scope x)(S:dA osc ON scope own N)(hosc:X.env.scope=osc)(hON:X.N=ON)(hc:X.calm=true)(hi:QI X tg iter wi)
  (hg:∀C s H fp,QG (aZ X scope N C s H fp) tg g) (ht:∀C s H fp,E8 (aZ X scope N C s H fp) ifs tc) (he:∀C s H fp,QE (aZ X scope N C s H fp) elt te)
  (hsw:autoParam (swapsWith (.ListComp elt [⟨tg,iter,ifs,0⟩] scope p2) (some (.Name x pos')) pos.line X.env=pure true) ℜ0)
  (hf:autoParam (X.fn x=true\/X.env.scope.names.lookup x=some .local) ℜ2) (hs:autoParam (∀x,foldedSetIterable iter X.env x=pure x) ℜ3) :
  QS X (.Assign [.Name x pos'] (.ListComp elt [⟨tg,iter,ifs,0⟩] scope p2) pos) (lC (jd wi own.length g tc te) (bj j)):=⟨pO hN hj hx S hosc hON hc hi.h (λC s H fp=>(hg C s H fp).h) (λC s H fp=>(ht C s H fp).h) (λC s H fp=>(he C s H fp).h) hsw hf hs⟩
theorem asg(he:QE X e te)(hg:QG X tg g)(hs:autoParam (swapsWithSole [tg] e pos.line X.env=pure false) ℜ0)(hw:autoParam (swappedStores [tg] e X.env=pure none) ℜ0)
  (h1:autoParam ((assignEach [tg] X.env).map (·.2)=[assign tg X.env]) ℜ0):QS X (.Assign [tg] e pos) (lC te g):=⟨BN he.h hg.h hs hw h1⟩
theorem ret(he:QE X e te):QS X (.Return (some e) pos) (ve te):=⟨A0 he.h⟩
theorem expr(he:QE X e te)(hs:autoParam (Fn e=true) ℜ0):QS X (.Expr e pos) (mW te):=⟨zq he.h (FJ hs)⟩
theorem cG{c:Expr}(hc:QT X c tc)(ha:QB X xs t)(hb:QB X ys u):QS X (.If c xs ys pos) (lL tc t u):=⟨DN hc.h ha.h hb.h⟩
theorem eF{wi:TI}(hp:PassesOwn (model X.prog X.w) X.A X.env X.xe)(hc:X.calm=true)(hi:QI X tg iter wi)(hg:QG X tg g)(hb:QB X xs t)(hs:autoParam (∀x,foldedSetIterable iter X.env x=pure x) ℜ3):QS X (.For tg iter xs [] pos) (A1 wi g t):=⟨AU hp hc hi.h hg.h hb.h hs⟩
theorem pA{c:Expr}(hp:PassesOwn (model X.prog X.w) X.A X.env X.xe)(hc:QT X c tc)(hb:QB X xs t):QS X (.While c xs [] pos) (vY tc t):=⟨vP hp hc.h hb.h⟩
end
end Z
namespace Ap
theorem zJ(K:LA)(ta:TE)(σ:St)(H:Hp)(Q:Bool->Hp->Prop):L2.Z.zJ K ta σ H Q=ta σ H λx H'=>∃k,wH K x H' k/\Q k H':=rfl
theorem oy(ta:TE)(σ:St)(H:Hp)(Q:VK):L2.oy ta σ H Q=ta σ H λx H1=>∃c,x=.bl c/\Q (.bl (!c)) H1:=rfl
end Ap
theorem HasFn.fW{ps:List Str}{k:Nat}(F:HasFn K mg x st ps)(S:ax N ps (af st))(len:∀vs H Q E,sp vs H Q E->vs.length=ps.length)
  (hbody:∀(f:Addr) (cdv:Value) (A:Around) (outer:List Env) (s:Shared) (H:Hp) (vs:List V) (Q:VK) (E:XK),bD k (A.deeper (envOfC x (af st) s.heap.objs.size f cdv))->sp vs H Q E ->
   ∃t,QB (fu bc P w K mg base N x (af st) f cdv A outer s H E).oF (aR st) t/\t {nx:=λ_ H'=>Q .aP H',rt:=Q} (start N vs) H):aq P w K mg base bc (k+1) x ps sp:=
 F.ok S len λf cdv A outer s H vs Q E hr h=>let ⟨t,q,r⟩:=hbody f cdv A outer s H vs Q E hr h;⟨t,q.h,r⟩
theorem yO{ps:List Str}{k:Nat}(F:jy K x x st f fd)(S:ax N ps (af st))(len:∀vs H Q E,sp vs H Q E->vs.length=ps.length)
  (hbody:∀(cdv:Value) (A:Around) (outer:List Env) (s:Shared) (H:Hp) (vs:List V) (Q:VK) (E:XK),bD k (A.deeper (envOfC x (af st) s.heap.objs.size f cdv))->sp vs H Q E ->
   ∃t,QB (fu bc P w K mg base N x (af st) f cdv A outer s H E).oF (aR st) t/\t {nx:=λ_ H'=>Q .aP H',rt:=Q} (start N vs) H):cy P w K mg base bc (k+1) f fd ps sp:=
 F.ok S len λcdv A outer s H vs Q E hr h=>let ⟨t,q,r⟩:=hbody cdv A outer s H vs Q E hr h;⟨t,q.h,r⟩
inductive T where
 |il (n:Nat)|aP|bl (b:Bool)|int (i:Int)|str (x:Str)|tup (ts:List T)|lst (ts:List T)|Gd (ts:List T)|m_ (lo hi:Int)|Ge (ts:List T)|Gf (ks:List Key) (ts:List T)|exc (c:Value) (f:Option (Str×Int))|adr (a:Addr)|ins (a c:Addr) (ks:List Str) (ts:List T)
abbrev sH:=Addr->Prop
noncomputable def EF(K:LA)(a:Addr)(xs:List V):Prop:=∃(o:Obj) (its:Array Value) (n:Nat),K.lookup a=some o/\o.cls=.type "tuple"/\o.data=.seq its n/\its.size<=sizeLine/\Vals xs its.toList
theorem Paired.zw{β:Type}{P:α->β->Prop}{ys:List β}(h:Paired P [] ys):ys=[]:=by cases h;rfl
theorem Paired.Ax{β:Type}{P:α->β->Prop}{x:α}{xs:List α}{ys:List β}(h:Paired P (x::xs) ys):∃y zs,ys=y::zs/\P x y/\Paired P xs zs:=by cases h with|cons h r=>exact⟨_,_,rfl,h,r⟩
inductive Sl where
 |un|tr (t:T)|bx (c:T)|pb (c:T)
abbrev Mu:=List Sl
inductive R where
 |tr (t:T)|br (i:Nat)|fr (c:T)
structure Fx where
 K:LA
 H0:Hp
 P:Nat->Option Addr
 Bc:sH
 bh:∀b,Bc b->∃o,H0 b=some o
 G:Addr->Option HO
noncomputable def more(B:sH)(a:Addr):sH:=λb=>b=a\/B b
abbrev UE:=Mu->(R->Mu->Prop)->Prop
abbrev UT:=Mu->(Bool->Mu->Prop)->Prop
abbrev UA:=Mu->(List R->Mu->Prop)->Prop
structure Ed where
 nx:Mu->Prop
 rt:R->Mu->Prop
 bk:Mu->Prop:=λ_=>False
 ct:Mu->Prop:=λ_=>False
abbrev US:=Ed->Mu->Prop
namespace Y
theorem f_:∀(n:Nat) (acc:List Value) (k:Nat),acc.length=n->(∀j v,acc[j]?=some v->∃t,v=Value.int (lo+((k+j:Nat):Int)) t)->Vals ((List.range' k n).map λk=>V.int (lo+(k:Nat))) acc
 |0,acc,k,h,_=>by cases acc with|nil=>exact .nil|cons a b=>cases h
 |n+1,[],k,h,_=>by cases h
 |n+1,a::acc,k,h,g=>by
  rw[IA,Hd];refine .cons ?_ (f_ n acc (k+1) (by simpa using h) λj v e=>?_)
  ·obtain⟨t,e⟩:=g 0 a rfl;exact⟨t,by simpa using e⟩
  ·obtain⟨t,e2⟩:=g (j+1) v (by simpa using e)
   exact⟨t,by rw[e2];congr 2;lia⟩
noncomputable def zK:List V->Hp->VK->Prop:=λxs H Q=>(∃j,xs=[.int j]/\∀p,H p=none->Q (.ref p) (upd H p (.m_ 0 j)))\/(∃i j,xs=[.int i,.int j]/\∀p,H p=none->Q (.ref p) (upd H p (.m_ i j)))
theorem oo:b6 X (.type "range") zK:=by
 intro pins s σ H xs us Q I r h;rcases h with ⟨j,rfl,q⟩|⟨i,j,rfl,q⟩
 ·obtain⟨u,rfl,t,rfl⟩:=vals1 r;refine call_range_1 ?_;exact⟨.ref s.heap.objs.size,_,I.laid (o:=.m_ 0 j) (λb ob q=>Gh _ q) (Gp _) (show bf X.prog X.w _ _ _ (.m_ 0 j) from⟨_,_,_,Gw _ rfl⟩),rfl,q _ (I.aU.fresh (Gp _))⟩
 ·obtain⟨u,w',rfl,⟨t,rfl⟩,⟨t',rfl⟩⟩:=vals2 r;refine call_range_2 ?_;exact⟨.ref s.heap.objs.size,_,I.laid (o:=.m_ i j) (λb ob q=>Gh _ q) (Gp _) (show bf X.prog X.w _ _ _ (.m_ i j) from⟨_,_,_,Gw _ rfl⟩),rfl,q _ (I.aU.fresh (Gp _))⟩
section
variable {X:Cx} {a b c e o:Expr} {es rest:List Expr} {ua ub uc ue uo:UE} {uA uB:UT} {us:UA} {pos p p2 p3:Pos} {x:Str}
noncomputable def jt(xs:List α)(lo hi:Option Int):List α:=(xs.drop (HT.b_ xs.length 0 lo)).take (HT.b_ xs.length xs.length hi-HT.b_ xs.length 0 lo)
end
section
variable {X:Cx} {a b c e o tg:Expr} {es rest:List Expr} {ua ub uc ue uo:UE} {uA uB:UT} {us:UA} {pos pos' p p2 p3:Pos} {x:Str} {st:Stmt} {sts xs ys:List Stmt} {u w:US}
noncomputable def Dg(K:LA)(n:Nat)(t:qV):TG:=λv σ H Q=>∃a xs,v=.ref a/\(bz K H a xs\/bY K H a xs)/\xs.length=n/\t xs σ H Q
theorem ka{prog:Program}{w:World}{A:Around}{E:Value->Shared->Prop}{t:Addr}(hne:t≠it):∀(n i:Nat) (s:Shared) (Q:List Value->Shared->Prop),s.heap.IsListIter it t i->s.heap.IsList t items->i+n<=items.size ->
  (∀h',h'.IsListIter it t (i+n)->Heap.SameBut it s.heap h'->Q ((items.toList.drop i).take n) {s with heap:=h'})->wpAny (model prog w) A (draw (.ref it) n) Q E s
 |0,i,s,Q,hit,_,_,hQ=>by
  show wpAny _ _ (pure []) Q E s;exact Gq (by simpa using hQ s.heap hit (Heap.SameBut.refl ..))
 |n+1,i,s,Q,hit,ht,hle,hQ=>by
  have hlt:i<items.size:=by lia
  show wpAny _ _ (pyNext (.ref it) >>= _) Q E s;refine Gg (Jt hit ht (x:=items[i]) (by simp[hlt]) λh₁ hit₁ hs₁=>?_)
  refine Gg (Hg (ka hne n (i+1) _ _ hit₁ (ht.extBut hs₁.extBut hne) (by lia) λh₂ hit₂ hs₂=>Gq ?_))
  have hd:items.toList.drop i=items[i]::items.toList.drop (i+1):=by simp[HZ,hlt]
  have:=hQ h₂ (by rw[show i+(n+1)=i+1+n by lia];exact hit₂) (hs₁.trans hs₂)
  rw[hd,List.take_succ_cons] at this;exact this
theorem ij{w:World}{A:Around}{s:Shared}{t:Addr}{Q:List Value->Shared->Prop}(hh:A.handled=none)(ht:s.heap.IsList t items)
  (hQ:∀h',Heap.ExtBut s.heap.objs.size s.heap h'->Q items.toList {s with heap:=h'}):wpAny (model prog w) A (unpackItems (.ref t) items.size none) Q E s:=by
 have hlt:t≠s.heap.objs.size:=by obtain⟨o,ho,_⟩:=ht;exact GG (Gz ho)
 unfold unpackItems;refine Gg ?_
 ·unfold notIterableAtAll;refine Gg (wpAny_specialOf ht.typeIs F.slot_list_iter.lookup ?_);refine Gq ?_;simp only[HH,Ih];refine Gg (Hg (HP ht ?_));refine Gg (Hg (ka hlt items.size 0 _ _ ⟨_,Gw _ rfl,rfl,rfl⟩ (ht.push _) (by lia) λh₁ hit₁ hs₁=>?_))
  have hall:List.take items.size (List.drop 0 items.toList)=items.toList:=by
   rw[HL];exact Hs (by simp)
  rw[hall];rw[Gj (by simp)]
  have ht₁:h₁.IsList t items:=(ht.push _).extBut hs₁.extBut hlt;refine Gg (Hg (JC hh hit₁ ht₁ (by simp) λh₂ he₂=>?_))
  simp only[Option.isSome_none,HH,Ih];refine Gq (hQ h₂ λb o hb e=>he₂ b o hb (hs₁.extBut b o hb (Gh _ e)))
theorem yd{k:Nat}{t:qV}{n:Nat}(hc:X.calm=true)(h:CH X es t)
  (hn:autoParam ((assignEach es X.env).length=n) ℜ0) (hst:autoParam ((assignEach es X.env).findIdx? (·.1)=none) ℜ0):PG X (.Tuple es k pos) (Dg X.K n t):=by
 intro pins s σ H v u Q I r hw;obtain⟨a,xs,e1,hq,hl,hw⟩:=hw;rcases hq with hq|hq
 ·exact wy hc h hn hst pins s σ H v u Q I r ⟨a,xs,e1,hq,hl,hw⟩
 ·subst e1;cases r;obtain⟨its,rv,ht,hz⟩:=I.list hq;rw[assign_Tuple];refine Gg (Jy ?_);unfold unpack;have hsz:(assignEach es X.env).length=its.toArray.size:=by rw[hn,<- hl,rv.length];simp
  rw[hsz,hst];refine Gg (Hg (ij (I.ok.hd hc) ht.isList λh' hx=>?_));have I1:Inv X pins σ H {s with heap:=h'}:=I.kept (t':=s.toks) λb o e=>hx b o (GG (Gz e)) e
  exact h pins _ σ H xs _ Q I1 (by simpa using rv) hw
end
end Y
abbrev UI:=Mu->(List T->Option (Nat×List T)->Mu->Prop)->Prop
noncomputable def wG(K:LA)(tl:TE):TI:=λσ H R=>tl σ H λx H1=>∃a,x=V.ref a/\(((∃xs,bY K H1 a xs)/\R (xc K a) H1)\/((∃xs,bz K H1 a xs)/\R (tL K a) H1))
theorem AN{l:Expr}(hl:PE X l tl):PI X tg l (wG X.K tl):=by
 intro pins s σ H R I h;refine bJ (hl pins s σ H _ I h) λv s1 hq2=>?_;obtain⟨x,H1,I1,r1,q1⟩:=hq2;obtain⟨a,rfl,q⟩:=q1;cases r1;rcases q with ⟨⟨xs,hq⟩,q⟩|⟨⟨xs,hq⟩,q⟩
 ·obtain⟨its,rv,p,hz⟩:=I1.list hq;refine HP p.isList ?_;refine⟨s1.heap.objs.size,[s1.heap.objs.size],_,_,H1,rfl,I1.kept (t':=s1.toks) λb o e=>Gh _ e,km a _,⟨_,Gw _ rfl,rfl,rfl⟩,λb hb=>?_,q⟩;have e:b=s1.heap.objs.size:=by simpa using hb
  subst e;exact I1.lg (Gp _) (I1.aU.fresh (Gp _))
 ·obtain⟨its,rv,p,hz⟩:=I1.tuple hq;refine HI (show s1.heap.IsTuple a its.toArray from p) ?_;refine⟨s1.heap.objs.size,[s1.heap.objs.size],_,_,H1,rfl,I1.kept (t':=s1.toks) λb o e=>Gh _ e,jz a _,⟨_,Gw _ rfl,rfl,rfl⟩,λb hb=>?_,q⟩;have e:b=s1.heap.objs.size:=by simpa using hb
  subst e;exact I1.lg (Gp _) (I1.aU.fresh (Gp _))
namespace Y
theorem sU{α:Type _}{l:List α}(h:l.length=1):∃y,l=[y]:=by
 rcases l with _|⟨a,_|⟨b,t⟩⟩
 ·cases h
 ·exact⟨a,rfl⟩
 ·cases h
theorem uS{α:Type _}{l:List α}(h:l.length=2):∃y z,l=[y,z]:=by
 rcases l with _|⟨a,t⟩
 ·cases h
 ·obtain⟨b,rfl⟩:=sU (Nat.succ.inj h);exact⟨a,b,rfl⟩
theorem pW{α:Type _}{l:List α}(h:l.length=3):∃x y z,l=[x,y,z]:=by
 rcases l with _|⟨a,t⟩
 ·cases h
 ·obtain⟨b,c,rfl⟩:=uS (Nat.succ.inj h);exact⟨a,b,c,rfl⟩
theorem DJ{α:Type _}{l:List α}(h:l.length=4):∃w x y z,l=[w,x,y,z]:=by
 rcases l with _|⟨a,t⟩
 ·cases h
 ·obtain⟨b,c,d,rfl⟩:=pW (Nat.succ.inj h);exact⟨a,b,c,d,rfl⟩
end Y
abbrev FP:=List T->(R->List T->Prop)->Prop
noncomputable def yi(K:LA)(f:Addr)(cdv:Value):Prop:=∃(o:Obj) (fd:FuncData),K.lookup f=some o/\o.data=.func fd/\fd.code=cdv
section
variable {prog:Program} {w:World} {A:Around} {E:Value->Shared->Prop} {s:Shared}
structure ZA (z TI TO i1 i2 l1 l2:Addr):Prop where
 a1:TI≠z
 a2:TO≠z
 a3:i1≠z
 a4:i2≠z
 a5:TO≠i1
 a6:TO≠i2
 a7:i1≠i2
 a8:l1≠z/\l1≠TO/\l1≠i1/\l1≠i2
 a9:l2≠z/\l2≠TO/\l2≠i1/\l2≠i2
 b1:TI≠TO/\TI≠i1/\TI≠i2
theorem ZA.f1{TI TO:Addr}(D:ZA z TI TO i1 i2 l1 l2){e:Addr}(he:e=z\/e=TO\/e=i2):∀b∈[i1,l1],b≠e:=λb hb=>by
 rcases Gs.mp hb with rfl|hb
 ·rcases he with rfl|rfl|rfl
  ·exact D.a3
  ·exact D.a5.symm
  ·exact D.a7
 ·have hb:b=l1:=by simpa using hb
  subst hb;rcases he with rfl|rfl|rfl
  ·exact D.a8.1
  ·exact D.a8.2.1
  ·exact D.a8.2.2.2
theorem ZA.f2{TI TO:Addr}(D:ZA z TI TO i1 i2 l1 l2){e:Addr}(he:e=z\/e=TO\/e=i1):∀b∈[i2,l2],b≠e:=λb hb=>by
 rcases Gs.mp hb with rfl|hb
 ·rcases he with rfl|rfl|rfl
  ·exact D.a4
  ·exact D.a6.symm
  ·exact D.a7.symm
 ·have hb:b=l2:=by simpa using hb
  subst hb;rcases he with rfl|rfl|rfl
  ·exact D.a9.1
  ·exact D.a9.2.1
  ·exact D.a9.2.2.1
theorem eK{l:Addr}{n:Nat}{P:Nat->Value->Prop}{S:Nat->Heap->Prop}{A':Around}(D:Draws prog w A' it [it,l] n P S){h':Heap}{e:Addr}(st:S i h)(hs:Heap.ExtBut e h h')(ne:∀b∈[it,l],b≠e):S i h':=D.frame i h h' st λb hb o q=>hs b o (ne b hb) q
theorem sy{TI TO:Addr}{k n1 n2:Nat}{a b:Value}(D:ZA z TI TO i1 i2 l1 l2)(D1:Draws prog w A i1 [i1,l1] n1 P1 S1)(D2:Draws prog w A i2 [i2,l2] n2 P2 S2)
  (hz:IsZip s.heap z TI TO .none) (hTI:IsPair s.heap TI (.ref i1) (.ref i2)) (hTO:IsPair s.heap TO a b) (st1:S1 k s.heap) (st2:S2 k s.heap) (hk1:k<n1) (hk2:k<n2)
  (hQ:∀x y h' tk,P1 k x->P2 k y->IsZip h' z TI TO (rawInt s.heap.objs.size)->IsPair h' TO x y->S1 (k+1) h'->S2 (k+1) h'->IsPair h' s.heap.objs.size x y ->
   (∀c o,c≠z->c≠TO->c≠i1->c≠i2->s.heap.get? c=some o->h'.get? c=some o)->Q (.ref s.heap.objs.size) {s with heap:=h',toks:=tk}) :
  wpAny (model prog w) A (Builtin.«zip.__next__» ⟨[.ref z],[]⟩) (λfin s'=>∃v,fin=.done (.ret v)/\Q v s') E s:=by
 have zrec:=hz;show wpAny _ _ (field (.ref z) 2 >>= _) _ _ _;refine Gg (HU zrec rfl (x:=.bool false) rfl ?_);show wpAny _ _ (field (.ref z) 3 >>= _) _ _ _;refine Gg (HU zrec rfl (x:=.ref TI) rfl ?_);have tirec:=hTI;refine Gg (HY tirec rfl ?_);show wpAny _ _ (Builtin.SmallTypes.ownedTupleIsFree (.ref z) >>= _) _ _ _;refine Gg ?_;unfold Builtin.SmallTypes.ownedTupleIsFree;refine Gg (HU zrec rfl (x:=.none) rfl (Gq ?_));simp only[JE];refine Gg (Ku ?_);refine Gg (HU zrec rfl (x:=.ref TO) rfl ?_);refine Gg (Io zrec (by simp) λg1 zr1 sb1=>?_)
 replace zr1:IsZip g1 z TI TO .ellipsis:=zr1
 refine Gg ?_;simp only[List.zipIdx_cons,List.zipIdx_nil,KR,List.forIn_nil];refine Gg (Gg (Kp ?_));show wpAny _ _ (Builtin.SmallTypes.nextOf (.ref i1) >>= _) _ _ _;refine Gg (D1.item k _ _ _ hk1 (eK D1 st1 sb1.extBut (D.f1 (.inl rfl))) λx g2 tk2 px st1b sb2=>Gq ?_);have to2:IsPair g2 TO a b:=sb2.extBut _ _ D.a5 (sb1.extBut _ _ D.a2 hTO);refine Gg (HY to2 rfl ?_);refine Gg (JN to2 λg3 to3 sb3=>?_)
 replace to3:IsPair g3 TO x b:=to3
 refine Gg (wpAny_letGo (Gq ?_));refine Gg (Gg (Kp ?_));show wpAny _ _ (Builtin.SmallTypes.nextOf (.ref i2) >>= _) _ _ _;have st2c:S2 k g3:=eK D2 (eK D2 (eK D2 st2 sb1.extBut (D.f2 (.inl rfl))) sb2.extBut (D.f2 (.inr (.inr rfl)))) sb3.extBut (D.f2 (.inr (.inl rfl)));refine Gg (D2.item k _ _ _ hk2 st2c λy g4 tk4 py st2d sb4=>Gq ?_);have to4:IsPair g4 TO x b:=sb4.extBut _ _ D.a6 to3;refine Gg (HY to4 rfl ?_);refine Gg (JN to4 λg5 to5 sb5=>?_)
 replace to5:IsPair g5 TO x y:=to5
 refine Gg (wpAny_letGo (Gq (Gq ?_)));refine Gg (HY to5 rfl ?_);refine Gg (Lh ?_);have size5:g5.objs.size=s.heap.objs.size:=by rw[sb5.1,sb4.1,sb3.1,sb2.1,sb1.1]
 have zr5:IsZip g5 z TI TO .ellipsis:=sb5.extBut _ _ D.a2.symm (sb4.extBut _ _ D.a4.symm (sb3.extBut _ _ D.a2.symm (sb2.extBut _ _ D.a3.symm zr1)));have keep5:∀c o,c≠z->c≠TO->c≠i1->c≠i2->s.heap.get? c=some o->g5.get? c=some o:=λc o e1 e2 e3 e4 q =>
  sb5.extBut _ _ e2 (sb4.extBut _ _ e4 (sb3.extBut _ _ e2 (sb2.extBut _ _ e3 (sb1.extBut _ _ e1 q))))
 have s1e:S1 (k+1) g5:=eK D1 (eK D1 (eK D1 st1b sb3.extBut (D.f1 (.inr (.inl rfl)))) sb4.extBut (D.f1 (.inr (.inr rfl)))) sb5.extBut (D.f1 (.inr (.inl rfl)));have s2e:S2 (k+1) g5:=eK D2 st2d sb5.extBut (D.f2 (.inr (.inl rfl)));have zlt:z<g5.objs.size:=Gz zr5;show wpAny _ _ (Builtin.SmallTypes.ownedTupleHandOut (.ref z) (.ref g5.objs.size) >>= _) _ _ _;refine Gg ?_;unfold Builtin.SmallTypes.ownedTupleHandOut;have zr6:IsZip (g5.push {cls:=.type "tuple",data:=.seq #[x,y]}) z TI TO .ellipsis:=Gh _ zr5;refine Gg (Io zr6 (by simp) λg7 zr7 sb7=>?_)
 replace zr7:IsZip g7 z TI TO (rawInt g5.objs.size):=zr7
 refine Io zr7 (by simp) λg8 zr8 sb8=>?_
 replace zr8:IsZip g8 z TI TO (rawInt g5.objs.size):=zr8
 have up:∀c o,c≠z->g5.get? c=some o->g8.get? c=some o:=λc o e1 q=>sb8.extBut _ _ e1 (sb7.extBut _ _ e1 (Gh _ q));have pr8:IsPair g8 g5.objs.size x y:=sb8.extBut _ _ (HR zlt) (sb7.extBut _ _ (HR zlt) (Gw _ rfl));rw[size5] at zr8 pr8;refine Gq ⟨_,rfl,?_⟩;show Q (.ref g5.objs.size) _;rw[size5];exact hQ x y g8 _ px py zr8 (up _ _ D.a2 to5) (D1.frame _ _ _ s1e λb hb o q=>up b o (D.f1 (.inl rfl) b hb) q) (D2.frame _ _ _ s2e λb hb o q=>up b o (D.f2 (.inl rfl) b hb) q) pr8 λc o e1 e2 e3 e4 q=>up c o e1 (keep5 c o e1 e2 e3 e4 q)
theorem ug{TI TO:Addr}{k n1 n2:Nat}{a b:Value}{Q:Fin->Shared->Prop}(D:ZA z TI TO i1 i2 l1 l2)(D1:Draws prog w A i1 [i1,l1] n1 P1 S1)(D2:Draws prog w A i2 [i2,l2] n2 P2 S2)
  (hz:IsZip s.heap z TI TO .none) (hTI:IsPair s.heap TI (.ref i1) (.ref i2)) (hTO:IsPair s.heap TO a b) (st1:S1 k s.heap) (st2:S2 k s.heap) (hk:k=n1\/(k<n1/\k=n2))
  (hE:∀h' e tk,(∀c o,c≠z->c≠TO->c≠i1->c≠i2->s.heap.get? c=some o->h'.get? c=some o)->(∃o,h'.get? e=some o/\o.cls=.type "StopIteration")->E (.ref e) {s with heap:=h',toks:=tk}) :
  wpAny (model prog w) A (Builtin.«zip.__next__» ⟨[.ref z],[]⟩) Q E s:=by
 have zrec:=hz;show wpAny _ _ (field (.ref z) 2 >>= _) _ _ _;refine Gg (HU zrec rfl (x:=.bool false) rfl ?_);show wpAny _ _ (field (.ref z) 3 >>= _) _ _ _;refine Gg (HU zrec rfl (x:=.ref TI) rfl ?_);have tirec:=hTI;refine Gg (HY tirec rfl ?_);show wpAny _ _ (Builtin.SmallTypes.ownedTupleIsFree (.ref z) >>= _) _ _ _;refine Gg ?_;unfold Builtin.SmallTypes.ownedTupleIsFree;refine Gg (HU zrec rfl (x:=.none) rfl (Gq ?_));simp only[JE];refine Gg (Ku ?_);refine Gg (HU zrec rfl (x:=.ref TO) rfl ?_);refine Gg (Io zrec (by simp) λg1 zr1 sb1=>?_)
 replace zr1:IsZip g1 z TI TO .ellipsis:=zr1
 refine Gg ?_;simp only[List.zipIdx_cons,List.zipIdx_nil,KR,List.forIn_nil];refine Gg (Gg (Kp ?_));show wpAny _ _ (Builtin.SmallTypes.nextOf (.ref i1) >>= _) _ _ _;rcases hk with hk|⟨hk1,hk2⟩
 ·subst hk;refine Gg (D1.done _ _ _ (eK D1 st1 sb1.extBut (D.f1 (.inl rfl))) λg2 e sb2 he=>?_);obtain⟨oe,hoe,hce⟩:=he;have zr2:IsZip g2 z TI TO .ellipsis:=sb2 _ _ D.a3.symm zr1;have nez:e≠z:=λq=>by subst q;rw[zr2] at hoe;cases hoe;simp at hce
  refine Io zr2 (by simp) λg3 _ sb3=>hE g3 e _ (λc o e1 _ e3 _ q=>sb3.extBut _ _ e1 (sb2 _ _ e3 (sb1.extBut _ _ e1 q))) ⟨oe,sb3.extBut _ _ nez hoe,hce⟩
 ·subst hk2;refine Gg (D1.item k _ _ _ hk1 (eK D1 st1 sb1.extBut (D.f1 (.inl rfl))) λx g2 tk2 px st1b sb2=>Gq ?_);have to2:IsPair g2 TO a b:=sb2.extBut _ _ D.a5 (sb1.extBut _ _ D.a2 hTO);refine Gg (HY to2 rfl ?_);refine Gg (JN to2 λg3 to3 sb3=>?_);refine Gg (wpAny_letGo (Gq ?_));refine Gg (Gg (Kp ?_));show wpAny _ _ (Builtin.SmallTypes.nextOf (.ref i2) >>= _) _ _ _;have st2c:S2 k g3:=eK D2 (eK D2 (eK D2 st2 sb1.extBut (D.f2 (.inl rfl))) sb2.extBut (D.f2 (.inr (.inr rfl)))) sb3.extBut (D.f2 (.inr (.inl rfl)));refine Gg (D2.done _ _ _ st2c λg4 e sb4 he=>?_);obtain⟨oe,hoe,hce⟩:=he;have zr4:IsZip g4 z TI TO .ellipsis:=sb4 _ _ D.a4.symm (sb3.extBut _ _ D.a2.symm (sb2.extBut _ _ D.a3.symm zr1));have nez:e≠z:=λq=>by subst q;rw[zr4] at hoe;cases hoe;simp at hce
  refine Io zr4 (by simp) λg5 _ sb5=>hE g5 e _ (λc o e1 e2 e3 e4 q=>sb5.extBut _ _ e1 (sb4 _ _ e4 (sb3.extBut _ _ e2 (sb2.extBut _ _ e3 (sb1.extBut _ _ e1 q))))) ⟨oe,sb5.extBut _ _ nez hoe,hce⟩
end
noncomputable def oX(K:LA)(k:Bool)(H:Hp)(a:Addr)(xs:List V):Prop:=if k=true then bY K H a xs else bz K H a xs
noncomputable def i9(k:Bool)(h:Heap)(it a:Addr)(i:Nat):Prop:=if k=true then h.IsListIter it a i else h.IsTupleIter it a i
noncomputable def i8(k:Bool)(h:Heap)(a:Addr)(items:Array Value):Prop:=if k=true then h.IsList a items else h.IsTuple a items
theorem iJ{A:Around}(k:Bool)(hh:A.handled=none)(it l:Addr)(hne:l≠it)(items:Array Value):Draws prog w A it [it,l] items.size (λi v=>items[i]?=some v) (λi h=>i9 k h it l i/\i8 k h l items):=by
 cases k with
 |true=>exact Draws.list hh it l hne items
 |false=>exact h_ hh it l hne items
theorem Inv.sP{s:Shared}{k:Bool}(I:Inv X pins σ H s)(h:oX X.K k H a xs):∃its:List Value,Vals xs its/\i8 k s.heap a its.toArray:=by
 cases k with
 |true=>obtain⟨its,r,p,_⟩:=I.list h;exact⟨its,r,p.isList⟩
 |false=>obtain⟨its,r,p,_⟩:=I.tuple h;exact⟨its,r,p⟩
theorem Inv.oi{s:Shared}{k:Bool}{ys:List V}(I:Inv X pins σ H s)(h:oX X.K k H a xs)(h':oX X.K k H a ys):xs=ys:=by
 cases k with
 |true=>exact I.jq h h'
 |false=>exact I.ip h h'
noncomputable def zI(K:LA)(k1 k2:Bool)(a b:Addr):It:=
  ⟨λi H=>∃xs ys x y,oX K k1 H a xs/\oX K k2 H b ys/\xs[i]?=some x/\ys[i]?=some y,
   λi H v H'=>∃p x y,(∀xs,oX K k1 H a xs->xs[i]?=some x)/\(∀ys,oX K k2 H b ys->ys[i]?=some y)/\H p=none/\v=.ref p/\H'=upd H p (.tup [x,y]),
   λi H=>∃xs ys,oX K k1 H a xs/\oX K k2 H b ys/\i=min xs.length ys.length⟩
theorem i8.ty{k:Bool}(x:i8 k h a items):∃o,h.get? a=some o/\(o.cls=.type "list"\/o.cls=.type "tuple")/\∃n,o.data=.seq items n:=by
 cases k with
 |true=>obtain⟨o,e,c,n,d⟩:=(show h.IsList a items from x);exact⟨o,e,.inl c,n,d⟩
 |false=>obtain⟨o,e,c,n,d⟩:=(show h.IsTuple a items from x);exact⟨o,e,.inr c,n,d⟩
theorem i9.ty{k:Bool}(x:i9 k h it a i):∃o,h.get? it=some o/\(o.cls=.type "list_iterator"\/o.cls=.type "tuple_iterator")/\o.data=.fields #[.ref a,.int i 0]:=by
 cases k with
 |true=>obtain⟨o,e,c,d⟩:=(show h.IsListIter it a i from x);exact⟨o,e,.inl c,d⟩
 |false=>obtain⟨o,e,c,d⟩:=(show h.IsTupleIter it a i from x);exact⟨o,e,.inr c,d⟩
noncomputable def FF(k:Bool):String:=if k=true then "list_iterator" else "tuple_iterator"
abbrev EJ(h:Heap)(k1:Bool)(a:Addr):Heap:=h.push {cls:=.type (FF k1),data:=.fields #[.ref a,.int 0 0]}
abbrev EB(h:Heap)(k1 k2:Bool)(a b:Addr):Heap:=(EJ h k1 a).push {cls:=.type (FF k2),data:=.fields #[.ref b,.int 0 0]}
abbrev EK(h:Heap)(k1 k2:Bool)(a b:Addr):Heap:=(EB h k1 k2 a b).push {cls:=.type "tuple",data:=.seq #[.ref h.objs.size,.ref (EJ h k1 a).objs.size]}
abbrev EE(h:Heap)(k1 k2:Bool)(a b:Addr):Heap:=(EK h k1 k2 a b).push {cls:=.type "tuple",data:=.seq #[.none,.none]}
abbrev CB(h:Heap)(k1 k2:Bool)(a b:Addr):Heap:=(EE h k1 k2 a b).push {cls:=.type "zip",data:=.fields #[.none,.bool false,.bool false,.ref (EB h k1 k2 a b).objs.size,.ref (EK h k1 k2 a b).objs.size]}
theorem oa(x:h.IsTuple a items)(o:Obj):(h.push o).IsTuple a items:=by
 obtain⟨ob,e,r⟩:=x;exact⟨ob,Gh _ e,r⟩
theorem pQ(k1 k2:Bool)(a b:Addr)(xs ys:Array Value):
  Meets (Builtin.«zip.__new__» ⟨[.type "zip",.ref a,.ref b],[]⟩) (λ_ R s=>i8 k1 s.heap a xs/\i8 k2 s.heap b ys /\
   R (.ok (.ret (.ref (EE s.heap k1 k2 a b).objs.size))) {s with heap:=CB s.heap k1 k2 a b}):=
 .of_wp λprog w A R s h=>by
  obtain⟨hp,g,d,tk,os⟩:=s;obtain⟨q1,q2,h⟩:=h;have hsub:=sub_zip
  cases k1 with
  |true =>
   have w1:Heap.IsList (Shared.heap ⟨hp,g,d,tk,os⟩) a xs:=q1
   cases k2 with
   |true =>
    have w2:Heap.IsList (Shared.heap ⟨hp.push {cls:=.type "list_iterator",data:=.fields #[.ref a,.int 0 0]},g,d,tk,os⟩) b ys:=Heap.IsList.push q2 _;wp_walk using HP w1,HP w2;exact⟨_,rfl,h⟩
   |false =>
    have w2:Heap.IsTuple (Shared.heap ⟨hp.push {cls:=.type "list_iterator",data:=.fields #[.ref a,.int 0 0]},g,d,tk,os⟩) b ys:=oa q2 _;wp_walk using HP w1,HI w2;exact⟨_,rfl,h⟩
  |false =>
   have w1:Heap.IsTuple (Shared.heap ⟨hp,g,d,tk,os⟩) a xs:=q1
   cases k2 with
   |true =>
    have w2:Heap.IsList (Shared.heap ⟨hp.push {cls:=.type "tuple_iterator",data:=.fields #[.ref a,.int 0 0]},g,d,tk,os⟩) b ys:=Heap.IsList.push q2 _;wp_walk using HI w1,HP w2;exact⟨_,rfl,h⟩
   |false =>
    have w2:Heap.IsTuple (Shared.heap ⟨hp.push {cls:=.type "tuple_iterator",data:=.fields #[.ref a,.int 0 0]},g,d,tk,os⟩) b ys:=oa q2 _;wp_walk using HI w1,HI w2;exact⟨_,rfl,h⟩
theorem Ak{k:Bool}(e:h.get? it=some {cls:=.type (FF k),data:=.fields #[.ref a,.int 0 0]}):i9 k h it a 0:=by
 cases k with
 |true=>exact⟨_,e,rfl,rfl⟩
 |false=>exact⟨_,e,rfl,rfl⟩
section
variable {prog:Program} {w:World} {A:Around} {E:Value->Shared->Prop} {s:Shared}
theorem rR{k1 k2:Bool}{b:Addr}{xs ys:Array Value}(h1:i8 k1 s.heap a xs)(h2:i8 k2 s.heap b ys)
  (h:∀h',IsZip h' (s.heap.objs.size+4) (s.heap.objs.size+2) (s.heap.objs.size+3) .none->IsPair h' (s.heap.objs.size+2) (.ref s.heap.objs.size) (.ref (s.heap.objs.size+1))->IsPair h' (s.heap.objs.size+3) .none .none ->
   i9 k1 h' s.heap.objs.size a 0->i9 k2 h' (s.heap.objs.size+1) b 0->(∀c o,s.heap.get? c=some o->h'.get? c=some o)->Q (.ref (s.heap.objs.size+4)) {s with heap:=h'}) :
  wpAny (model prog w) A (call (.type "zip") [.ref a,.ref b]) Q E s:=by
 refine Lu F.called_zip (by decide) (F.typeCall_zip_2 _ _) (F.newCall_zip_2 _ _) (λobj=>F.args_object_init_3 obj _ _) F.entry_zip_new (pQ k1 k2 a b xs ys) ⟨h1,h2,?_⟩
 have e1:(EJ s.heap k1 a).objs.size=s.heap.objs.size+1:=HW ..;have e2:(EB s.heap k1 k2 a b).objs.size=s.heap.objs.size+2:=by rw[HW,e1]
 have e3:(EK s.heap k1 k2 a b).objs.size=s.heap.objs.size+3:=by rw[HW,e2]
 have e4:(EE s.heap k1 k2 a b).objs.size=s.heap.objs.size+4:=by rw[HW,e3]
 have p5:(CB s.heap k1 k2 a b).get? (EE s.heap k1 k2 a b).objs.size=some _:=Gw _ rfl;have p4:(CB s.heap k1 k2 a b).get? (EK s.heap k1 k2 a b).objs.size=some _:=Gh _ (Gw _ rfl);have p3:(CB s.heap k1 k2 a b).get? (EB s.heap k1 k2 a b).objs.size=some _:=Gh _ (Gh _ (Gw _ rfl));have p2:(CB s.heap k1 k2 a b).get? (EJ s.heap k1 a).objs.size=some _:=Gh _ (Gh _ (Gh _ (Gw _ rfl)));have p1:(CB s.heap k1 k2 a b).get? s.heap.objs.size=some _:=Gh _ (Gh _ (Gh _ (Gh _ (Gw _ rfl))));show _/\_;rw[e2,e3,e4] at p5;rw[e1,e2] at p3;rw[e3] at p4;rw[e1] at p2;rw[e4];exact⟨⟨_,p5,rfl⟩,h _ p5 p3 p4 (Ak p1) (Ak p2) λc o x=>Gh _ (Gh _ (Gh _ (Gh _ (Gh _ x))))⟩
end
theorem tG{w:World}{tk:Nat}(k1 k2:Bool)(a b z TI TO i1 i2:Addr)(D:ZA z TI TO i1 i2 a b):
  Turn P w K (.Tuple es tk tp) (zI K k1 k2 a b) [z,TI,TO,i1,i2] z (λi h=>IsZip h z TI TO .none/\IsPair h TI (.ref i1) (.ref i2)/\(∃x y,IsPair h TO x y)/\i9 k1 h i1 a i/\i9 k2 h i2 b i) where
 mem:=by simp
 obj:=λi h st c hc=>by
  obtain⟨s1,s2,⟨x,y,s3⟩,s4,s5⟩:=st;simp only[Gs,GI,Hn] at hc;rcases hc with rfl|rfl|rfl|rfl|rfl
  ·exact⟨_,s1,λv q=>by cases q⟩
  ·exact⟨_,s2,λv q=>by cases q⟩
  ·exact⟨_,s3,λv q=>by cases q⟩
  ·obtain⟨o,e,_,d⟩:=s4.ty;exact⟨o,e,λv q=>by rw[d] at q;cases q⟩
  ·obtain⟨o,e,_,d⟩:=s5.ty;exact⟨o,e,λv q=>by rw[d] at q;cases q⟩
 keep:=λi h h' st k=>by
  obtain⟨s1,s2,⟨x,y,s3⟩,s4,s5⟩:=st;refine⟨k z (by simp) _ s1,k TI (by simp) _ s2,⟨x,y,k TO (by simp) _ s3⟩,?_,?_⟩
  ·cases k1 with
   |true=>obtain⟨o,e,r⟩:=(show h.IsListIter i1 a i from s4);exact⟨o,k i1 (by simp) o e,r⟩
   |false=>obtain⟨o,e,r⟩:=(show h.IsTupleIter i1 a i from s4);exact⟨o,k i1 (by simp) o e,r⟩
  ·cases k2 with
   |true=>obtain⟨o,e,r⟩:=(show h.IsListIter i2 b i from s5);exact⟨o,k i2 (by simp) o e,r⟩
   |false=>obtain⟨o,e,r⟩:=(show h.IsTupleIter i2 b i from s5);exact⟨o,k i2 (by simp) o e,r⟩
 item:=by
  intro X hP hw hK hc i pins s σ H E I hf st hg;subst hP hw hK;obtain⟨xs,ys,x,y,q1,q2,ex,ey⟩:=hg;obtain⟨s1,s2,⟨x0,y0,s3⟩,s4,s5⟩:=st;obtain⟨its1,rv1,p1⟩:=I.sP q1;obtain⟨its2,rv2,p2⟩:=I.sP q2;obtain⟨u1,hu1,ru1⟩:=rv1.get ex;obtain⟨u2,hu2,ru2⟩:=rv2.get ey;have lt1:i<its1.toArray.size:=by have:=(Gm.mp hu1).1;simpa using this
  have lt2:i<its2.toArray.size:=by have:=(Gm.mp hu2).1;simpa using this
  have hT:s.TypeIs (.ref z) "zip":=⟨_,s1,rfl⟩;have D1:=iJ (prog:=X.prog) (w:=X.w) (A:=X.A.in1) k1 (I.ok.hd hc) i1 a D.a8.2.2.1 its1.toArray;have D2:=iJ (prog:=X.prog) (w:=X.w) (A:=X.A.in1) k2 (I.ok.hd hc) i2 b D.a9.2.2.2 its2.toArray;unfold pyNext;refine Gg (J5 (Hw (name:=Str.ofString "__next__") hT PySem.F.slot_zip_next (Hz PySem.F.slot_zip_next hT PySem.F.entry_zip_next
   (sy D D1 D2 s1 s2 s3 ⟨s4,p1⟩ ⟨s5,p2⟩ lt1 lt2 λv1 v2 h' tk' px py z1 t1 w1 w2 pr kp=>Gq ?_) (PySem.F.args_zip_next_1 _))))
  have fr:H s.heap.objs.size=none:=I.aU.fresh (Gp _);have ev1:v1=u1:=by rw[Ho,hu1] at px;exact (Option.some.inj px).symm
  have ev2:v2=u2:=by rw[Ho,hu2] at py;exact (Option.some.inj py).symm
  subst ev1 ev2;have lt:∀{c o},s.heap.get? c=some o->s.heap.objs.size≠c:=λe=>HR (Gz e);refine⟨.ref s.heap.objs.size,rfl,wpAny_letOwnedTupleGo_zip z1 λh2 z2 sb2=>?_⟩;have pr2:IsPair h2 s.heap.objs.size v1 v2:=sb2.extBut _ _ (lt s1) pr;have I2:Inv X pins σ (upd H s.heap.objs.size (.tup [x,y])) {s with heap:=h2,toks:=tk'}:=by
   refine I.lq (fp:=[z,TI,TO,i1,i2]) hf (Gp _) (λc o hcm ec=>?_) ⟨by show 2<=sizeLine;decide,[v1,v2],.cons ru1 (.cons ru2 .nil),⟨_,pr2,rfl,_,rfl,rfl⟩⟩
   simp only[Gs,GI,Hn,not_or] at hcm;exact sb2.extBut _ _ hcm.1 (kp c o hcm.1 hcm.2.2.1 hcm.2.2.2.1 hcm.2.2.2.2 ec)
  refine⟨.ref s.heap.objs.size,_,I2,rfl,⟨s.heap.objs.size,x,y,λzs hz=>by rw[I.oi hz q1];exact ex,λzs hz=>by rw[I.oi hz q2];exact ey,fr,rfl,rfl⟩,⟨z2,?_,⟨v1,v2,?_⟩,?_,?_⟩,λc hcm=>?_⟩
  ·exact sb2.extBut _ _ D.a1 (kp _ _ D.a1 D.b1.1 D.b1.2.1 D.b1.2.2 s2)
  ·exact sb2.extBut _ _ D.a2 t1
  ·have:=D1.frame (i+1) h' h2 w1 λc hcm o q=>sb2.extBut _ _ (D.f1 (.inl rfl) c hcm) q;exact this.1
  ·have:=D2.frame (i+1) h' h2 w2 λc hcm o q=>sb2.extBut _ _ (D.f2 (.inl rfl) c hcm) q;exact this.1
  ·have hn:=(hf c hcm).1;rw[ae]
   ·exact hn
   ·simp only[Gs,GI,Hn] at hcm;rcases hcm with rfl|rfl|rfl|rfl|rfl
    ·exact (lt s1).symm
    ·exact (lt s2).symm
    ·exact (lt s3).symm
    ·obtain⟨o,e,_⟩:=s4.ty;exact (lt e).symm
    ·obtain⟨o,e,_⟩:=s5.ty;exact (lt e).symm
 done:=by
  intro X hP hw hK hc i pins s σ H E I hf st hg;subst hP hw hK;obtain⟨xs,ys,q1,q2,hi⟩:=hg;obtain⟨s1,s2,⟨x0,y0,s3⟩,s4,s5⟩:=st;obtain⟨its1,rv1,p1⟩:=I.sP q1;obtain⟨its2,rv2,p2⟩:=I.sP q2;have n1:its1.toArray.size=xs.length:=by rw[Gy];exact rv1.length.symm
  have n2:its2.toArray.size=ys.length:=by rw[Gy];exact rv2.length.symm
  have hT:s.TypeIs (.ref z) "zip":=⟨_,s1,rfl⟩;have D1:=iJ (prog:=X.prog) (w:=X.w) (A:=X.A.in1) k1 (I.ok.hd hc) i1 a D.a8.2.2.1 its1.toArray;have D2:=iJ (prog:=X.prog) (w:=X.w) (A:=X.A.in1) k2 (I.ok.hd hc) i2 b D.a9.2.2.2 its2.toArray;unfold pyNext;refine Gg (J5 (Hw (name:=Str.ofString "__next__") hT PySem.F.slot_zip_next (Hz PySem.F.slot_zip_next hT PySem.F.entry_zip_next
   (ug D D1 D2 s1 s2 s3 ⟨s4,p1⟩ ⟨s5,p2⟩ (by rw[n1,n2];lia) λh' e tk' kp he=>?_) (PySem.F.args_zip_next_1 _))))
  obtain⟨o,ho,hcl⟩:=he;refine Gg (wpAny_isInstance (T:="StopIteration") (b:=true) ⟨o,ho,hcl⟩ isSubtype_stop (Gq ⟨rfl,?_⟩));refine I.turns (t':=tk') hf λc o hcm ec=>?_;simp only[Gs,GI,Hn,not_or] at hcm;exact kp c o hcm.1 hcm.2.2.1 hcm.2.2.2.1 hcm.2.2.2.2 ec
 self:=λA i s Q E st h=>wpAny_pyIter_zip st.1 h
section
variable {X:Cx} {es:List Expr} {tk:Nat} {tp:Pos}
noncomputable def n_(K:LA)(ta:TA):TI:=λσ H R=>ta σ H λvs H1=>∃a b k1 k2,vs=[.ref a,.ref b]/\(∃xs,oX K k1 H1 a xs)/\(∃ys,oX K k2 H1 b ys)/\R (zI K k1 k2 a b) H1
theorem zg{e1 e2:Expr}{p pos:Pos}(hg:Gl X "zip")(hm:X.mg "zip"=none)(ha:PA X [e1,e2] ta)(h1:autoParam (fo e1=true) ℜ0)(h2:autoParam (fo e2=true) ℜ0)(hv:autoParam (bootBuiltins "zip"=some (.type "zip")) ℜ6):
  PI X (.Tuple es tk tp) (.Call (.Name "zip" p) [e1,e2] [] pos) (n_ X.K ta):=by
 intro pins s σ H R I h;refine Call_ (e_ I hg hm hv (Hv (bJ (ha pos pins s σ H _ I h) λus s1 hq1=>?_) (by rw[cS h1,cS h2]) (by rw[cS h2];rfl)))
 obtain⟨vs,H1,I1,r1,q1⟩:=hq1;obtain⟨a,b,k1,k2,e,⟨xs,hx⟩,⟨ys,hy⟩,q⟩:=q1;subst e;obtain⟨u,w',rfl,ru,rw'⟩:=vals2 r1
 cases ru;cases rw'
 obtain⟨its1,rv1,p1⟩:=I1.sP hx;obtain⟨its2,rv2,p2⟩:=I1.sP hy;obtain⟨o1,eo1,_⟩:=p1.ty;obtain⟨o2,eo2,_⟩:=p2.ty;have l1:a<s1.heap.objs.size:=Gz eo1;have l2:b<s1.heap.objs.size:=Gz eo2;refine rR p1 p2 λh' z1 z2 z3 z4 z5 kp=>wpAny_pyIter_zip z1 ?_;have I2:Inv X pins σ H1 {s1 with heap:=h'}:=I1.kept (t':=s1.toks) kp
 have ne:∀(m n c:Nat),m≠n->c+m≠c+n:=λm n c h=>by lia
 have nl:∀(x c m:Nat),x<c->x≠c+m:=λx c m h=>by lia
 have D:ZA (s1.heap.objs.size+4) (s1.heap.objs.size+2) (s1.heap.objs.size+3) s1.heap.objs.size (s1.heap.objs.size+1) a b:=
  ⟨ne 2 4 _ (by decide),ne 3 4 _ (by decide),ne 0 4 _ (by decide),ne 1 4 _ (by decide),ne 3 0 _ (by decide),ne 3 1 _ (by decide),ne 0 1 _ (by decide),⟨nl _ _ 4 l1,nl _ _ 3 l1,nl _ _ 0 l1,nl _ _ 1 l1⟩,⟨nl _ _ 4 l2,nl _ _ 3 l2,nl _ _ 0 l2,nl _ _ 1 l2⟩,ne 2 3 _ (by decide),ne 2 0 _ (by decide),ne 2 1 _ (by decide)⟩
 refine⟨s1.heap.objs.size+4,[s1.heap.objs.size+4,s1.heap.objs.size+2,s1.heap.objs.size+3,s1.heap.objs.size,s1.heap.objs.size+1],_,_,H1,rfl,I2,tG k1 k2 a b _ _ _ _ _ D,⟨z1,z2,⟨_,_,z3⟩,z4,z5⟩,λc hc=>?_,q⟩;have hc':s1.heap.objs.size<=c:=by
  simp only[Gs,GI,Hn] at hc;rcases hc with rfl|rfl|rfl|rfl|rfl
  ·exact J9 _ _
  ·exact J9 _ _
  ·exact J9 _ _
  ·exact Gp _
  ·exact J9 _ _
 exact I1.lg hc' (I1.aU.fresh hc')
end
noncomputable def oE(K:LA):Sp:=λvs H Q _=>∃(a:Addr) (ns:List Int),vs=[.ref a]/\bY K H a (ns.map V.int)/\ns.length<=63/\∀H',Q (.bl true) H'
namespace Y
theorem iT:fillsNumberSlot (.type "tuple") "mul"=pure false:=
 PySem.fillsNumberSlot_seq (id:="tuple.__mul__") (r:=some (.builtin "tuple.__rmul__")) PySem.F.slot_tuple_mul.lookup (by decide +kernel) PySem.F.slot_tuple_rmul.lookup (by decide +kernel)
theorem pN:seqRepeat? (.type "tuple")=pure (some (.builtin "tuple.__mul__")):=by
 unfold seqRepeat?;rw[PySem.seqSlot_of (T:="tuple") (name:="__mul__") (id:="tuple.__mul__") PySem.F.slot_tuple_mul.lookup (by decide +kernel),PySem.seqSlot_of (T:="tuple") (name:="__rmul__") (id:="tuple.__rmul__") PySem.F.slot_tuple_rmul.lookup (by decide +kernel)];rfl
theorem wu(a:Int)(t:Tok)(l:Addr)(ob:Obj)(items:Array Value)(n:Nat)(hc:ob.cls=.type "tuple")(hd:ob.data=.seq items n):
  Meets (Builtin.«int.__rmul__» ⟨[.int a t,.ref l],[]⟩) (λ_ R s=>s.heap.get? l=some ob/\R (.ok (.ret Value.notImplemented)) s):=
 .of_wp λprog w A R s h=>by
  obtain⟨hp,g,d,tk,os⟩:=s;obtain⟨hl,h⟩:=h;obtain⟨c,dd,da,sl⟩:=ob;simp only at hc hd;subst hc hd
  wp_walk
  exact⟨_,rfl,h⟩
theorem xV(l:Addr)(items:Array Value)(ob:Obj)(n:Nat)(k:Int)(t:Tok)(hc:ob.cls=.type "tuple")(hd:ob.data=.seq items n)(hne:items.isEmpty=false)(h1:1<k)(h2:k<=1000)(hsz:items.size<=1000):
  Meets (Builtin.«tuple.__mul__» ⟨[.ref l,.int k t],[]⟩) (λ_ R s=>s.heap.get? l=some ob/\R (.ok (.ret (.ref s.heap.objs.size))) {s with heap:=s.heap.push {cls:=.type "tuple",data:=.seq ((List.replicate k.toNat items).foldl (·++·) #[])}}):=
 .of_wp λprog w A R s h=>by
  obtain⟨hp,g,d,tk,os⟩:=s;obtain⟨hl,h⟩:=h;obtain⟨c,dd,da,sl⟩:=ob;simp only at hc hd;subst hc hd;have e1:(decide (k < -(2^63)) || decide (k >= 2^63))=false:=by rw[GJ (by lia),GJ (by lia)];rfl
  have e2:(items.isEmpty || k == 1)=false:=by rw[hne,Hb.mpr (by lia)];rfl
  have e3:(decide (k<=0) || items.isEmpty)=false:=by rw[hne,GJ (by lia)];rfl
  wp_walk using AutoSeq1.wpAny_loadPart' hl;rw[Gj (by rw[e1];exact Gx)]
  have ht:IsTup (Shared.heap ⟨hp,g,d,tk,os⟩) l items:=⟨_,hl,rfl,n,rfl⟩;show wpAny _ _ (Builtin.Tuple.tupleItemsOf (.ref l) >>= _) _ _ _;refine Gg (tupleItemsOf_ ht ?_);rw[Gj (by rw[e2];exact Gx)]
  show wpAny _ _ (if (decide (k<=0) || items.isEmpty)=true then _ else _) _ _ _
  rw[Gj (by rw[e3];exact Gx)]
  have hm:(items.size:Int)*k<=1000*1000:=Int.mul_le_mul (by lia) h2 (by lia) (by lia)
  show wpAny _ _ (if (items.size:Int)*k >(2^63-1) / 8 then _ else _) _ _ _
  rw[Gj (by lia)]
  show wpAny _ _ (if Builtin.Tuple.tupleTooMany ((items.size:Int)*k)=true then _ else _) _ _ _
  have e4:Builtin.Tuple.tupleTooMany ((items.size:Int)*k)=false:=GJ (by
   have:((sizeLine:Nat):Int) >= 1000000:=by decide
   lia)
  rw[Gj (by rw[e4];exact Gx)]
  have hl2:((List.replicate k.toNat items).foldl (·++·) #[]).size<=sizeLine:=by
   have fs:∀(m:Nat) (acc:Array Value),((List.replicate m items).foldl (·++·) acc).size=acc.size+m*items.size:=λm=>by
    induction m with
    |zero=>intro acc;simp
    |succ m ih=>intro acc;rw[Hh,KQ,ih,Array.size_append,K2];lia
   rw[fs];have h3:k.toNat*items.size<=1000*1000:=Nat.mul_le_mul (by lia) hsz
   have h4:(1000000:Nat)<=sizeLine:=by decide
   simp;lia
  exact Gg (m:=Builtin.Tuple.tupleExact _) (HN (Gq ⟨_,rfl,h⟩) hl2)
theorem sv(its:List Value):∀(m:Nat) (acc:List Value),(List.replicate m its.toArray).foldl (·++·) acc.toArray=(acc++(List.replicate m its).flatten).toArray:=λm acc=>foldl_rep its m acc
noncomputable def Aw(K:LA):R2:=λx y H Q=>∃a k xs,x=.ref a/\y=.int k/\bz K H a xs/\xs≠[]/\xs.length<=1000/\1<k/\k<=1000/\∀p,H p=none->Q (.ref p) (upd H p (.tup (List.replicate k.toNat xs).flatten))
theorem yD:dy X (binaryOp .Mult) (Aw X.K):=by
 intro pins s σ H x y v u Q I rx ry h;obtain⟨a,k,xs,rfl,rfl,hx,hne,hsz,h1,h2,q⟩:=h;cases rx;obtain⟨t,rfl⟩:=ry;obtain⟨its,r,p,hz⟩:=I.tuple hx;obtain⟨ob,ho,hc,n,hd⟩:=id p;have hlen:=r.length;have hemp:its.toArray.isEmpty=false:=by
  cases its with
  |nil=>cases r;exact absurd rfl hne
  |cons a b=>rfl
 refine Kt (T:="tuple") (U:="int") (by decide) ⟨_,ho,hc⟩ (λs'=>Ks s' k t) iT PySem.F.fills_int_mul PySem.F.slot_int_rmul pN PySem.F.slot_int_index.lookup
  (IZ PySem.F.slot_int_rmul (Ks s k t) PySem.F.entry_int_rmul (PySem.F.args_int_rmul_2 _ _) (wu k t a ob its.toArray n hc hd)
   ⟨ho,rfl,⟨_,ho,hc⟩,IZ PySem.F.slot_tuple_mul ⟨_,ho,hc⟩ PySem.F.entry_tuple_mul (PySem.F.args_tuple_mul_2 _ _) (xV a its.toArray ob n k t hc hd hemp h1 h2 (by rw[Gy];lia)) ⟨ho,?_⟩⟩)
 have e0:=sv its k.toNat [];rw[HF] at e0;have e0':(List.replicate k.toNat its.toArray).foldl (·++·) #[]=(List.replicate k.toNat its).flatten.toArray:=e0;rw[e0'];refine⟨.ref s.heap.objs.size,_,I.laid (t':=s.toks) (o:=.tup (List.replicate k.toNat xs).flatten) (λb ob q=>Gh _ q) (Gp _) ?_,rfl,q _ (I.aU.fresh (Gp _))⟩;refine⟨?_,_,r.rep k.toNat,dM.new _ _⟩;rw[len_rep];have h3:k.toNat*xs.length<=1000*1000:=Nat.mul_le_mul (by lia) hsz
 exact Gr h3 (by decide)
noncomputable def Ad(K:LA):R2:=λx y H Q=>C0 x y H Q\/Aw K x y H Q
theorem lT(K:LA)(hK:X.K=K):dy X (binaryOp .Mult) (Ad K):=by subst hK;exact cp.or yD
end Y
open PySem PySem.Spec PyProof PyProof.Rows
namespace Y
theorem gH:∀{us:List Value} {ns:List Int},IntsAre us ns->Vals (ns.map V.int) us
 |_,_,.nil=>.nil
 |_,_,.cons n t h=>.cons ⟨t,rfl⟩ (gH h)
theorem mT:∀{us:List Value} {ns:List Int},IntsAre us ns->us.length=ns.length
 |_,_,.nil=>rfl
 |_,_,.cons n t h=>by simp[mT h]
section
variable {prog:Program} {w:World} {A:Around} {E:Value->Shared->Prop} {s:Shared}
theorem nv{l:Addr}{vs:List Value}{Q:List Value->Shared->Prop}(hl:IsTup s.heap l vs.toArray)(hsz:vs.length<=sizeLine)
  (h:Q vs {s with heap:=(s.heap.push (seqObj "list" #[] 0)).update s.heap.objs.size (Obj.mapSeq (·++vs.toArray))}):wpAny (model prog w) A (collect (.ref l)) Q E s:=by
 obtain⟨o,ho,hc,n,hd⟩:=id hl;unfold collect;refine Gg (wpAny_runValue (IP entry_proto_collect' ?_));show wpAny _ _ (do again (.builtin "list.__iadd__" ⟨[<- newList [],.ref l],[]⟩)) _ _ s
 refine Gg (Jg (Gq ⟨Code.quiet_builtin _ (by decide +kernel),IP entry_list_iadd' ?_⟩))
 show wpAny _ _ (Builtin.List.listExtendWith (.ref s.heap.objs.size) (.ref l) (.ref s.heap.objs.size)) _ _ {s with heap:=s.heap.push (seqObj "list" #[] 0)}
 unfold Builtin.List.listExtendWith;have ho':(s.heap.push (seqObj "list" #[] 0)).get? l=some o:=Gh _ ho;refine Gg (Lv (T:="tuple") ⟨o,ho',hc⟩ ?_);have ht:(Value.type "tuple" == Value.type "tuple")=true:=by rfl
 rw[Gn (by rw[ht];simp)]
 refine Gg (JO ho' hd ?_);refine Gg (JO (xs:=#[]) (n:=0) (Gw _ rfl) rfl ?_);rw[Gj (by simp)]
 refine Gg (J6 (xs:=#[]) (n:=0) (Gw _ rfl) rfl ?_ (GH _) (by show (#[]++vs.toArray).size<=sizeLine+1;simp only[Array.size_append,Gy,Hu];lia))
 refine Gq ?_;show wpAny (model prog w) A (load s.heap.objs.size >>= _) Q E {s with heap:=(s.heap.push (seqObj "list" #[] 0)).update s.heap.objs.size (Obj.mapSeq (·++vs.toArray))}
 refine Gg (wpAny_load (Jk (Gw _ rfl) _) ?_);show wpAny _ _ (pure ((#[]:Array Value)++vs.toArray).toList) Q E _;rw[show ((#[]:Array Value)++vs.toArray).toList=vs by simp]
 exact Gq h
theorem qi{l:Addr}{vs:List Value}(hl:IsTup s.heap l vs.toArray)(hI:IntsAre vs ns)(h64:vs.length<64)
  (h:∀(out:Array Value) (ns':List Int),IntsAre out.toList ns'->ns'.Perm ns->ns'.Pairwise (·<=·)->Q (.ref (s.heap.objs.size+1)) {s with heap:=sortedAll s.heap vs out}) :
  wpAny (model prog w) A (call (.builtin "sorted") [.ref l]) Q E s:=by
 have hz:vs.length<=sizeLine:=Gr (Iz h64) (by decide)
 refine Kv kind_sorted plain_sorted entry_sorted (args_sorted1 _) ?_;unfold Builtin.«sorted»;refine Gg (m:=checkCount "sorted" 1 1 _) (Gq ?_);refine Gg (nv hl hz ?_);refine Gg (Jg ?_ hz);have hs:((s.heap.push (seqObj "list" #[] 0)).update s.heap.objs.size (Obj.mapSeq (·++vs.toArray))).objs.size=s.heap.objs.size+1:=by rw[K7,size_push']
 have ho:(((s.heap.push (seqObj "list" #[] 0)).update s.heap.objs.size (Obj.mapSeq (·++vs.toArray))).push (seqObj "list" vs.toArray 0)).get? (s.heap.objs.size+1)=some (seqObj "list" vs.toArray 0):=by
  rw[<- hs];exact Gw _ rfl
 show wpAny _ _ _ _ _ {s with heap:=((s.heap.push (seqObj "list" #[] 0)).update s.heap.objs.size (Obj.mapSeq (·++vs.toArray))).push (seqObj "list" vs.toArray 0)}
 rw[hs];refine Gg (Hg (Hz slot_list_sort ⟨_,ho,rfl⟩ entry_list_sort (list_sort_tree ho hI h64 λout ns' a1 a2 a3=>⟨_,rfl,?_⟩) (args_list_sort _)));exact Gq ⟨_,rfl,h out ns' a1 a2 a3⟩
end
noncomputable def DF(K:LA):List V->Hp->VK->Prop:=λxs H Q=>∃p ns,xs=[.ref p]/\bz K H p (ns.map V.int)/\ns.length<64/\∀ns':List Int,ns'.Perm ns->ns'.Pairwise (·<=·)->∀l,H l=none->Q (.ref l) (upd H l (.lst (ns'.map V.int)))
theorem tq(K:LA)(hK:X.K=K):b6 X (.builtin "sorted") (DF K):=by
 subst hK;intro pins s σ H xs us Q I r h;obtain⟨p,ns,rfl,hq,h64,q⟩:=h;obtain⟨u,rfl,ru⟩:=vals1 r;cases ru;obtain⟨its,rv,pl,hz⟩:=I.tuple hq;have hi:=intsAre_of rv;refine qi pl hi (by rw[mT hi];exact h64) λout ns' a1 a2 a3=>?_
 obtain⟨e,he⟩:=sortedAll_at s.heap its out;refine⟨.ref (s.heap.objs.size+1),_,I.laid (t':=s.toks) (λb ob q=>sortedAll_old q) (HD _) (show bf X.prog X.w _ _ _ (.lst (ns'.map V.int)) from⟨?_,out.toList,e,gH a1,by simpa using he⟩),rfl,q ns' a2 a3 _ (I.aU.fresh (HD _))⟩
 rw[Gu,a2.length_eq];exact Gr (Iz h64) (by decide)
theorem wO(l:List Nat):∀(n a:Nat),((List.range n).map (λk=>a+k)).filterMap (l[·]?)=(l.drop a).take n
 |0,_=>by simp
 |n+1,a=>by
  rw[JP,GU,List.filterMap_append,wO l n a,List.take_add_one,HX]
  cases h:l[a+n]?<;>simp[h]
theorem ni(lo hi:Option Int)(n:Nat):Builtin.Str.strSliceIndices lo hi 1 n=(List.range (HT.b_ n n hi-HT.b_ n 0 lo)).map (λk=>HT.b_ n 0 lo+k):=by
 have ea:∀(v:Int),max 0 (min (if v<0 then v+(n:Int) else v) (n:Int))=(((if v<0 then (v+(n:Int)).toNat else min v.toNat n):Nat):Int):=by
  intro v;split<;>lia
 have e:Builtin.Str.strSliceIndices lo hi 1 n=sliceRange (HT.b_ n 0 lo) (HT.b_ n n hi) 1:=by
  cases lo with
  |none=>cases hi with
   |none=>rfl
   |some j=>show sliceRange 0 (max 0 (min (if j<0 then j+(n:Int) else j) (n:Int))) 1=_;rw[ea];rfl
  |some i=>cases hi with
   |none=>show sliceRange (max 0 (min (if i<0 then i+(n:Int) else i) (n:Int))) n 1=_;rw[ea];rfl
   |some j=>show sliceRange (max 0 (min (if i<0 then i+(n:Int) else i) (n:Int))) (max 0 (min (if j<0 then j+(n:Int) else j) (n:Int))) 1=_;rw[ea,ea];rfl
 rw[e];generalize HT.b_ n 0 lo=a;generalize HT.b_ n n hi=b;unfold sliceRange;simp only[show ((1:Int) > 0)=True from by simp,JE,Int.one_mul]
 have c:(if (a:Int)<(b:Int) then ((b:Int)-a+1-1) / 1 else 0).toNat=b-a:=by split<;>lia
 rw[c];refine List.map_congr_left λk _=>?_;lia
theorem pK(z:Str)(lo hi:Option Int):Txt.slice z lo hi=⟨((z.cps.toList.drop (HT.b_ z.cps.toList.length 0 lo)).take (HT.b_ z.cps.toList.length z.cps.toList.length hi-HT.b_ z.cps.toList.length 0 lo)).toArray⟩:=by
 have hl:z.cps.toList.length=z.length:=Hc;rw[hl];have hp:(Builtin.Str.strSliceIndices lo hi 1 z.length).filterMap (z.cps[·]?)=(z.cps.toList.drop (HT.b_ z.length 0 lo)).take (HT.b_ z.length z.length hi-HT.b_ z.length 0 lo):=by
  rw[ni];have:=wO z.cps.toList (HT.b_ z.length z.length hi-HT.b_ z.length 0 lo) (HT.b_ z.length 0 lo)
  simpa using this
 unfold Txt.slice;split
 ·rename_i h;rw[ni] at h;simp at h;have h2:=HT.pB z.length z.length (Gp _) hi;have h3:=HT.pB z.length 0 (GH _) lo;have a0:HT.b_ z.length 0 lo=0:=by lia
  have b0:HT.b_ z.length z.length hi=z.length:=by lia
  rw[a0,b0,HL,K8,<- hl,IB]
 ·rw[hp]
noncomputable def fF(z:Str)(lo hi:Option Int):Str:=⟨(jt z.cps.toList lo hi).toArray⟩
theorem sk(z:Str)(lo hi:Option Int):Txt.slice z lo hi=fF z lo hi:=pK z lo hi
noncomputable def EU:V->Option Int->Option Int->Hp->VK->Prop:=λx lo hi H Q=>∃z,x=.str z/\z.length<=sizeLine/\Q (.str (fF z lo hi)) H
theorem dZ:Aq X EU:=by
 intro pins s σ H x v vl vu lo hi sl Q I rx hs pl pu h;obtain⟨z,rfl,hz,q⟩:=h;rw[<- sk] at q;obtain⟨t,rfl⟩:=rx;refine⟨"str",_,PySem.F.slot_str_getitem.lookup,Ln _ _ _,?_⟩
 cases pl<;>cases pu
 ·exact IJ (l:=none) (u:=none) (st:=none) hs rfl (JQ ⟨Gr (Txt.slice_le z _ _) hz,λt' k=>⟨.str _,H,I.tok _,⟨_,rfl⟩,q⟩⟩)
 ·exact IJ (l:=none) (u:=some (_,_)) (st:=none) hs rfl (JQ ⟨Gr (Txt.slice_le z _ _) hz,λt' k=>⟨.str _,H,I.tok _,⟨_,rfl⟩,q⟩⟩)
 ·exact IJ (l:=some (_,_)) (u:=none) (st:=none) hs rfl (JQ ⟨Gr (Txt.slice_le z _ _) hz,λt' k=>⟨.str _,H,I.tok _,⟨_,rfl⟩,q⟩⟩)
 ·exact IJ (l:=some (_,_)) (u:=some (_,_)) (st:=none) hs rfl (JQ ⟨Gr (Txt.slice_le z _ _) hz,λt' k=>⟨.str _,H,I.tok _,⟨_,rfl⟩,q⟩⟩)
noncomputable def jC(z y:Str)(i:Int):Bool:=decide (fromIndex z.length i+y.length<=z.length) && Builtin.Str.subAt z y (fromIndex z.length i)
noncomputable def uL:V->List V->Hp->VK->Prop:=λx vs H Q=>∃z y i,x=.str z/\vs=[.str y,.int i]/\Q (.bl (jC z y i)) H
theorem pR:vj X "str.startswith" uL:=by
 intro pins s σ H x xs v us Q I rx rs h;obtain⟨z,y,i,rfl,rfl,q⟩:=h;obtain⟨t,rfl⟩:=rx;obtain⟨_,_,rfl,r1,rs⟩:=Paired.Ax rs;obtain⟨_,_,rfl,r2,rs⟩:=Paired.Ax rs;obtain rfl:=Paired.zw rs;obtain⟨u1,rfl⟩:=r1;obtain⟨u2,rfl⟩:=r2;exact call_gives PySem.F.slot_str_startswith (Ln _ _ _) PySem.F.entry_str_startswith (PySem.F.args_str_startswith_3 _ _ _) (gives_str_startswith_from z y i t _ _) ⟨.bl _,H,I,rfl,q⟩
end Y
abbrev Xw:=T->Mu->Prop
abbrev UX:=Mu->(R->Mu->Prop)->Xw->Prop
abbrev FY:=Ed->Xw->Mu->Prop
noncomputable def BV(K:LA)(mg:Str->Option Value)(x:Str)(f:Addr)(cdv:Value):Prop:=mg x=some (.ref f)/\∃(o:Obj) (fd:FuncData),K.lookup f=some o/\o.data=.func fd/\fd.code=cdv
abbrev UJ:=Mu->(Mu->Prop)->Prop
theorem nA:∀{ws:List Str} {its:List Value},Vals (ws.map V.str) its->∀(m:Nat) (y:Str),ws[m]?=some y->∃t,its[m]?=some (.str y t):=λr m y e=>by
 obtain⟨u,h1,h2⟩:=r.get (i:=m) (x:=V.str y) (by rw[G0,e];rfl)
 obtain⟨t,rfl⟩:=(show RelV (.str y) u from h2);exact⟨t,h1⟩
open Builtin Builtin.Str
noncomputable def Eo(z:Str):It:=⟨λi _=>i<z.cps.size,λi H x H'=>H'=H/\∃c,z.cps[i]?=some c/\x=.str ⟨#[c]⟩,λi _=>z.cps.size<=i⟩
theorem sS(z:Str)(t:Tok)(it:Addr):Turn P w K tg (Eo z) [it] it (λi h=>h.IsStrIter it "str_ascii_iterator" z t i) where
 mem:=by simp
 obj:=λi h st b hb=>by
  have e:b=it:=by simpa using hb
  subst e;obtain⟨o,e,c,d⟩:=st;exact⟨o,e,λv z=>by rw[d] at z;cases z⟩
 keep:=λi h h' st k=>let ⟨o,e,r⟩:=st;⟨o,k it (by simp) o e,r⟩
 item:=by
  intro X hP hw hK hc i pins s σ H E I hf st hg;subst hP hw hK;obtain⟨f0,f1,f2,f3,f4,f5⟩:=hf it (by simp)
  have hi:i<z.cps.size:=hg;refine wpAny_pyNext_ascii_item st (c:=z.cps[i]) (by simp[hi]) λh' st' sb=>?_
  have I1:Inv X pins σ H {s with heap:=h',toks:=s.toks+1}:=I.turned (t':=s.toks+1) (λb o hb e=>(sb.2 b hb).trans e) f0 f1 f3 f4 f5
  obtain⟨o,e,c,d⟩:=id st';exact⟨_,rfl,nN (s:={s with heap:=h',toks:=s.toks+1}) e c d (by decide) ⟨.str ⟨#[z.cps[i]]⟩,H,I1,⟨_,rfl⟩,⟨rfl,_,by simp[hi],rfl⟩,st',λb hb=>(hf b hb).1⟩⟩
 done:=by
  intro X hP hw hK hc i pins s σ H E I hf st hg;subst hP hw hK;obtain⟨f0,f1,f2,f3,f4,f5⟩:=hf it (by simp)
  have hi:z.cps.size<=i:=hg;exact wpAny_pyNext_ascii_end (I.ok.hd hc) st (by simpa using hi) λh' eb=>⟨rfl,I.turned (t':=s.toks) (λb o hb e=>eb b o hb e) f0 f1 f3 f4 f5⟩
 self:=λ_ _ _ _ _ st h=>wpAny_pyIter_striter_ascii st h
theorem tJ(z:Str)(t:Tok)(it:Addr):Turn P w K tg (Eo z) [it] it (λi h=>h.IsStrIter it "str_iterator" z t i) where
 mem:=by simp
 obj:=λi h st b hb=>by
  have e:b=it:=by simpa using hb
  subst e;obtain⟨o,e,c,d⟩:=st;exact⟨o,e,λv z=>by rw[d] at z;cases z⟩
 keep:=λi h h' st k=>let ⟨o,e,r⟩:=st;⟨o,k it (by simp) o e,r⟩
 item:=by
  intro X hP hw hK hc i pins s σ H E I hf st hg;subst hP hw hK;obtain⟨f0,f1,f2,f3,f4,f5⟩:=hf it (by simp)
  have hi:i<z.cps.size:=hg;refine wpAny_pyNext_wide_item st (c:=z.cps[i]) (by simp[hi]) λh' st' sb=>?_
  have I1:Inv X pins σ H {s with heap:=h',toks:=s.toks+1}:=I.turned (t':=s.toks+1) (λb o hb e=>(sb.2 b hb).trans e) f0 f1 f3 f4 f5
  obtain⟨o,e,c,d⟩:=id st';exact⟨_,rfl,nN (s:={s with heap:=h',toks:=s.toks+1}) e c d (by decide) ⟨.str ⟨#[z.cps[i]]⟩,H,I1,⟨_,rfl⟩,⟨rfl,_,by simp[hi],rfl⟩,st',λb hb=>(hf b hb).1⟩⟩
 done:=by
  intro X hP hw hK hc i pins s σ H E I hf st hg;subst hP hw hK;obtain⟨f0,f1,f2,f3,f4,f5⟩:=hf it (by simp)
  have hi:z.cps.size<=i:=hg;exact wpAny_pyNext_wide_end (I.ok.hd hc) st (by simpa using hi) λh' eb=>⟨rfl,I.turned (t':=s.toks) (λb o hb e=>eb b o hb e) f0 f1 f3 f4 f5⟩
 self:=λ_ _ _ _ _ st h=>wpAny_pyIter_striter_wide st h
noncomputable def xr(tl:TE):TI:=λσ H R=>tl σ H λx H1=>∃z,x=V.str z/\R (Eo z) H1
theorem BL{l:Expr}(hl:PE X l tl):PI X tg l (xr tl):=by
 intro pins s σ H R I h;refine bJ (hl pins s σ H _ I h) λv s1 hq1=>?_;obtain⟨x,H1,I1,r1,q1⟩:=hq1;obtain⟨z,rfl,q⟩:=q1;obtain⟨t,rfl⟩:=r1;have fr:∀b∈[s1.heap.objs.size],jn X pins H1 b:=λb hb=>by
  have e:b=s1.heap.objs.size:=by simpa using hb
  subst e;exact I1.lg (Gp _) (I1.aU.fresh (Gp _))
 cases ha:z.cps.all (· < 128)
 ·refine wpAny_pyIter_wide ha ?_;exact⟨s1.heap.objs.size,[s1.heap.objs.size],_,_,H1,rfl,I1.kept (t':=s1.toks) λb o e=>Gh _ e,tJ z t _,⟨_,Gw _ rfl,rfl,rfl⟩,fr,q⟩
 ·refine wpAny_pyIter_ascii ha ?_;exact⟨s1.heap.objs.size,[s1.heap.objs.size],_,_,H1,rfl,I1.kept (t':=s1.toks) λb o e=>Gh _ e,sS z t _,⟨_,Gw _ rfl,rfl,rfl⟩,fr,q⟩
open PySem PySem.Spec PyProof PyProof.Rows
noncomputable def y3(K:LA)(a:Addr):It:=
 ⟨λi H=>∃x,getL K a i H x,λi H x H'=>∃p y,(∀xs,bY K H a xs->xs[i]?=some y)/\H p=none/\x=.ref p/\H'=upd H p (.tup [.int i,y]),Fo K a⟩
theorem pe{P:Program}{w:World}{K:LA}{es:List Expr}{tk:Nat}{tp:Pos}(a it e:Addr)(hne:e≠it):Turn P w K (.Tuple es tk tp) (y3 K a) [e,it] e (λi h=>(∃old,IsEnum h e it i old)/\h.IsListIter it a i) where
 mem:=by simp
 obj:=λi h st b hb=>by
  obtain⟨⟨old,he⟩,o,eo,c,d⟩:=st;rcases Gs.mp hb with z|z
  ·subst z;exact⟨_,he,λv z=>by cases z⟩
  ·have z:b=it:=by simpa using z
   subst z;exact⟨o,eo,λv z=>by rw[d] at z;cases z⟩
 keep:=λi h h' st k=>by
  obtain⟨⟨old,he⟩,o,eo,r⟩:=st;exact⟨⟨old,k e (by simp) _ he⟩,o,k it (by simp) o eo,r⟩
 item:=by
  intro X hP hw hK hc i pins s σ H E I hf st hg;subst hP hw hK;obtain⟨x,xs,hq,hx⟩:=hg;obtain⟨⟨old,he⟩,hit⟩:=st;obtain⟨its,rv,p,hz⟩:=I.list hq;obtain⟨u,hu,ru⟩:=rv.get hx;obtain⟨g0,g1,g2,g3,g4,g5⟩:=hf e (by simp)
  obtain⟨f0,f1,f2,f3,f4,f5⟩:=hf it (by simp)
  have ht:s.heap.IsList a its.toArray:=p.isList;have ha:a≠it:=by
   rintro rfl;obtain⟨o,e1,c1,_⟩:=hit;obtain⟨o',e2,c2,_⟩:=ht;rw[e1] at e2;cases e2;rw[c1] at c2;exact absurd (Value.type.inj c2) (by decide)
  have hea:e≠a:=by
   rintro rfl;obtain⟨o',e2,c2,_⟩:=ht;have e1:s.heap.get? e=some _:=he;rw[e1] at e2;cases e2;exact absurd (Value.type.inj c2) (by decide)
  have hi:i<its.toArray.size:=by
   have:=(Gm.mp hu).1
   simpa using this
  refine KL (Draws.list (A:=X.A.in1) (I.ok.hd hc) it a ha its.toArray) he ⟨hit,ht⟩ hi hne (by simp[hne,hea]) λx' h' tk' hP ho hs' hT hsz hk=>?_
  have ex:x'=u:=by
   have hP':its.toArray[i]?=some x':=hP;rw[Ho,hu] at hP';exact (Option.some.inj hP').symm
  subst ex;refine⟨.ref s.heap.objs.size,rfl,Ko ho λh2 he2 hs2=>?_⟩;have fr:H s.heap.objs.size=none:=I.aU.fresh (Gp _);have hle:e≠s.heap.objs.size:=GG (Gz he);have hT2:h2.get? s.heap.objs.size=some {cls:=.type "tuple",data:=.seq #[.int i tk',x']}:=(hs2.2 _ (HB hle)).trans hT;have I2:Inv X pins σ (upd H s.heap.objs.size (.tup [.int i,x])) {s with heap:=h2,toks:=tk'+1}:=by
   refine I.lq (fp:=[e,it]) hf (Gp _) (λb o hb eb=>?_) ⟨by show 2<=sizeLine;decide,[.int i tk',x'],.cons ⟨_,rfl⟩ (.cons ru .nil),⟨_,hT2,rfl,_,rfl,rfl⟩⟩
   have n1:b≠e:=λz=>hb (by simp[z])
   have n2:b≠it:=λz=>hb (by simp[z])
   exact (hs2.2 b n1).trans (hk b o n1 n2 eb)
  refine⟨.ref s.heap.objs.size,_,I2,rfl,⟨s.heap.objs.size,x,λys hy=>by rw[I.jq hy hq];exact hx,fr,rfl,rfl⟩,⟨⟨x',?_⟩,?_⟩,λb hb=>?_⟩
  ·have e:(((i+1:Nat)):Int)=(i:Int)+1:=by lia
   rw[e];exact he2
  ·obtain⟨o,e1,r⟩:=hs'.1;exact⟨o,(hs2.2 it (HB hne)).trans e1,r⟩
  ·have n:b≠s.heap.objs.size:=by
    rcases Gs.mp hb with z|z
    ·subst z;exact hle
    ·have z:b=it:=by simpa using z
     subst z;obtain⟨o,e1,_⟩:=hit;exact GG (Gz e1)
   rw[ae n];exact (hf b hb).1
 done:=by
  intro X hP hw hK hc i pins s σ H E I hf st hg;subst hP hw hK;obtain⟨xs,hq,hx⟩:=hg;obtain⟨⟨old,he⟩,hit⟩:=st;obtain⟨its,rv,p,hz⟩:=I.list hq;have ht:s.heap.IsList a its.toArray:=p.isList;have ha:a≠it:=by
   rintro rfl;obtain⟨o,e1,c1,_⟩:=hit;obtain⟨o',e2,c2,_⟩:=ht;rw[e1] at e2;cases e2;rw[c1] at c2;exact absurd (Value.type.inj c2) (by decide)
  have hl:=rv.length;have hsz:its.toArray.size=i:=by simp;lia
  refine Lb (Draws.list (A:=X.A.in1) (I.ok.hd hc) it a ha its.toArray) he (by rw[hsz];exact⟨hit,ht⟩) λh' eb=>⟨rfl,?_⟩
  exact I.turns (t':=s.toks) hf λb o hb e1=>eb b o (λz=>hb (by simp[z])) e1
 self:=λA i s Q E st h=>by
  obtain⟨⟨old,he⟩,_⟩:=st;exact Jq he h
section
variable {X:Cx} {es:List Expr} {tk:Nat} {tp:Pos}
noncomputable def jF(K:LA)(ta:TA):TI:=λσ H R=>ta σ H λvs H1=>∃a,vs=[.ref a]/\(∃xs,bY K H1 a xs)/\R (y3 K a) H1
theorem wA{e:Expr}{ta:TA}{p pos:Pos}(hg:Gl X "enumerate")(hm:X.mg "enumerate"=none)(ha:PA X [e] ta)(h1:autoParam (fo e=true) ℜ0)(hv:autoParam (bootBuiltins "enumerate"=some (.type "enumerate")) ℜ6):
  PI X (.Tuple es tk tp) (.Call (.Name "enumerate" p) [e] [] pos) (jF X.K ta):=by
 intro pins s σ H R I h;refine Call_ (e_ I hg hm hv (Hv (bJ (ha pos pins s σ H _ I h) λus s1 hq1=>?_) (cS h1) rfl));obtain⟨vs,H1,I1,r1,q1⟩:=hq1;obtain⟨a,e,⟨xs,hq⟩,q⟩:=q1;subst e;obtain⟨u,rfl,ru⟩:=vals1 r1;cases ru;obtain⟨its,rv,pt,hz⟩:=I1.list hq;refine call_enumerate_list pt.isList λh' he hit hsz hk=>?_;refine Jq he ?_;have I2:Inv X pins σ H1 {s1 with heap:=h'}:=I1.kept (t':=s1.toks) hk
 refine⟨s1.heap.objs.size+1,[s1.heap.objs.size+1,s1.heap.objs.size],_,_,H1,rfl,I2,pe a s1.heap.objs.size (s1.heap.objs.size+1) (HR (J7 _)),⟨⟨_,he⟩,hit⟩,λb hb=>?_,q⟩;have hb':s1.heap.objs.size<=b:=by
  rcases Gs.mp hb with z|z
  ·rw[z];exact HD _
  ·have z:b=s1.heap.objs.size:=by simpa using z
   rw[z];exact Gp _
 exact I1.lg hb' (I1.aU.fresh hb')
end
noncomputable def uO(K:LA)(ws:List Str)(v:Value):Prop:=∃p,v=.ref p/\EF K p (ws.map V.str)
structure jV (K:LA) (a:Addr) (D:List (Str×List Str)):Prop where
 low:(a == sysModules)=false
 ex:∃o es ep,K.lookup a=some o/\o.ExactDict/\o.data=.dict es ep/\KTD.Rows (uO K) es.toList D
section
variable {prog:Program} {w:World} {A:Around} {E:Value->Shared->Prop} {s:Shared} {K:LA} {a:Addr} {D:List (Str×List Str)} {k:Str} {tk:Tok}
theorem jV.typeIs(T:jV K a D)(X:K.In s.heap):s.TypeIs (.ref a) "dict":=let ⟨o,_,_,ho,hc,_⟩:=T.ex;⟨o,X _ _ ho,hc.1⟩
theorem vO{Q:Option Value->Shared->Prop}(T:jV K a D)(X:K.In s.heap)(h1:∀d v,KTD.datumAt k D=some d->uO K d v->Q (some v) {s with toks:=s.toks+1})(h2:KTD.datumAt k D=none->Q none {s with toks:=s.toks+1}):
  wpAny (model prog w) A (dictGet a (.str k tk)) Q E s:=by
 obtain⟨o,es,ep,ho,hc,hd,hr⟩:=T.ex;have ho:=X _ _ ho;unfold dictGet
 try with_reducible refine Hg ?_
 refine Gg (wpAny_pyHash_str (Gg (KTD.kt_dictFind_strs (s:={s with toks:=s.toks+1}) ho hd (by obtain⟨l⟩:=es;simpa using hr.exact) ?_)))
 have hq:Q (findBy (λk v=>v.isStr k) es k) {s with toks:=s.toks+1}:=by
  have hf:findBy (λk v=>v.isStr k) es k=(es.toList.find? λe=>e.key.isStr k).map (·.val):=by
   obtain⟨l⟩:=es;simp[findBy]
  rw[hf]
  cases hat:KTD.datumAt k D with
  |some d=>obtain⟨v,hv,hfl⟩:=hr.find_some hat;rw[hv];exact h1 d v hat hfl
  |none=>rw[hr.find_none hat];exact h2 hat
 rw[findBy_of_findIdx?] at hq
 cases hi:es.findIdx? λe=>e.key.isStr k with
 |none=>rw[hi] at hq;exact Gq hq
 |some i=>rw[hi] at hq;exact Gg (Jr (s:={s with toks:=s.toks+1}) ho hd (Gq hq))
end
namespace Y
noncomputable def CQ(neg:Bool):R2:=λx y H Q=>∃a o,y=.ref a/\fX H a x o/\Q (.bl (if neg then !o.isSome else o.isSome)) H
theorem zd{X:Cx}(hu:X.A.units+1<cLine):dy X (compareOp .In) (CQ false):=by
 intro pins s σ H x y v u Q I rx ry h;obtain⟨a,o,rfl,g,q⟩:=h;obtain rfl:u=Value.ref a:=ry;exact Fu hu I g rx λs' I'=>⟨.bl o.isSome,H,I',rfl,q⟩
theorem iq:∀(more kvs:List (Key×V)),((kvs++more).map (·.1)).Nodup->cz kvs more=kvs++more
 |[],kvs,_=>by rw[Ia];rfl
 |p::r,kvs,h=>by
  have hn:cQ kvs p.1=none:=by
   cases hv:cQ kvs p.1 with
   |none=>rfl
   |some v =>
    have hm:=yF hv;rw[GU,Hd] at h;have:=List.nodup_append.mp h;exact absurd rfl (this.2.2 _ hm _ GD)
  show cz (putK kvs p.1 p.2) r=_;rw[m8 p.2 hn,iq r _ (by rw[GV];exact h),GV]
  rfl
end Y
noncomputable def hU{α:Type}(xs:List α)(i:Nat)(y:α):List α:=xs.take i++y::xs.drop i
noncomputable def zN:V->List V->Hp->VK->Prop:=λx vs H Q=>∃l xs i y,x=.ref l/\vs=[.int i,y]/\H l=some (.lst xs)/\0<=i/\i<2^63/\xs.length<sizeLine/\Q .aP (upd H l (.lst (hU xs (min i.toNat xs.length) y)))
theorem kK{X:Cx}:ED X "list.insert" zN:=by
 intro pins s σ H x vs v us Q I rx rv h;obtain⟨l,xs,i,y,rfl,rfl,hH,h0,h1,hz,q⟩:=h;cases rx;obtain⟨u,w',rfl,⟨t,rfl⟩,rw'⟩:=vals2 rv;obtain⟨z,its,n,r,hl,e⟩:=I.pz hH;have hfit:¬ (!Builtin.List.listFitsIndex i)=true:=by
  have:=Lf (k:=i) (by lia) h1
  rw[this];exact Gx
 refine IZ F.slot_list_insert ⟨_,e,rfl⟩ F.entry_list_insert (F.args_list_insert_3 _ _ _) (AutoSeq1.list_insert_list_int_val_1 l its.toArray n i t w' hfit (by rw[Gy];lia)) ⟨e,?_⟩
 have el:its.length=xs.length:=hl.symm;refine⟨.aP,_,I.BR (its':=hU its (min i.toNat its.length) w') hH e ?_ ?_ ?_,rfl,q⟩
 ·show (have k:=if i<0 then _ else min i.toNat its.toArray.size;(its.toArray.extract 0 k).push w'++its.toArray.extract k)=_
  rw[Gj (by lia)]
  apply K9.mp;unfold hU;simp[Kw,Hs]
 ·rw[el];unfold hU;exact (r.take _).append (.cons rw' (r.drop _))
 ·unfold hU;rw[Gk,GF,GQ,Hf];lia
open Builtin Builtin.Str
open PySem PySem.Spec PyProof PyProof.Rows
open Builtin Builtin.Str
section
variable {prog:Program} {w:World} {A:Around} {E:Value->Shared->Prop} {h:Heap} {g:Array GenState} {d:Drawn} {t:Nat} {os:OsState} {a:Addr} {items:Array Value} {cn:Nat}
theorem xE:typeLookup (.type "list") "keys"=pure none:=am_miss_of_fast (by kernel_rfl)
theorem ph:typeLookup (.type "list") "__getattr__"=pure none:=by rw[typeLookup_type,builtinLookup_eq_fast];kernel_rfl
theorem vE{name:Str}{tk:Tok}{Q:Fin->Shared->Prop}(hx:h.get? a=some {cls:=.type "list",dict:=none,data:=.seq items cn,slots:=#[]})(hmiss:typeLookup (.type "list") name=pure none)(hnc:(["__module__","__name__","__qualname__","__doc__","__annotations__"]:List Str).contains name=false)(hh:A.handled=none)
  (hq:∀h' tk' e,Heap.NewAttrErr h h' e (.ref a) name->E (.ref e) ⟨h',g,d,tk',os⟩) (hsz:name.length+100<=sizeLine:=by size_fits) :
  wpAny (model prog w) A (Builtin.«object.__getattribute__» ⟨[.ref a,.str name tk],[]⟩) Q E ⟨h,g,d,t,os⟩:=by
 have hT:(⟨h,g,d,t,os⟩:Shared).TypeIs (.ref a) "list":=⟨_,hx,rfl⟩;unfold Builtin.«object.__getattribute__»
 repeat (any_goals (first|assumption|wp_step))
 rw[Gj (by rw[hnc];decide)]
 repeat (any_goals (first|assumption|wp_step))
 exact wpAny_raiseAttrError hh hq (attrMsg_fits (by decide +kernel) hsz)
theorem yw{name:Str}{tk:Tok}{R:Result->Shared->Prop}(hx:h.get? a=some {cls:=.type "list",dict:=none,data:=.seq items cn,slots:=#[]})(hmiss:typeLookup (.type "list") name=pure none)(hnc:(["__module__","__name__","__qualname__","__doc__","__annotations__"]:List Str).contains name=false)(hh:A.handled=none)
  (hq:∀h' tk' e,Heap.NewAttrErr h h' e (.ref a) name->R (.error (.ref e)) ⟨h',g,d,tk',os⟩) (hsz:name.length+100<=sizeLine:=by size_fits) :
  codeAny (model prog w) A (.call (.builtin "list.__getattribute__") ⟨[.ref a,.str name tk],[]⟩) R ⟨h,g,d,t,os⟩:=
 codeAny_call_builtin IC.plain F.entry_list_ga (IC.check _ _ _ _ _ _ _ _ (show (⟨h,g,d,t,os⟩:Shared).TypeIs (.ref a) "list" from⟨_,hx,rfl⟩) (F.args_list_getattribute_2 _ _) (vE hx hmiss hnc hh hq hsz))
theorem Et{name:Str}{tk:Tok}{Q:Value->Shared->Prop}(hx:h.get? a=some {cls:=.type "list",dict:=none,data:=.seq items cn,slots:=#[]})(hmiss:typeLookup (.type "list") name=pure none)(hnc:(["__module__","__name__","__qualname__","__doc__","__annotations__"]:List Str).contains name=false)(hh:A.handled=none)
  (hq:∀h' tk' e,Heap.NewAttrErr h h' e (.ref a) name->E (.ref e) ⟨h',g,d,tk',os⟩) (hsz:name.length+100<=sizeLine:=by size_fits) :
  wpAny (model prog w) A (getAttrBy (.ref a) (.str name tk) false) Q E ⟨h,g,d,t,os⟩:=by
 have hT:(⟨h,g,d,t,os⟩:Shared).TypeIs (.ref a) "list":=⟨_,hx,rfl⟩;have f1:=sub_AttributeError;have f2:=IC.lookup;have f3:=IC.bind (.ref a);have f5:=ph
 repeat (any_goals (first|assumption|wp_step))
 refine yw hx hmiss hnc hh (λh' tk' e x=>?_) hsz;obtain⟨t',u',he⟩:=x.there;show wpAny _ _ (getattributeRaised _ _ _ _ _ _ _) _ _ _;unfold getattributeRaised
 repeat (any_goals (first|assumption|wp_step))
 exact hq _ _ _ x
theorem yJ{name:Str}{Q:Option Value->Shared->Prop}(hx:h.get? a=some {cls:=.type "list",dict:=none,data:=.seq items cn,slots:=#[]})(hmiss:typeLookup (.type "list") name=pure none)(hnc:(["__module__","__name__","__qualname__","__doc__","__annotations__"]:List Str).contains name=false)(hh:A.handled=none)
  (hq:∀h' tk',(∀b o,h.get? b=some o->h'.get? b=some o)->Q none ⟨h',g,d,tk',os⟩) (hsz:name.length+100<=sizeLine:=by size_fits) :
  wpAny (model prog w) A (getAttr? (.ref a) name) Q E ⟨h,g,d,t,os⟩:=by
 have f1:=sub_AttributeError;unfold getAttr? getAttrBy?;refine Gg (wpAny_mkText (Gg (J5 (Et hx hmiss hnc hh (λh' tk' e x=>?_) hsz))));obtain⟨t',u',he⟩:=x.there;have k:=x.keeps
 repeat (any_goals (first|assumption|wp_step))
 exact hq _ _ x.keeps
end
section
variable {prog:Program} {w:World} {K:Type} [DecidableEq K] {knd:KeyKind prog w K} {A:Around} {R:Result->Shared->Prop}
theorem gK:plainId "dict.update.loop"=true:=by decide +kernel
theorem gh:entryFor table "dict.update.loop"=some Builtin.«dict.update.loop»:=entryFor_of_fast (by kernel_rfl)
theorem pT(kvs:List (K×Value))(k:K)(v:Value):(stored kvs k v).length<=kvs.length+1:=by
 unfold stored;split
 ·rw[Gu];lia
 ·rw[Gk];simp
theorem i_:∀(more kvs:List (K×Value)),(merged kvs more).length<=kvs.length+more.length
 |[],kvs=>by unfold merged;simp
 |p::more,kvs=>by
  have h1:=i_ more (stored kvs p.1 p.2);have h2:=pT kvs p.1 p.2;have e:merged kvs (p::more)=merged (stored kvs p.1 p.2) more:=rfl;rw[e,GF];lia
theorem zL{it l dd:Addr}{items:Array Value}{more:List (K×Value)}(hh:A.handled=none)(hn:more.length=items.size)(h1:dd≠it)(h2:dd≠l)(h3:it≠l)(ps:Nat->Addr)(hps:∀i,i<items.size->items[i]?=some (.ref (ps i))/\ps i≠it/\ps i≠dd)(hsz:more.length<=20000):
  ∀(k i:Nat) (s:Shared),items.size-i=k->i<=items.size->s.heap.IsListIter it l i->s.heap.IsList l items->s.heap.DictOf knd dd (merged [] (more.take i)) ->
  (∀j,j<items.size->∃key v,s.heap.IsTuple (ps j) #[key,v]/\∃kk,more[j]?=some (kk,v)/\knd.is kk key=true) ->
  (∀h' tk,h'.DictOf knd dd (merged [] more)->(∀b o,b≠it->b≠dd->s.heap.get? b=some o->h'.get? b=some o)->R (.ok (.ret .none)) {s with heap:=h',toks:=tk}) ->
  codeAny (model prog w) A (.builtin "dict.update.loop" ⟨[.ref dd,.ref it,rawInt i,.none],[]⟩) R s:=by
 intro k
 induction k with
 |zero =>
  intro i s hk hi hit hl hd hp hR;have hin:i=items.size:=by lia
  subst hin;refine IP gh ?_;rw[I_ gK _];show wpAny _ A.in1 (pyNext (.ref it) >>= _) _ _ s;refine Gg (JC hh hit hl (by simp) λh' he=>?_)
  refine Gg (Gq (Gq ?_));refine hR h' s.toks ?_ λb o b1 b2 e=>he b o b1 e;rw[Hs (by lia)] at hd
  exact hd.extBut he h1
 |succ k ih =>
  intro i s hk hi hit hl hd hp hR;have hlt:i<items.size:=by lia
  refine IP gh ?_;rw[I_ gK _];show wpAny _ A.in1 (pyNext (.ref it) >>= _) _ _ s;obtain⟨e1,e2,e3⟩:=hps i hlt;refine Gg (Jt hit hl e1 λh' hit' hs'=>?_);obtain⟨key,v,ht,kk,em,hkk⟩:=hp i hlt;have ht':h'.IsTuple (ps i) #[key,v]:=by obtain⟨o,ho,r⟩:=ht;exact⟨o,(hs'.2 _ e2).trans ho,r⟩
  have hd':h'.DictOf knd dd (merged [] (more.take i)):=by obtain⟨o,es,ep,ho,r⟩:=hd;exact⟨o,es,ep,(hs'.2 _ h1).trans ho,r⟩
  refine Gg (Hg (Gg (wpAny_tryCatch ?_)));unfold Dict.pairItems;refine Gg (Lv ht'.typeIs ?_);rw[Gn (by decide)]
  obtain⟨o,ho,hoc,nn,hod⟩:=id ht';refine Gg (HY ho hod (Gq ?_));show wpAny _ A.in1 (holding [key,v] (dictSet dd key v)) _ _ _;refine Hg (wpAny_dictSet_pairs hkk hd' (λh2' hd2 hs2=>?_) ?_)
  rotate_left
  ·exact Gr (i_ _ _) (Gr (by rw[Hu,Lz,GQ];exact Gr (Nat.min_le_right _ _) hsz) (by decide))
  have et:merged [] (more.take (i+1))=stored (merged [] (more.take i)) kk v:=by
   have hlt':i<more.length:=by lia
   have:more[i]=(kk,v):=by rw[Gi hlt'] at em;exact Option.some.inj em
   rw[JA hlt',this];unfold merged;rw[List.foldl_append];rfl
  refine Gq ⟨Lo gK _,?_⟩;have:=ih (i+1) {s with heap:=h2',toks:=s.toks+1} (by lia) hlt (by obtain⟨o,ho,r⟩:=hit';exact⟨o,(hs2.2 _ (HB h1)).trans ho,r⟩) (by obtain⟨o,ho,r⟩:=hl;exact⟨o,(hs2.2 _ (HB h2)).trans ((hs'.2 _ (HB h3)).trans ho),r⟩) (by rw[et];exact hd2) (λj hj=>by
   obtain⟨key,v,⟨o,ho,r⟩,rr⟩:=hp j hj;obtain⟨f1,f2,f3⟩:=hps j hj;exact⟨key,v,⟨o,(hs2.2 _ f3).trans ((hs'.2 _ f2).trans ho),r⟩,rr⟩) (λh3' tk hd3 hk3=>hR h3' tk hd3 λb o b1 b2 e=>hk3 b o b1 b2 ((hs2.2 _ b2).trans ((hs'.2 _ b1).trans e)))
  exact this
theorem oI{E:Value->Shared->Prop}{s:Shared}{l:Addr}{items:Array Value}{cn:Nat}{more:List (K×Value)}{Q:Value->Shared->Prop}(hl:s.heap.get? l=some {cls:=.type "list",dict:=none,data:=.seq items cn,slots:=#[]})(hh:A.handled=none)(hn:more.length=items.size)(hsz:more.length<=20000)
  (ps:Nat->Addr) (hps:∀i,i<items.size->items[i]?=some (.ref (ps i))) (hp:∀j,j<items.size->∃key v,s.heap.IsTuple (ps j) #[key,v]/\∃kk,more[j]?=some (kk,v)/\knd.is kk key=true)
  (h:∀h' tk,h'.DictOf knd s.heap.objs.size (merged [] more)->(∀b o,s.heap.get? b=some o->h'.get? b=some o)->Q (.ref s.heap.objs.size) {s with heap:=h',toks:=tk}) :
  wpAny (model prog w) A (call (.type "dict") [.ref l]) Q E s:=by
 refine callType_codes (Q₁:=λobj s₁=>obj=.ref s.heap.objs.size/\s₁={s with heap:=s.heap.push {cls:=.type "dict",data:=.dict #[]}}) F.kt_called_dict (F.kt_typeCall_dict_1 _) F.entry_dict_init (kt_code_dict_new _ ⟨rfl,rfl⟩) ?_
 rintro obj s₁ ⟨rfl,rfl⟩;have hnew:(s.heap.push {cls:=.type "dict",data:=.dict #[]}).DictOf knd s.heap.objs.size []:=Heap.DictOf.new s.heap;refine⟨hnew.typeIs,F.args_dict_init_2 _ _,?_⟩;unfold Builtin.«dict.__init__»;refine Gg ?_;unfold Builtin.Dict.selfAndRest;refine Gg (wpAny_notOrdered_dict hnew.typeIs ?_);show wpAny _ _ (pure (s.heap.objs.size,[Value.ref l])) _ _ _;refine Gq ?_;show wpAny _ _ (Builtin.Dict.updateFrom "dict.__init__" s.heap.objs.size (.ref l) [] .none) _ _ _;unfold Builtin.Dict.updateFrom;have hl1:(s.heap.push {cls:=.type "dict",data:=.dict #[]}).get? l=some {cls:=.type "list",dict:=none,data:=.seq items cn,slots:=#[]}:=Gh _ hl;have hT:({s with heap:=s.heap.push {cls:=.type "dict",data:=.dict #[]}}:Shared).TypeIs (.ref l) "list":=⟨_,hl1,rfl⟩
 refine Gg (Lv hT ?_);rw[Gn (by decide)]
 refine Gg ?_;refine yJ hl1 xE (by decide +kernel) hh (λh1 tk1 k1=>?_)
 rw[Gn (show (none:Option Value).isNone=true from rfl)];have hl2:h1.IsList l items:=⟨_,k1 _ _ hl1,rfl,cn,rfl⟩;have up:∀b o,s.heap.get? b=some o->h1.get? b=some o:=λb o e=>k1 b o (Gh _ e);obtain⟨od,es,ep,hod,hor⟩:=hnew;have hdl:s.heap.objs.size<h1.objs.size:=Gz (k1 _ _ hod);have hll:l<s.heap.objs.size:=Gz hl;have hpl:∀j,j<items.size->ps j<s.heap.objs.size:=λj hj=>by obtain⟨key,v,⟨o,ho,_⟩,_⟩:=hp j hj;exact Gz ho
 refine Gg (Ku (Gg (HP hl2 (Gq ⟨Lo gK _,?_⟩))));refine zL (knd:=knd) (it:=h1.objs.size) (l:=l) (items:=items) (more:=more) (A:=A.in1) hh hn (GG hdl) (HR hll) (HR (JM hll hdl)) ps (λi hi=>⟨hps i hi,GG (JM (hpl i hi) hdl),GG (hpl i hi)⟩) hsz _ 0 _ rfl (GH _) ⟨_,Gw _ rfl,rfl,rfl⟩ ?_ ⟨od,es,ep,Gh _ (k1 _ _ hod),hor⟩ (λj hj=>?_) (λh' tk hd hk=>⟨rfl,h h' tk hd λb o e=>hk b o ?_ ?_ (Gh _ (up b o e))⟩)
 ·obtain⟨o,ho,r⟩:=hl2;exact⟨o,Gh _ ho,r⟩
 ·obtain⟨key,v,⟨o,ho,r⟩,rr⟩:=hp j hj;exact⟨key,v,⟨o,Gh _ (up _ _ ho),r⟩,rr⟩
 ·exact GG (JM (Gz e) hdl)
 ·exact GG (Gz e)
end
theorem kU{α β:Type}{F:α->β->Prop}:∀{l₁:List α} {l₂:List β},l₁.length=l₂.length->(∀(j:Nat) a b,l₁[j]?=some a->l₂[j]?=some b->F a b)->Paired F l₁ l₂
 |[],[],_,_=>.nil
 |[],_::_,h,_=>by cases h
 |_::_,[],h,_=>by cases h
 |a::l₁,b::l₂,h,f=>.cons (f 0 a b rfl rfl) (kU (Nat.succ.inj h) λj x y hx hy=>f (j+1) x y (by simpa using hx) (by simpa using hy))
noncomputable def ze(K:LA)(H:Hp)(vs:List V)(kvs:List (Key×V)):Prop:=vs.length=kvs.length/\∀(j:Nat) (k:Key) (x:V),kvs[j]?=some (k,x)->∃p,vs[j]?=some (.ref p)/\H p=some (.tup [kV k,x])
noncomputable def Cb(K:LA):List V->Hp->VK->Prop:=λxs H Q=>∃l vs kvs,xs=[.ref l]/\H l=some (.lst vs)/\ze K H vs kvs/\kvs.length<=20000/\∀p,H p=none->Q (.ref p) (upd H p (.dK (cz [] kvs)))
theorem nh{X:Cx}(K:LA)(hc:X.calm=true):b6 X (.type "dict") (Cb K):=by
 intro pins s σ H xs us Q I r h;obtain⟨l,vs,kvs,rfl,hl,hp,hk,q⟩:=h;obtain⟨u,rfl,e0⟩:=vals1 r;have e1:u=.ref l:=e0;subst e1;obtain⟨hlen,its,n,hv,hget⟩:=(show bf X.prog X.w H s.heap l (.lst vs) from I.aU l _ hl);have hsz:its.toArray.size=kvs.length:=by rw[<- hp.1,Gy,<- Paired.length hv]
 have key:∀j,j<kvs.length->∃p k x,kvs[j]?=some (k,x)/\its[j]?=some (.ref p)/\∃ku xu,s.heap.IsTuple p #[ku,xu]/\gI k ku=true/\RelV x xu:=λj hj=>by
  obtain⟨p,e1,e2⟩:=hp.2 j kvs[j].1 kvs[j].2 (Gi hj);obtain⟨u,e3,e4⟩:=Vals.get hv e1;have e5:u=.ref p:=e4;subst e5;obtain⟨_,ts,tv,hT⟩:=(show bf X.prog X.w H s.heap p (.tup [kV kvs[j].1,kvs[j].2]) from I.aU p _ e2);obtain⟨ku,xu,rfl,r1,r2⟩:=vals2 tv;exact⟨p,_,_,Gi hj,e3,ku,xu,hT.to,kh (P:=X.prog) (w:=X.w) r1,r2⟩
 obtain⟨f,hf⟩:=Classical.axiomOfChoice (r:=λ(j:Nat) (y:Addr×Value×Value)=>∀hj:j<kvs.length,s.heap.IsTuple y.1 #[y.2.1,y.2.2]/\gI kvs[j].1 y.2.1=true/\RelV kvs[j].2 y.2.2/\its[j]?=some (.ref y.1)) (λj=>by
  by_cases hj:j<kvs.length
  ·obtain⟨p,k,x,e1,e2,ku,xu,hT,h1,h2⟩:=key j hj;rw[Gi hj] at e1;have e1':kvs[j]=(k,x):=Option.some.inj e1;exact⟨(p,ku,xu),λ_=>⟨hT,by rw[e1'];exact h1,by rw[e1'];exact h2,e2⟩⟩
  ·exact⟨(0,.none,.none),λh=>absurd h hj⟩)
 let mv:List (Key×Value):=(List.range kvs.length).map λj=>((kvs[j]?.getD (.inl 0,.aP)).1,(f j).2.2)
 have hmv:mv.length=kvs.length:=by simp[mv]
 have hmj:∀j (hj:j<kvs.length),mv[j]?=some (kvs[j].1,(f j).2.2):=λj hj=>by
  simp only[mv,G0,IF hj,Jj,Gi hj,Option.getD_some]
 have at':∀j (hj:j<kvs.length),∃ku xu,s.heap.IsTuple (f j).1 #[ku,xu]/\gI kvs[j].1 ku=true/\RelV kvs[j].2 xu/\its[j]?=some (.ref (f j).1)/\mv[j]?=some (kvs[j].1,xu):=λj hj=>by
  obtain⟨h1,h2,h3,h4⟩:=hf j hj;exact⟨_,_,h1,h2,h3,h4,hmj j hj⟩
 have hKV:KV kvs mv:=by
  refine kU (by rw[hmv]) λj a b ha hb=>?_
  have hj:j<kvs.length:=by
   rcases Hr j kvs.length with c|c
   ·exact c
   ·rw[GX.mpr c] at ha;cases ha
  obtain⟨ku,xu,_,_,h2,_,h3⟩:=at' j hj;rw[Gi hj] at ha;cases ha;rw[h3] at hb;cases hb;exact⟨rfl,h2⟩
 refine oI (knd:=bF X.prog X.w) hget (I.ok.hd hc) (by rw[hmv,hsz]) (by rw[hmv];exact hk) (λj=>(f j).1) (λi hi=>?_) (λj hj=>?_) (λh' tk hd hkp=>?_)
 ·rw[hsz] at hi;obtain⟨_,_,_,_,_,e,_⟩:=at' i hi;rw[Ho];exact e
 ·rw[hsz] at hj;obtain⟨ku,xu,hT,h1,_,_,h3⟩:=at' j hj;exact⟨ku,xu,hT,_,h3,h1⟩
 ·have hz:(cz [] kvs).length<=sizeLine:=by
   have h1:=e7 kvs [];rw[Hu] at h1;exact Gr (show _<=20000 by lia) (by decide)
  exact⟨.ref s.heap.objs.size,_,I.laid (t':=tk) hkp (Gp _) (pZ hz (Hb.mpr (HB (GG I.big))) (hKV.merge .nil) hd),rfl,q _ (I.aU.fresh (Gp _))⟩
open PySem PySem.Spec PyProof PyProof.Rows
namespace Z
section
variable {X:Cx} {CX:nI} {k:Nat} {f C:Addr} {fd:FuncData} {ps:List Str} {sp:Sp} {E:XK} {x m nm:Str} {p pos pos' apos:Pos} {e o i value:Expr} {es:List Expr} {ta tv td ty:TE} {t:TA}
theorem fld(K:LA)(hK:X.K=K)(he:QE X e ta)(hb:autoParam (attributeBase e nm X.env (eval e X.env)=eval e X.env) ℜ0):QE X (.Attribute e nm pos) (vb K ta nm):=by subst hK;exact⟨Bg he.h hb⟩
theorem vM(K:LA)(hK:X.K=K)(ha:QE X o ta)(hv:QE X value tv)(hs:autoParam (swapsWith value (some (.Attribute o nm pos')) pos.line X.env=pure false) ℜ0):QS X (.Assign [.Attribute o nm pos'] value pos) (vR K ta tv nm):=by subst hK;exact⟨Bf ha.h hv.h hs⟩
theorem Cv(K:LA)(hK:X.K=K){pl:Sem Bool}(he:QE X o ta)(c:jO K C)(hm:Meth K C m f)(F:cy X.prog X.w K X.mg X.base CX k f fd ps sp)(hr:bD k X.A)(hb:Binds K fd ps [])(hx:Passes CX X E)(ha:QA X (e::es) t)
  (hst:autoParam (starEach (e::es) X.env=(false,eval e X.env)::starEach es X.env) ℜ0) (hpl:autoParam ((backTo pos (starEach es X.env)).any (·.1)=false) ℜ0)
  (ht:autoParam (eval (.Call (.Attribute o m apos) (e::es) [] pos) X.env=(do
   let ov <- eval o X.env
   standAt apos.atName
   let (f,first) <- holding [ov] (getMethod ov m pl)
   callWith pos f first (backTo pos (starEach (e::es) X.env)) (backToKw pos (keywordEach [] X.env)))) ℜ0) :
  QE X (.Call (.Attribute o m apos) (e::es) [] pos) (jh C m sp [] E ta t):=by subst hK;exact⟨xT (pl:=pl) he.h c hm F hr hb .nil hx ha.h hst hpl ht⟩
theorem vz(K:LA)(hK:X.K=K){pl:Sem Bool}(he:QE X o ta)(c:jO K C)(hm:Meth K C m f)(F:cy X.prog X.w K X.mg X.base CX k f fd ps sp)(hr:bD k X.A)(hb:Binds K fd ps [])(hx:Passes CX X E)
  (ht:autoParam (eval (.Call (.Attribute o m apos) [] [] pos) X.env=(do
   let ov <- eval o X.env
   standAt apos.atName
   let (f,first) <- holding [ov] (getMethod ov m pl)
   callWith pos f first (backTo pos (starEach [] X.env)) (backToKw pos (keywordEach [] X.env)))) ℜ0) :
  QE X (.Call (.Attribute o m apos) [] [] pos) (jh C m sp [] E ta iG):=by subst hK;exact⟨ud (pl:=pl) he.h c hm F hr hb .nil hx ht⟩
theorem make(K:LA)(hK:X.K=K)(M:Mk K C f)(F:cy X.prog X.w K X.mg X.base CX k f fd ps sp)(hr:bD (k+1) X.A)(hg:Gl X x)(hm:X.mg x=some (.ref C))(hb:Binds K fd ps [])(hx:Passes CX X E)
  (ha:QA X (e::es) t) (hdb:autoParam ((x ==("__debug__":Str))=false) ℜ1) (he:autoParam (starEach (e::es) X.env=(false,eval e X.env)::starEach es X.env) ℜ0) (hpl:autoParam ((backTo pos (starEach es X.env)).any (·.1)=false) ℜ0) :
  QE X (.Call (.Name x p) (e::es) [] pos) (nV C sp [] E t):=by subst hK;exact⟨xW M F hr hg hm hb .nil hx ha.h hdb he hpl⟩
theorem qj(hu:X.A.units+1<cLine)(ho:QE X o td)(hi:QE X i ty)(hs:vL i:=by exactλ_ _=>rfl):QE X (.Subscript o i pos) (mR td ty):=⟨zB hu ho.h hi.h hs⟩
theorem dput(hu:X.A.units+1<cLine)(ho:QE X o td)(hi:QE X i ty)(hv:QE X value tv)(hs:autoParam (swapsWith value (some (.Subscript o i pos')) pos.line X.env=pure false) ℜ0):QS X (.Assign [.Subscript o i pos'] value pos) (oq td ty tv):=⟨yC hu ho.h hi.h hv.h hs⟩
end
end Z
namespace Ap
theorem vb(K:LA)(ta:TE)(f:Str)(σ:St)(H:Hp)(Q:VK):L2.vb K ta f σ H Q=ta σ H λx H1=>∃a C dx fs v,x=.ref a/\H1 a=some (.ins C dx fs)/\jO K C/\b9 K C f/\fs.lookup f=some v/\Q v H1:=rfl
theorem vR(K:LA)(ta tv:TE)(f:Str)(D:Ends)(σ:St)(H:Hp):L2.vR K ta tv f D σ H=tv σ H λy H1=>ta σ H1 λx H2=>∃a C dx fs,x=.ref a/\H2 a=some (.ins C dx fs)/\jO K C/\b9 K C f/\fs.length<1000/\D.nx σ (upd H2 a (.ins C dx (d5 f y fs))):=rfl
theorem jh(C:Addr)(m:Str)(sp:Sp)(dvs:List V)(E:XK)(ta:TE)(t:TA)(σ:St)(H:Hp)(Q:VK):L2.jh C m sp dvs E ta t σ H Q=ta σ H λx H1=>∃a dx fs,x=.ref a/\H1 a=some (.ins C dx fs)/\fs.lookup m=none/\t σ H1 λvs H2=>sp (x::(vs++dvs)) H2 Q E:=rfl
theorem nV(C:Addr)(sp:Sp)(dvs:List V)(E:XK)(t:TA)(σ:St)(H:Hp)(Q:VK):L2.nV C sp dvs E t σ H Q=t σ H λvs H1=>∀x dx,H1 x=none->H1 dx=none->dx≠x->sp (.ref x::(vs++dvs)) (upd (upd H1 dx (.own x)) x (.ins C dx [])) (λv H2=>v=.aP/\Q (.ref x) H2) E:=rfl
theorem mR(td ty:TE)(σ:St)(H:Hp)(Q:VK):L2.mR td ty σ H Q=td σ H λx H1=>ty σ H1 λy H2=>∃a v,x=.ref a/\fX H2 a y (some v)/\Q v H2:=rfl
theorem oq(td ty tv:TE)(D:Ends)(σ:St)(H:Hp):L2.oq td ty tv D σ H=tv σ H λv H1=>td σ H1 λx H2=>ty σ H2 λy H3=>∃a H4,x=.ref a/\sd H3 a y v H4/\D.nx σ H4:=rfl
end Ap
section
variable {prog:Program} {w:World} {A:Around} {E:Value->Shared->Prop} {s:Shared} {K:LA} {a:Addr} {D:List (Str×List Str)} {k:Str} {tk:Tok}
theorem sh{ws:List Str}{Q:Value->Shared->Prop}(T:jV K a D)(X:K.In s.heap)(hk:KTD.datumAt k D=some ws)(h:∀v,uO K ws v->Q v {s with toks:=s.toks+1}):wpAny (model prog w) A (getItem (.ref a) (.str k tk)) Q E s:=by
 have hT:=T.typeIs X;unfold getItem
 try with_reducible refine Hg ?_
 refine Gg (wpAny_sequenceKey hT (by decide) ?_)
 refine Gg (Hw (name:=Str.ofString "__getitem__") hT PySem.F.slot_dict_getitem
  (Hz PySem.F.slot_dict_getitem hT PySem.F.entry_dict_getitem ?_ (args_dict_getitem _ _)))
 show wpAny _ _ (dictGet a (.str k tk) >>= _) _ _ s;refine Gg (vO T X (λd v e r=>?_) λe=>?_)
 ·rw[hk] at e;cases e;exact Gq ⟨v,rfl,Gq (h v r)⟩
 ·rw[hk] at e;cases e
end
variable{Q:Value->Shared->Prop}{X:Cx}{body e:Expr}{c' d f kS:Addr}{D:List (Str×List Str)}{a b:List Nat}{q x:Str}{e1 ep i m:Nat}{y:Int×Int}{α:Type}{p:Array Nat}{N:List Str}{σf:List (Option V)}{scope:Scope}{cl:List (Str×Addr)}{params:Arguments}{ctv pm:Value}{H H1:Hp}{h h':Heap}{P:PySem.Fin->Shared->Prop}{us:List Value}{kz:List Int}{xs:List V}{K:LA}{es:Array DictEntry}{prog:Program}{w:World}{prs:List (Int×Int)}
noncomputable def x9(K:LA)(D:List (Str×List Str))(te:TE):TE:=λσ H Q=>te σ H λy H1=>∃k ws,y=.str k/\KTD.datumAt k D=some ws/\∀p,EF K p (ws.map V.str)->Q (.ref p) H1
theorem Bn{o:Expr}{te:TE}{pos:Pos}(ho:PE X o (tC (.ref d)))(hD:jV X.K d D)(he:PE X e te)(hs:vL e):PE X (.Subscript o e pos) (x9 X.K D te):=by
 intro pins s σ H Q I h;refine q_ PySem.F.slot_dict_getitem.lookup hs (bJ (ho pins s σ H (λv H'=>v=.ref d/\H'=H) I ⟨rfl,rfl⟩) λu s1 hq1=>?_);obtain⟨x,H1,I1,rx,ex,eh⟩:=hq1;subst ex eh;obtain rfl:u=Value.ref d:=rx;refine bJ (he pins s1 σ H1 _ I1 h) λiv s2 hq2=>?_;obtain⟨y,H2,I2,ry,k,ws,ek,e1,q⟩:=hq2;subst ek;obtain⟨t,rfl⟩:=ry;refine⟨hD.typeIs I2.gP,sh hD I2.gP e1 λv r=>?_⟩;obtain⟨p,rfl,r⟩:=r;exact⟨.ref p,H2,I2.tok _,rfl,q p r⟩
theorem Z.seq{tg l:Expr}{tl:TE}(K:LA)(hK:X.K=K)(hl:QE X l tl):QI X tg l (wG K tl):=by subst hK;exact⟨AN hl.h⟩
theorem Ap.wG(K:LA)(tl:TE)(σ:St)(H:Hp)(R:It->Hp->Prop):L2.wG K tl σ H R=tl σ H λx H1=>∃a,x=V.ref a/\(((∃xs,bY K H1 a xs)/\R (xc K a) H1)\/((∃xs,bz K H1 a xs)/\R (tL K a) H1)):=rfl
namespace Y
noncomputable def BF:V->List V->Hp->VK->Prop:=λx vs H Q=>∃(z y:Str) (i:Nat) (rest:List Nat),x=.str z/\vs=[.str y]/\Builtin.Str.occurrences z y 0 z.length 1=i::rest/\Q (.int (i:Nat)) H
theorem f9:vj X "str.index" BF:=by
 intro pins s σ H x xs v us Q I rx rs h;obtain⟨z,y,i,rest,rfl,rfl,ho,q⟩:=h;obtain⟨t,rfl⟩:=rx;obtain⟨u,rfl,k,rfl⟩:=vals1 rs;exact SC.index ho ⟨.int _,H,I.tok _,⟨_,rfl⟩,q⟩
noncomputable def Ep:V->List V->Hp->VK->Prop:=λx vs H Q=>∃(a:Addr) (ws:List Str) (k:Str) (j:Nat),x=.ref a/\H a=some (.lst (ws.map V.str))/\vs=[.str k]/\ws[j]?=some k/\(∀m,m<j->ws[m]?≠some k)/\Q (.int (j:Nat)) H
theorem xQ:ED X "list.index" Ep:=by
 intro pins s σ H x xs v us Q I rx rs h;obtain⟨a,ws,k,j,rfl,hH,rfl,hj,hno,q⟩:=h;cases rx;obtain⟨u,rfl,t,rfl⟩:=vals1 rs;obtain⟨z,its,n,r,hl,e⟩:=I.pz hH;obtain⟨t',hit⟩:=nA r j k hj;have hjl:j<ws.length:=(Gm.mp hj).1;rw[Gu] at z hl;have hji:j<its.toArray.size:=by rw[Gy];lia
 have sz:(sizeLine:Int)<2^63-1:=by decide
 have hje:its.toArray[j]=.str k t':=by
  have:its.toArray[j]?=some (.str k t'):=by rw[Ho];exact hit
  exact (HV.mp this).2
 have hall:∀(m:Nat) (hm:m<its.toArray.size),∃y ty,its.toArray[m]=.str y ty/\ws[m]?=some y:=λm hm=>by
  have hm':m<ws.length:=by rw[Gy] at hm;lia
  have e1:=Gi hm';obtain⟨ty,hy⟩:=nA r m _ e1;have:its.toArray[m]?=some (.str ws[m] ty):=by rw[Ho];exact hy
  exact⟨_,ty,(HV.mp this).2,e1⟩
 refine IZ PySem.F.slot_list_index ⟨_,e,rfl⟩ PySem.F.entry_list_index (PySem.F.args_list_index_2 _ _) (SeqAt.list_indexAt a its.toArray n none _ (.str k t) (λy=>match y with|.str y _=>y == k|_=>false) j hji (by lia) (by rw[hje];exact J8 k) λm hm hmj=>?_) ⟨e,λy hy=>?_,⟨.int (j:Nat),H,I.tok _,⟨_,rfl⟩,q⟩⟩
 ·obtain⟨y,ty,ey,ew⟩:=hall m hm;rw[ey];exact Hb.mpr λz=>hno m hmj (by rw[ew,z])
 ·obtain⟨m,hm,rfl⟩:=Array.mem_iff_getElem.mp hy;obtain⟨y,ty,ey,ew⟩:=hall m hm;rw[ey];exact SeqAt.EqAt.str_str _ _ _ _
end Y
open PySem PySem.Spec PyProof PyProof.Rows PySem.W
namespace SP
section
variable (k:Nat->Int)
noncomputable def R(i j:Nat):Prop:=k i<k j\/(k i=k j/\i<j)
variable {k}
theorem R.le{a b:Nat}(h:R k a b):k a<=k b:=by unfold R at h;lia
end
structure PI (n m:Nat) (p:Array Nat) (a:List Nat):Prop where
 eq:p.toList=a++List.range' m (n-m)
 perm:a.Perm (List.range m)
 le:m<=n
section
variable {n m:Nat} {p:Array Nat} {a:List Nat}
theorem PI.len(h:PI n m p a):a.length=m:=by rw[h.perm.length_eq,He]
theorem PI.lt(h:PI n m p a){x:Nat}(hx:x∈a):x<m:=HK.mp (h.perm.mem_iff.mp hx)
theorem PI.size(h:PI n m p a):p.size=n:=by
 have:=h.len;have:=h.le;rw[<- Hc,h.eq,Gk,List.length_range',h.len];lia
theorem PI.at(h:PI n m p a){x:Nat}(hi:a[i]?=some x):p.getD i 0=x:=by
 have:p[i]?=some x:=by
  rw[<- GY,h.eq,Hi (Gm.mp hi).1];exact hi
 rw[Kj,this];rfl
theorem PI.nx(h:PI n m p a)(hm:m<n):p.getD m 0=m:=by
 have:p[m]?=some m:=by
  rw[<- GY,h.eq,Ha (by rw[h.len];exact Gp m),h.len,Ip,List.getElem?_range' (by lia)];simp
 rw[Kj,this];rfl
theorem PI.step(h:PI n m p a)(hm:m<n):PI n (m+1) p (a++[m]):=by
 refine⟨?_,?_,hm⟩
 ·rw[h.eq,GV,show n-m=(n-(m+1))+1 by lia,IA];rfl
 ·rw[JP];exact h.perm.append_right [m]
theorem PI.last(h:PI n m p a){y:Nat}(e:a=b++[y]):p.getD (m-1) 0=y:=by
 refine h.at ?_;have:=h.len;rw[e,Gk] at this;simp only[GF,Hu] at this;rw[e,Ha (by lia),show m-1-b.length=0 by lia];rfl
end
theorem wz{xs:Array α}{k l:Nat}{y:α}(hy:xs[k]?=some y)(hl:l<=k):(bubble xs k (k-l)).toList=xs.toList.take l++y::(xs.toList.drop l).take (k-l)++xs.toList.drop (k+1):=by
 have hk:k<xs.size:=(HV.mp hy).1;have hL:xs.toList.length=xs.size:=by simp
 apply Iw;intro i;rw[GY,getElem?_bubble hk _ (by lia),show k-(k-l)=l by lia]
 rw[GV,Ja];have ht:(xs.toList.take l).length=l:=by rw[GQ];lia
 rw[ht];by_cases h1:i<l
 ·rw[Gn h1,Gj (by lia),Gj (by lia),IQ,Gn h1,GY]
 ·rw[Gj h1];by_cases h2:i=l
  ·subst h2;rw[Gn rfl,Ip,hy];rfl
  ·rw[Gj h2,show i-l=(i-l-1)+1 by lia,Ii,List.getElem?_cons_succ,Ja]
   have hm:((xs.toList.drop l).take (k-l)).length=k-l:=by rw[GQ,Hf];lia
   rw[hm];by_cases h3:i-l-1<k-l
   ·rw[Gn h3,Gn (by lia),IQ,Gn h3,HX,GY]
    congr 1;lia
   ·rw[Gj h3,Gj (by lia),HX,GY]
    congr 1;lia
theorem wY{xs:Array α}{j:Nat}(hi:i<=j)(hj:j<=xs.size):(mirror xs i j ((j-i) / 2)).toList=xs.toList.take i++((xs.toList.drop i).take (j-i)).reverse++xs.toList.drop j:=by
 have hL:xs.toList.length=xs.size:=by simp
 apply Iw;intro k;rw[GY,getElem?_mirror_all hj,GV,Ja];have ht:(xs.toList.take i).length=i:=by rw[GQ];lia
 have hm:((xs.toList.drop i).take (j-i)).length=j-i:=by rw[GQ,Hf];lia
 rw[ht];by_cases h1:k<i
 ·rw[Gn h1,Gj (by lia),IQ,Gn h1,GY]
 ·rw[Gj h1,Ja,IG,hm];by_cases h2:k<j
  ·rw[Gn (by lia),Gn (by lia),List.getElem?_reverse (by lia),hm,IQ,Gn (by lia),HX,GY]
   congr 1;lia
  ·rw[Gj (by lia),Gj (by lia),HX,GY]
   congr 1;lia
theorem PI.rev{n:Nat}{c:List Nat}(h:PI n m p (b++c)):PI n m (kas_rev p b.length m) (b++c.reverse):=by
 have hl:b.length+c.length=m:=by rw[<- h.len,Gk]
 refine⟨?_,((List.reverse_perm c).append_left b).trans h.perm,h.le⟩;unfold kas_rev;rw[wY (by lia) (by rw[h.size];exact h.le),h.eq,GV b c,List.take_left,List.drop_left,show m-b.length=c.length by lia,List.take_left,<- GV b c,List.drop_left' (by rw[Gk];exact hl)]
theorem l_(h:a.length=m)(hm:1<=m):∃b y,a=b++[y]:=by
 rcases Lk a with rfl|⟨b,y,rfl⟩
 ·cases h;exact absurd hm (by decide)
 ·exact⟨b,y,by simp⟩
section
variable {k:Nat->Int} {n:Nat} {cmp:Nat->Nat->(Bool->Shared->Prop)->Shared->Prop} {I:Shared->Prop}
noncomputable def mN(k:Nat->Int)(n:Nat)(cmp:Nat->Nat->(Bool->Shared->Prop)->Shared->Prop)(I:Shared->Prop):Prop:=∀i j C s,i<n->j<n->I s->(∀s',I s'->C (decide (k i<k j)) s')->cmp i j C s
theorem pJ(hc:mN k n cmp I){G:Nat->Shared->Prop}:∀(f m:Nat) (a:List Nat) (s:Shared),PI n m p a->1<=m->f=n-m->a.Pairwise (R k)->I s ->
  (∀m' a' s',PI n m' p a'->m<=m'->a'.Pairwise (R k)->I s'->(∀b y,a'=b++[y]->m'<n->k m'<k y)->G m' s')->(kas_asc p f m).kasWp cmp G s
 |0,m,a,s,h,h1,hf,hp,hI,g=>g m a s h (Gp m) hp hI λ_ _ _ hl=>by have:=h.le;lia
 |f+1,m,a,s,h,h1,hf,hp,hI,g=>by
  have hm:m<n:=by lia
  obtain⟨b,y,e⟩:=l_ h.len h1;show cmp (p.getD m 0) (p.getD (m-1) 0) _ s;rw[h.nx hm,h.last e];have hy:y<m:=h.lt (by rw[e];simp)
  refine hc m y _ s hm (by lia) hI λs' hI'=>?_
  by_cases c:k m<k y
  ·rw[GZ c];exact g m a s' h (Gp m) hp hI' λb' y' e' _=>by
    rw[e] at e';have:[y]=[y']:=(List.append_inj' e' rfl).2
    cases this;exact c
  ·rw[GJ c];refine pJ hc f (m+1) (a++[m]) s' (h.step hm) (by lia) (by lia) ?_ hI' λm' a' s2 h' hm' hp' hI2 gl=>g m' a' s2 h' (by lia) hp' hI2 gl
   refine HA.mpr ⟨hp,by simp,λx hx z hz=>?_⟩
   rw[GA.mp hz];have hxm:=h.lt hx;have:k x<=k y:=by
    rw[e] at hx hp;rcases Hm.mp hx with hx|hx
    ·exact ((HA.mp hp).2.2 x hx y (by simp)).le
    ·rw[GA.mp hx];exact Lc _
   unfold R;lia
structure DI (k:Nat->Int) (b c:List Nat):Prop where
 BK:b.Pairwise λx y=>R k y x
 less:∀y∈b,∀x∈c,k x<k y
 one:∀x∈c,∀y∈c,k x=k y
 up:c.Pairwise (· < ·)
theorem DI.rise{c:List Nat}(h:DI k b c):(b++c.reverse).reverse.Pairwise (R k):=by
 rw[JZ,Jb];refine HA.mpr ⟨?_,JF.mpr h.BK,λx hx y hy=>.inl (h.less y (Ik.mp hy) x hx)⟩;exact KA (λ{x y} hx hy hl=>.inr ⟨h.one x hx y hy,hl⟩) h.up
theorem DI.next{c:List Nat}{x:Nat}(h:DI k b c)(hc:c≠[])(hx:∀y∈c,k x<k y):DI k (b++c.reverse) [x]:=by
 refine⟨HA.mpr ⟨h.BK,JF.mpr (KA (λ{x y} hx hy hl=>.inr ⟨h.one x hx y hy,hl⟩) h.up),λy hy z hz=>.inl (h.less y hy z (Ik.mp hz))⟩,λy hy z hz=>?_,λy hy z hz=>?_,by simp⟩
 ·rw[GA.mp hz];rcases Hm.mp hy with hy|hy
  ·obtain⟨w,hw⟩:=Kx c hc;exact Int.lt_trans (hx w hw) (h.less y hy w hw)
  ·exact hx y (Ik.mp hy)
 ·rw[GA.mp hy,GA.mp hz]
theorem DI.more{c:List Nat}{x:Nat}(h:DI k b c)(he:∀y∈c,k x=k y)(hc:c≠[])(hl:∀y∈c,y<x):DI k b (c++[x]):=by
 refine⟨h.BK,λy hy z hz=>?_,λy hy z hz=>?_,HA.mpr ⟨h.up,by simp,λy hy z hz=>by rw[GA.mp hz];exact hl y hy⟩⟩
 ·rcases Hm.mp hz with hz|hz
  ·exact h.less y hy z hz
  ·rw[GA.mp hz];obtain⟨w,hw⟩:=Kx c hc;rw[he w hw];exact h.less y hy w hw
 ·rcases Hm.mp hy with hy|hy<;>rcases Hm.mp hz with hz|hz
  ·exact h.one y hy z hz
  ·rw[GA.mp hz];exact (he y hy).symm
  ·rw[GA.mp hy];exact he z hz
  ·rw[GA.mp hy,GA.mp hz]
theorem iL(hc:mN k n cmp I){G:Array Nat×Nat×Nat->Shared->Prop}:∀(f:Nat) (p:Array Nat) (m q:Nat) (b c:List Nat) (s:Shared),PI n m p (b++c)->c.length=q+1->DI k b c->f=n-m->I s ->
  (∀p' m' q' b' c' s',PI n m' p' (b'++c')->c'.length=q'+1->DI k b' c'->I s'->G (p',m',q') s')->(kas_desc f p m q).kasWp cmp G s
 |0,p,m,q,b,c,s,h,hl,hd,hf,hI,g=>g p m q b c s h hl hd hI
 |f+1,p,m,q,b,c,s,h,hl,hd,hf,hI,g=>by
  have hm:m<n:=by lia
  obtain⟨c0,y,e⟩:=l_ hl (by lia)
  have hbl:b.length+(q+1)=m:=by rw[<- hl,<- Gk,h.len]
  have ne:c≠[]:=by rw[e];simp
  have hy:y∈c:=by rw[e];simp
  have hya:y<m:=h.lt (GL _ hy);have e1:p.getD m 0=m:=h.nx hm;have e2:p.getD (m-1) 0=y:=h.last (b:=b++c0) (by rw[e,GV])
  show cmp (p.getD m 0) (p.getD (m-1) 0) _ s;rw[e1,e2];refine hc m y _ s hm (by lia) hI λs' hI'=>?_
  by_cases c1:k m<k y
  ·rw[GZ c1];have hx:∀z∈c,k m<k z:=λz hz=>by rw[hd.one z hz y hy];exact c1
   show KasT.kasWp cmp (if q > 0 then _ else _) G s'
   by_cases hq:q > 0
   ·rw[Gn hq,show m-(q+1)=b.length by lia]
    exact iL hc f _ (m+1) 0 (b++c.reverse) [m] s' (h.rev.step hm) rfl (hd.next ne hx) (by lia) hI' g
   ·rw[Gj hq];have e3:c.reverse=c:=by
     have:c.length=1:=by lia
     obtain⟨z,rfl⟩:=Ld.mp this;rfl
    exact iL hc f p (m+1) 0 (b++c.reverse) [m] s' (by rw[e3];exact h.step hm) rfl (hd.next ne hx) (by lia) hI' g
  ·rw[GJ c1];show cmp y m _ s';refine hc y m _ s' (by lia) hm hI' λs2 hI2=>?_
   by_cases c2:k y<k m
   ·rw[GZ c2];exact g p m q b c s2 h hl hd hI2
   ·rw[GJ c2];refine iL hc f p (m+1) (q+1) b (c++[m]) s2 (by rw[<- GV];exact h.step hm) (by rw[Gk,hl];rfl) (hd.more (λz hz=>?_) ne λz hz=>h.lt (GL _ hz)) (by lia) hI2 g
    rw[hd.one z hz y hy];lia
theorem qJ(hc:mN k n cmp I){G:Nat×Array Nat->Shared->Prop}{s:Shared}(h:PI n m p a)(h1:1<=m)(hr:a.reverse.Pairwise (R k))(hI:I s)
  (g:∀m' p' a' s',PI n m' p' a'->1<=m'->a'.Pairwise (R k)->I s'->G (m',p') s'):(kas_tail3 m n p).kasWp cmp G s:=by
 unfold kas_tail3;rw[Jl];have hv:=PI.rev (b:=[]) (c:=a) h;exact pJ hc (n-m) m a.reverse s hv h1 rfl hr hI λm' a' s' h' hm' hp' hI' _=>g m' _ a' s' h' (by lia) hp' hI'
theorem qT(hc:mN k n cmp I){G:Nat×Array Nat->Shared->Prop}{s:Shared}(h:PI n m p a)(hm:m<n)(hd:DI k a [m])(hI:I s)
  (g:∀m' p' a' s',PI n m' p' a'->1<=m'->a'.Pairwise (R k)->I s'->G (m',p') s'):(kas_descPart m n p).kasWp cmp G s:=by
 unfold kas_descPart;rw[Jl];refine iL hc (n-(m+1)) p (m+1) 0 a [m] s (h.step hm) rfl hd rfl hI λp' m' q' b' c' s' h' hl' hd' hI'=>?_;have hbl:b'.length+(q'+1)=m':=by rw[<- hl',<- Gk,h'.len]
 show KasT.kasWp cmp (if q' > 0 then _ else _) G s'
 by_cases hq:q' > 0
 ·rw[Gn hq];show (kas_tail3 m' n (kas_rev p' (m'-(q'+1)) m')).kasWp cmp G s';rw[show m'-(q'+1)=b'.length by lia]
  exact qJ hc h'.rev (by lia) hd'.rise hI' g
 ·rw[Gj hq];have e3:c'.reverse=c':=by
   have:c'.length=1:=by lia
   obtain⟨z,rfl⟩:=Ld.mp this;rfl
  exact qJ hc h' (by lia) (by rw[<- e3];exact hd'.rise) hI' g
theorem wk(hc:mN k n cmp I){G:Nat×Array Nat->Shared->Prop}{s:Shared}(hn:1<=n)(hI:I s)
  (g:∀m' p' a' s',PI n m' p' a'->1<=m'->a'.Pairwise (R k)->I s'->G (m',p') s'):(kas_count n (List.toArray (List.range n))).kasWp cmp G s:=by
 unfold kas_count;rw[Jl];have h0:PI n 1 (List.toArray (List.range n)) [0]:=by
  refine⟨?_,List.Perm.refl _,hn⟩;show List.range n=[0]++List.range' 1 (n-1);rw[Jc,show n=(n-1)+1 by lia,IA];rfl
 refine pJ hc (n-1) 1 [0] s h0 (Gp 1) rfl (by simp) hI λm a s' h hm hp hI' gl=>?_
 show KasT.kasWp cmp (if (m == n)=true then _ else _) G s'
 by_cases e:m=n
 ·subst e;rw[Gn (J8 m)];exact g m _ a s' h hm hp hI'
 ·rw[Gj (by simpa using e)]
  have hmn:m<n:=by have:=h.le;lia
  obtain⟨b,y,ea⟩:=l_ h.len hm;have ky:=gl b y ea hmn;have hya:y<m:=h.lt (by rw[ea];simp)
  by_cases h2:m > 1
  ·rw[Gn h2];obtain⟨x,r,ex⟩:∃x r,a=x::r:=by
    cases a with
    |nil=>have:=h.len;rw[Hu] at this;lia
    |cons x r=>exact⟨x,r,rfl⟩
   have hxa:x<m:=h.lt (by rw[ex];simp)
   show cmp ((List.toArray (List.range n)).getD 0 0) ((List.toArray (List.range n)).getD (m-1) 0) _ s';rw[h.at (i:=0) (x:=x) (by rw[ex];rfl),h.last ea]
   refine hc x y _ s' (by lia) (by lia) hI' λs2 hI2=>?_
   by_cases c:k x<k y
   ·rw[GZ c];exact g m _ a s2 h hm hp hI2
   ·rw[GJ c];have hv:=PI.rev (b:=[]) (c:=a) h;refine qT hc hv hmn ⟨JF.mpr hp,λz hz w hw=>?_,λz hz w hw=>by rw[GA.mp hz,GA.mp hw],by simp⟩ hI2 g
    rw[GA.mp hw];have hz':=Ik.mp hz;have hxz:k x<=k z:=by
     rw[ex] at hz' hp;rcases Gs.mp hz' with rfl|hz'
     ·exact Lc _
     ·exact ((G_.mp hp).1 z hz').le
    lia
  ·rw[Gj h2];have hm1:m=1:=by lia
   have hb:b=[]:=by
    have:=h.len;rw[ea,Gk,hm1] at this;simp only[GF,Hu] at this;exact KN.mp (by lia)
   subst hb;refine qT hc h hmn ⟨by rw[ea];simp,λz hz w hw=>?_,λz hz w hw=>by rw[GA.mp hz,GA.mp hw],by simp⟩ hI' g
   rw[GA.mp hw];rw[ea] at hz;rw[GA.mp hz];exact ky
theorem jv(hc:mN k n cmp I){G:Nat->Shared->Prop}{t:Nat}(h:PI n t p a)(ht:t<n)(hp:a.Pairwise (R k)):∀(f l r:Nat) (s:Shared),l<=r->r<=t->r-l<=f->(∀i x,i<l->a[i]?=some x->k x<=k t)->(∀i x,r<=i->a[i]?=some x->k t<k x)->I s ->
  (∀l' s',l'<=t->(∀i x,i<l'->a[i]?=some x->k x<=k t)->(∀i x,l'<=i->a[i]?=some x->k t<k x)->I s'->G l' s')->(kas_place p t f l r).kasWp cmp G s
 |0,l,r,s,h1,h2,h3,hlo,hhi,hI,g=>g l s (by lia) hlo (λi x hi e=>hhi i x (by lia) e) hI
 |f+1,l,r,s,h1,h2,h3,hlo,hhi,hI,g=>by
  show KasT.kasWp cmp (if l >= r then _ else _) G s
  by_cases hlr:l >= r
  ·rw[Gn hlr];exact g l s (by lia) hlo (λi x hi e=>hhi i x (by lia) e) hI
  ·rw[Gj hlr];have hmid:(l+r) / 2<a.length:=by rw[h.len];lia
   have em:a[(l+r) / 2]?=some a[(l+r) / 2]:=Gi hmid;have hma:a[(l+r) / 2]<t:=h.lt (GS hmid);have mono:∀i j x y,i<=j->a[i]?=some x->a[j]?=some y->k x<=k y:=λi j x y hij ex ey=>by
    rcases Hr i j with c|c
    ·obtain⟨hi,rfl⟩:=Gm.mp ex;obtain⟨hj,rfl⟩:=Gm.mp ey;exact (H_.mp hp i j hi hj c).le
    ·have:i=j:=Nat.le_antisymm hij c;subst this;rw[ex] at ey;cases ey;exact Lc _
   show cmp (p.getD t 0) (p.getD ((l+r) / 2) 0) _ s;rw[h.nx ht,h.at em];refine hc t _ _ s ht (by lia) hI λs' hI'=>?_
   by_cases c:k t<k a[(l+r) / 2]
   ·rw[GZ c];exact jv hc h ht hp f l ((l+r) / 2) s' (by lia) (by lia) (by lia) hlo (λi x hi e=>Int.lt_of_lt_of_le c (mono _ i _ x hi em e)) hI' g
   ·rw[GJ c];exact jv hc h ht hp f ((l+r) / 2+1) r s' (by lia) h2 (by lia) (λi x hi e=>Int.le_trans (mono i _ x _ (by lia) e em) (by lia)) hhi hI' g
theorem t_(hc:mN k n cmp I){G:Array Nat->Shared->Prop}:∀(f:Nat) (p:Array Nat) (t:Nat) (a:List Nat) (s:Shared),PI n t p a->a.Pairwise (R k)->f=n-t->I s ->
  (∀p' a' s',PI n n p' a'->a'.Pairwise (R k)->I s'->G p' s')->(kas_bin f p t).kasWp cmp G s
 |0,p,t,a,s,h,hp,hf,hI,g=>by
  have:t=n:=by have:=h.le;lia
  subst this;exact g p a s h hp hI
 |f+1,p,t,a,s,h,hp,hf,hI,g=>by
  have ht:t<n:=by lia
  show KasT.kasWp cmp ((kas_place p t t 0 t).bind _) G s;rw[Jl];refine jv hc h ht hp t 0 t s (GH _) (Gp _) (by lia) (λi x hi _=>absurd hi (JR i)) (λi x hi e=>?_) hI λl s' hl hlo hhi hI'=>?_
  ·have:=(Gm.mp e).1;rw[h.len] at this;lia
  ·have et:p[t]?=some t:=by
    rw[<- GY,h.eq,Ha (by rw[h.len];exact Gp t),h.len,Ip,List.getElem?_range' (by lia)];simp
   have hla:l<=a.length:=by rw[h.len];exact hl
   have e1:(bubble p t (t-l)).toList=(a.take l++t::a.drop l)++List.range' (t+1) (n-(t+1)):=by
    rw[wz et hl,h.eq,List.take_append_of_le_length hla,List.drop_append_of_le_length hla,show n-t=(n-(t+1))+1 by lia,IA]
    have e2:(a.drop l).length=t-l:=by rw[Hf,h.len]
    have e3:∀r:List Nat,(a++t::r).drop (t+1)=r:=λr=>by
     rw[show a++t::r=(a++[t])++r by simp]
     exact List.drop_left' (by rw[Gk,h.len];rfl)
    rw[List.take_left' e2,e3]
   have hP:PI n (t+1) (bubble p t (t-l)) (a.take l++t::a.drop l):=by
    refine⟨e1,?_,ht⟩;have:(a.take l++t::a.drop l).Perm (a++[t]):=by
     have h1:(a.take l++t::a.drop l).Perm (t::(a.take l++a.drop l)):=KC;rw[IW] at h1;exact h1.trans (List.perm_append_singleton t a).symm
    rw[JP];exact this.trans (h.perm.append_right [t])
   refine t_ hc f _ (t+1) _ s' hP ?_ (by lia) hI' g
   have hp1:=(IW l a) ▸ hp;obtain⟨q1,q2,q3⟩:=HA.mp hp1;refine HA.mpr ⟨q1,G_.mpr ⟨λx hx=>?_,q2⟩,λx hx y hy=>?_⟩
   ·obtain⟨i,hi⟩:=JG.mp hx;rw[HX] at hi;exact .inl (hhi (l+i) x (by lia) hi)
   ·rcases Gs.mp hy with rfl|hy
    ·obtain⟨i,hi⟩:=JG.mp hx;rw[IQ] at hi
     split at hi
     ·rename_i hil;have:=hlo i x hil hi;have hxt:=h.lt (List.mem_of_mem_take hx);unfold R;lia
     ·cases hi
    ·exact q3 x hx y hy
theorem rf(hc:mN k n cmp I){G:Array Nat->Shared->Prop}{s:Shared}(hn:1<=n)(hI:I s)(g:∀p s',p.toList.Perm (List.range n)->p.toList.Pairwise (R k)->I s'->G p s'):(kas_sort n).kasWp cmp G s:=by
 unfold kas_sort;rw[Jl];have fin:∀p a s',PI n n p a->a.Pairwise (R k)->I s'->G p s':=λp a s' h hp hI'=>by
  have e:p.toList=a:=by rw[h.eq,Ip,List.range'_zero,Ia]
  refine g p s' ?_ ?_ hI'<;>rw[e]
  ·exact h.perm
  ·exact hp
 refine wk hc hn hI λm p a s' h h1 hp hI'=>?_;show KasT.kasWp cmp (if m<n then _ else _) G s'
 by_cases hm:m<n
 ·rw[Gn hm];show (kas_bin (n-max m 1) p (max m 1)).kasWp cmp G s';rw[show max m 1=m by lia]
  exact t_ hc (n-m) p m a s' h hp rfl hI' fin
 ·rw[Gj hm];have:m=n:=by have:=h.le;lia
  subst this;exact fin p a s' h hp hI'
end
end SP
abbrev C5(qual:Str)(scope:Scope)(L f:Addr)(cd:Value)(cl:List (Str×Addr)):Env:=PySem.W.envX qual scope L f cd cl
noncomputable def rA(X:Cx)(A:Around)(N:List Str)(qual:Str)(scope:Scope)(f:Addr)(cd:Value)(cl:List (Str×Addr))(s:Shared)(H:Hp):Cx where
 prog:=X.prog
 w:=X.w
 K:=X.K
 mg:=X.mg
 base:=X.base
 A:=A.deeper (C5 qual scope s.heap.objs.size f cd cl)
 N:=N
 s₀:=s
 H₀:=H
 env:=C5 qual scope s.heap.objs.size f cd cl
 outer:=X.stack
 stack:=C5 qual scope s.heap.objs.size f cd cl::X.stack
 ex:=[]
 calm:=true
 fn:=λ_=>false
 pn:=[]
 xe:=λ_ _=>False
section
variable {X:Cx} {pins:List (Addr×Obj)} {σ:St} {H:Hp} {s:Shared}
theorem yS(I:Inv X pins σ H s){A:Around}(hA:A.frames=some X.stack)(hd:A.handled=none){qual:Str}{v:V}{u:Value}{cd:Value}{h₁:Heap}{tk:Nat}
  (hk:scope.kind=.function) (rv:RelV v u) (hloc:scope.names.lookup x=some .local) (hns:h₁.Ns s.heap.objs.size (λy=>[(x,u)].reverse.lookup y)) (old:∀b o,s.heap.get? b=some o->h₁.get? b=some o)
  (hlen:σf.length=N.length) (hcl:∀y c,cl.lookup y=some c->X.env.cells.lookup y=some c) (hhas:∀y,(scope.names.lookup y=some .cell\/scope.names.lookup y=some .free)->∃c,cl.lookup y=some c)
  (hf:∀(i:Nat) (y:Str) (v:V),N[i]?=some y->σf[i]?=some (some v)->scope.names.lookup y=some .free/\∃c u,cl.lookup y=some c/\s.heap.IsCell c (some u)/\RelV v u) :
  Inv (rA X A (x::N) qual scope f cd cl s H) [] (some v::σf) H {s with heap:=h₁,toks:=tk}:=by
 have noA:∀b:Addr,b∉(rA X A (x::N) qual scope f cd cl s H).ex:=λb z=>absurd (show b∈([]:List Addr) from z) (by simp)
 refine⟨⟨I.ok.mod,hk,rfl,rfl,Gp _,λy z c e1 e2=>I.ok.inj y z c (hcl y c e1) (hcl z c e2),hhas,λy c z _=>(by cases z),λ_=>hd,Around.frames_deeper hA,.inr ⟨rfl,rfl⟩,λb z=>absurd z (noA b),I.bs,Gr I.ok.xD I.sz,λb _ _=>noA b,λb z=>absurd z (noA b),I.stack,I.ma,I.ok.tabs.un I.base⟩,
  rfl,I.bare,Un.kept old,⟨_,hns,λi y w e1 e2 e3=>?_⟩,λy c e=>?_,I.aU.fresh (Gp _),λy c e=>I.fk y c (hcl y c e),λp hp=>absurd (show p∈([]:List (Addr×Obj)) from hp) (by simp),I.aU.kept old,?_⟩
 ·cases i with
  |zero =>
   have e1':some x=some y:=e1;have e2':some (some v)=some (some w):=e2
   cases e1';cases e2'
   exact⟨u,rv,.inl ⟨hloc,by simp⟩⟩
  |succ i =>
   obtain⟨h1,c,u',h2,h3,h4⟩:=hf i y w e1 e2;obtain⟨o,ho,hd'⟩:=h3;exact⟨u',h4,.inr ⟨.inr h1,c,h2,o,old _ _ ho,hd'⟩⟩
 ·obtain⟨v',o,ho,hd'⟩:=I.cell y c (hcl y c e);exact⟨v',o,old _ _ ho,hd'⟩
 ·show (some v::σf).length=(x::N).length;rw[GF,GF,hlen]
theorem uI(I:Inv X pins σ H s){A:Around}{k:Nat}(hr:bD (k+1) A)(hA:A.frames=some X.stack){qual:Str}{v:V}{u:Value}{f:Addr}{t:TE}{Q:VK}
  (hk:scope.kind=.function) (hco:scope.isCoroutine=false) (hgen:scope.isGenerator=false) (hcell:∀y∈scope.names,y.2≠.cell) (rv:RelV v u) (hloc:scope.names.lookup x=some .local)
  (ho:s.heap.get? f=some (PySem.W.kla_obj "<lambda>" qual params body scope cl pm c' ctv)) (g9:s.heap.CodeRec (.ref c') qual)
  (hbind:∀u,bindArgs (PySem.W.kla_fn "<lambda>" qual params body scope cl pm (.ref c') ctv) ⟨[u],[]⟩=pure [(x,u)])
  (hlen:σf.length=N.length) (hcl:∀y c,cl.lookup y=some c->X.env.cells.lookup y=some c) (hhas:∀y,(scope.names.lookup y=some .cell\/scope.names.lookup y=some .free)->∃c,cl.lookup y=some c)
  (hf:∀(i:Nat) (y:Str) (v:V),N[i]?=some y->σf[i]?=some (some v)->scope.names.lookup y=some .free/\∃c u,cl.lookup y=some c/\s.heap.IsCell c (some u)/\RelV v u)
  (hb:PE (rA X A (x::N) qual scope f (.ref c') cl s H) body t) (hq:t (some v::σf) H Q) :
  wpAny (model X.prog X.w) A (call (.ref f) [u]) (EP X pins σ Q) (λ_ _=>False) s:=by
 refine wpAny_call (PySem.W.kla_callFunE hr.depth ho rfl hco hgen rfl g9 ?_);rw[hbind];refine Gq (wpAny_newFunctionEnv hcell (λy hy=>by rw[GA.mp hy];exact hloc) (λh₁ hns hsb=>⟨I.nolimit.fresh _ hsb,?_⟩) hk)
 have old:∀b o,s.heap.get? b=some o->h₁.get? b=some o:=λb o e=>hsb.extBut b o (GG (Gz e)) (Gh _ e);have J:=yS (tk:=s.toks+1) (qual:=qual) (f:=f) (cd:=.ref c') I hA hr.hd hk rv hloc hns old hlen hcl hhas hf;refine PySem.W.kla_codeExpr (Hq (hb [] _ _ H Q J hq) (λw s' h=>?_) λ_ _ h=>h.elim);obtain⟨v',H',J',r',q'⟩:=h;exact I.after ⟨v',H',J'.os,J'.bare,J'.base,J'.aU,r',q'⟩
end
inductive dP:Hp->Hp->Prop
 |refl {H:Hp}:dP H H
 |more {H H1:Hp} {p:Addr} {o:HO}:dP H H1->H1 p=none->dP H (upd H1 p o)
theorem dP.same(g:dP H H1):xf H H1:=by
 induction g with
 |refl=>exact xf.refl _
 |more g n ih=>exactλb o e=>by rw[ae (ai (ih b o e) n)];exact ih b o e
theorem dP.trans{H2:Hp}(a:dP H H1)(b:dP H1 H2):dP H H2:=by
 induction b with
 |refl=>exact a
 |more _ n ih=>exact .more ih n
theorem i4{i j:Int}{ti tj:Tok}{c:Value}:∀l:List Value,TriplesOk l->TriplesOk (l++[.int i ti,.int j tj,c])
 |[],_=>trivial
 |.int _ _::.int _ _::_::r,h=>i4 r (show TriplesOk r from h)
theorem kQ{p:Pos}{i j:Int}{ti tj:Tok}{c cv:Value}:∀l:List Value,TriplesOk l->codeAmong p (l++[.int i ti,.int j tj,c])=some cv->codeAmong p l=some cv\/cv=c
 |[],_,e=>by
  have e':(if (i == p.line && j == p.col)=true then some c else codeAmong p [])=some cv:=e
  by_cases z:(i == p.line && j == p.col)=true
  ·rw[Gn z] at e';cases e';exact .inr rfl
  ·rw[Gj z] at e';cases e'
 |.int a ta::.int b tb::d::r,h,e=>by
  have e':(if (a == p.line && b == p.col)=true then some d else codeAmong p (r++[.int i ti,.int j tj,c]))=some cv:=e
  show (if (a == p.line && b == p.col)=true then some d else codeAmong p r)=some cv\/_
  by_cases z:(a == p.line && b == p.col)=true
  ·rw[Gn z] at e' ⊢;exact .inl e'
  ·rw[Gj z] at e' ⊢;exact kQ r (show TriplesOk r from h) e'
theorem qY(q:Str)(more:Array Value):we (#[.str q 0]++more)=q:=by
 unfold we;rw[IH];rfl
structure iC (H:Hp) (f:Addr) (q:Str) (params:Arguments) (body:Expr) (scope:Scope) (cl:List (Str×Addr)) (c':Addr) (pm ctv:Value):Prop where
 fn:H f=some (.ik (PySem.W.kla_obj "<lambda>" q params body scope cl pm c' ctv) (.own f))
 cd:Ae H q (.ref c')
section
variable {X:Cx} {pins:List (Addr×Obj)} {σ:St} {H:Hp} {s:Shared} {E:Value->Shared->Prop}
theorem iC.up(x:iC H f q params body scope cl c' pm ctv)(g:∀b o u,H b=some (.ik o u)->H1 b=some (.ik o u)):iC H1 f q params body scope cl c' pm ctv:=
 ⟨g _ _ _ x.fn,let ⟨c,oc,vs,t,e1,e2,e3⟩:=x.cd;⟨c,oc,vs,t,e1,g _ _ _ e2,e3⟩⟩
theorem iC.get(x:iC H f q params body scope cl c' pm ctv)(I:Inv X pins σ H s):
  s.heap.get? f=some (PySem.W.kla_obj "<lambda>" q params body scope cl pm c' ctv)/\s.heap.CodeRec (.ref c') q:=by
 obtain⟨c,oc,vs,t,e1,e2,e3,e4⟩:=x.cd;exact⟨(I.aU f _ x.fn).1,c,oc,vs,t,e1,(I.aU c _ e2).1,e3,e4⟩
theorem Inv.wB{o:Obj}{t':Nat}(I:Inv X pins σ H s)(k:∀b u,s.heap.get? b=some u->h'.get? b=some u)(hp:s.heap.objs.size<=f)(e:h'.get? f=some o):Inv X pins σ (upd H f (.ik o (.own f))) {s with heap:=h',toks:=t'}:=
 I.laid k hp ⟨e,o,e⟩
theorem wJ(I:Inv X pins σ H s){c P:Addr}(hx:x∈dH)(ht:PySem.W.tabIn X.K x=some (c,P))(hcode:X.env.code=.ref c)(hq:X.env.qual=x++".<locals>."){pos:Pos}
  (hdef:defaultsOf params X.env=([],[])) (hcl:closureFor scope X.env=pure cl)
  (h:∀f c' pm ctv H1 s1,dP H H1->Inv X pins σ H1 s1->iC H1 f ((x++".<locals>.")++"<lambda>") params body scope cl c' pm ctv->Q (.ref f) s1) :
  wpAny (model X.prog X.w) X.A (eval (.Lambda params body scope pos) X.env) Q E s:=by
 have hm:(c,P,(x++".<locals>.")++"<lambda>")∈bS X.K:=Jm.mpr ⟨x,hx,by rw[ht];rfl⟩
 obtain⟨more,hP⟩:=(I.ok.tabs.un I.base) _ hm;have C:PySem.W.CodeHd s.heap c P:=(I.ok.mod.codes _ hm).keeps I.bk;obtain⟨qs,eP,tr,fa⟩:=I.aU P _ hP;have hns:=I.ok.mod.glob.keeps I.bk;have hgP:mainGlobals≠P:=λz=>by
  obtain⟨o,es,ep,e,_⟩:=I.ok.mod.glob;have:=(I.bs _ _ e).2;rw[z,hP] at this;cases this
 have hb:s.heap.BuiltinsAt X.mg P:=by
  obtain⟨bm,ob,b1,b2,b3,b4,b5⟩:=I.ok.mod.bm;refine⟨bm,ob,b1,b2,λz=>?_,λz=>?_,I.bk _ _ b3,b4,b5⟩
  ·obtain⟨o,es,ep,e,hd,_⟩:=I.ok.mod.glob;rw[z,e] at b3;cases b3;rw[hd] at b5;cases b5.2
  ·have:=(I.bs _ _ b3).2;rw[z,hP] at this;cases this
 refine PySem.W.kla_eval hdef ?_;rw[hq]
 cases ca:codeAmong pos qs.toList with
 |some cv =>
  have il:=fa pos cv ca;rw[qY] at il;obtain⟨c',oc,vs,t,rfl,e2,e3⟩:=il;refine PySem.W.kla_makeFunctionHit hcl I.ok.glob hns hcode C eP tr ca hb λctv h' tk hk hsz=>?_;have n0:H h'.objs.size=none:=I.aU.fresh hsz;have J:=I.wB (f:=h'.objs.size) (t':=tk) (h':=h'.push {cls:=.type "function",data:=.func (PySem.W.kla_fn "<lambda>" ((x++".<locals>.")++"<lambda>") params body scope cl ((X.mg "__name__").getD .none) (.ref c') ctv)}) (λb u e=>Gh _ (hk b u e)) hsz (Gw _ rfl);exact h _ c' _ ctv _ _ (.more .refl n0) J ⟨aa,c',oc,vs,t,rfl,by rw[ae (ai e2 n0)];exact e2,e3⟩
 |none =>
  refine PySem.W.kla_makeFunction hcl I.ok.glob hns hcode C eP tr ca hgP hb λc' ctv h' tk hx2 hge hlt hrec htb=>?_;obtain⟨c2,oc,vs,t,e2,hoc,hd,hv⟩:=hrec;cases e2;have nP:P≠c':=λz=>absurd (Gz eP) (by rw[z];exact Ky.mpr hge)
  have n1:H c'=none:=I.aU.fresh hge;have keep:∀b u,b≠P->s.heap.get? b=some u->h'.get? b=some u:=λb u hb' e=>hx2 b u hb' e;have H1ne:∀b u,H b=some u->upd H c' (.ik oc (.own c')) b=some u:=λb u e=>by rw[ae (ai e n1)];exact e
  have hoP:∀y,H P≠some (.own y):=λy z=>by rw[hP] at z;cases z
  have J1:Inv X pins σ (upd H c' (.ik oc (.own c'))) {s with heap:=h',toks:=tk}:=by
   refine I.un ⟨λb o e n _ _=>keep b o (λz=>by rw[z,hP] at n;cases n) e,λb o e n _ _=>⟨o.slots,keep b o (λz=>by rw[z,hP] at n;cases n) e⟩,λb o e n _=>?_,λb o e _=>?_,λb xs e=>H1ne b _ e,λb o u e=>H1ne b _ e,λb ps e=>⟨#[],by rw[H1ne b _ e,Kh]⟩⟩ λb u e=>?_
   ·rw[ae (λz=>absurd (Gz e) (by rw[z];exact Ky.mpr hge))];exact n
   ·by_cases z:b=P
    ·rw[z];exact⟨_,htb⟩
    ·exact⟨o,keep b o z e⟩
   ·by_cases z:b=c'
    ·subst z;rw[aa] at e;cases e;exact⟨hoc,oc,hoc⟩
    ·rw[ae z] at e;by_cases z2:b=P
     ·subst z2;rw[hP] at e;cases e;refine⟨_,htb,by rw[IH];exact i4 _ tr,λp cv hc=>?_⟩
      rw[IH] at hc;rcases kQ _ tr hc with q|q
      ·obtain⟨c2,oc2,vs2,t2,g1,g2,g3⟩:=fa p cv q;exact⟨c2,oc2,vs2,t2,g1,H1ne _ _ g2,g3⟩
      ·rw[qY];exact⟨c',oc,vs,t,q,aa,hd,hv⟩
     ·refine (I.aU b u e).me (λc v hc q=>keep c v ?_ q) (λc q=>H1ne c _ q) (λc xs q=>H1ne c _ q) λc _ _ q=>H1ne c _ q;rcases hc with rfl|hc
      ·exact z2
      ·exactλz3=>hoP b (by rw[<- z3];exact hc)
  have n2:upd H c' (.ik oc (.own c')) h'.objs.size=none:=J1.aU.fresh (Gp _);have J:=J1.wB (f:=h'.objs.size) (t':=tk) (h':=h'.push (PySem.W.kla_obj "<lambda>" ((x++".<locals>.")++"<lambda>") params body scope cl ((X.mg "__name__").getD .none) c' ctv)) (λb u e=>Gh _ e) (Gp _) (Gw _ rfl);exact h _ c' _ ctv _ _ (.more (.more .refl n1) n2) J ⟨aa,c',oc,vs,t,rfl,by rw[ae (ai aa n2)];exact aa,hd,hv⟩
end
section
variable {α β:Type}
noncomputable def gM(p:Int×α):List (Int×α)->List (Int×α)
 |[]=>[p]
 |q::r=>if p.1<=q.1 then p::q::r else q::gM p r
noncomputable def dQ:List (Int×α)->List (Int×α)
 |[]=>[]
 |p::r=>gM p (dQ r)
abbrev CG(l:List (Int×α)):Prop:=l.Pairwise λp q=>p.1<=q.1
noncomputable def atK(a:Int)(l:List (Int×α)):List (Int×α):=l.filter λp=>decide (p.1=a)
theorem fN(p:Int×α):∀l,(gM p l).Perm (p::l)
 |[]=>.refl _
 |q::r=>by
  unfold gM;split
  ·exact .refl _
  ·exact ((fN p r).cons q).trans (List.Perm.swap p q r)
theorem dC:∀l:List (Int×α),(dQ l).Perm l
 |[]=>.refl _
 |p::r=>(fN p _).trans ((dC r).cons p)
theorem qN{p:Int×α}:∀{l:List (Int×α)},CG l->CG (gM p l)
 |[],_=>KO _ _
 |q::r,h=>by
  obtain⟨h1,h2⟩:=G_.mp h;unfold gM;split
  ·rename_i c;exact G_.mpr ⟨λz hz=>by
    rcases Gs.mp hz with rfl|hz
    ·exact c
    ·exact Int.le_trans c (h1 z hz),h⟩
  ·rename_i c;refine G_.mpr ⟨λz hz=>?_,qN h2⟩;rcases Gs.mp ((fN p r).mem_iff.mp hz) with rfl|hz
   ·lia
   ·exact h1 z hz
theorem nj:∀l:List (Int×α),CG (dQ l)
 |[]=>List.Pairwise.nil
 |_::r=>qN (nj r)
theorem bw(a:Int)(p:Int×α)(l:List (Int×α)):atK a (p::l)=if p.1=a then p::atK a l else atK a l:=by
 unfold atK;rw[List.filter_cons];by_cases z:p.1=a
 ·rw[Gn z,Gn (GZ z)]
 ·rw[Gj z,Gj (by simp[z])]
theorem rB{a:Int}{p:Int×α}:∀{l:List (Int×α)},atK a (gM p l)=atK a (p::l)
 |[]=>rfl
 |q::r=>by
  unfold gM;split
  ·rfl
  ·rename_i c;rw[bw,rB,bw,bw,bw];by_cases z:p.1=a
   ·have z2:¬ q.1=a:=by lia
    simp only[z,z2,JE,Ih]
   ·simp only[z,Ih]
theorem nr{a:Int}:∀l:List (Int×α),atK a (dQ l)=atK a l
 |[]=>rfl
 |p::r=>by
  show atK a (gM p (dQ r))=_;rw[rB,bw,bw,nr r]
theorem jJ{a:Int}:∀{l:List (Int×α)},(∀p∈l,a<p.1)->atK a l=[]
 |[],_=>rfl
 |p::r,h=>by
  have:=h p (GD ..);rw[bw,Gj (by lia),jJ λq hq=>h q (GC _ hq)]
theorem kO:∀{l m:List (Int×α)},CG l->CG m->(∀a,atK a l=atK a m)->l=m
 |[],[],_,_,_=>rfl
 |[],q::m,_,_,h=>by
  have:=h q.1;rw[bw,Gn rfl] at this;cases this
 |p::l,[],_,_,h=>by
  have:=h p.1;rw[bw,Gn rfl] at this;cases this
 |p::l,q::m,hl,hm,h=>by
  obtain⟨l1,l2⟩:=G_.mp hl;obtain⟨m1,m2⟩:=G_.mp hm;have e:p.1=q.1:=by
   rcases Int.lt_trichotomy p.1 q.1 with z|z|z
   ·have q1:=h p.1;rw[bw,Gn rfl,bw,Gj (by lia),jJ (l:=m) λr hr=>by have:=m1 r hr;lia] at q1
    cases q1
   ·exact z
   ·have q1:=h q.1;rw[bw,Gj (by lia),bw,Gn rfl,jJ (l:=l) λr hr=>by have:=l1 r hr;lia] at q1
    cases q1
  have q1:=h p.1;rw[bw,Gn rfl,bw,Gn e.symm] at q1;obtain⟨q2,q3⟩:=List.cons.inj q1;subst q2;congr 1;refine kO l2 m2 λa=>?_;have q4:=h a;rw[bw,bw] at q4;by_cases z:p.1=a
  ·rw[Gn z,Gn z] at q4;exact (List.cons.inj q4).2
  ·rw[Gj z,Gj z] at q4;exact q4
theorem mM{l m:List (Int×α)}(hm:CG m)(h:∀a,atK a m=atK a l):m=dQ l:=kO hm (nj l) λa=>by rw[h a,nr]
abbrev CC(R:α->β->Prop):List (Int×α)->List (Int×β)->Prop:=Paired λp q=>p.1=q.1/\R p.2 q.2
theorem uH{R:α->β->Prop}{p:Int×α}{q:Int×β}(h:p.1=q.1/\R p.2 q.2){l:List (Int×α)}{m:List (Int×β)}(k:CC R l m):CC R (gM p l) (gM q m):=by
 induction k with
 |nil=>exact .cons h .nil
 |cons r t ih =>
  unfold gM;split
  ·rename_i z;rw[Gn (by rw[<- h.1,<- r.1];exact z)]
   exact .cons h (.cons r t)
  ·rename_i z;rw[Gj (by rw[<- h.1,<- r.1];exact z)]
   exact .cons r ih
theorem rK{R:α->β->Prop}{l:List (Int×α)}{m:List (Int×β)}(k:CC R l m):CC R (dQ l) (dQ m):=by
 induction k with
 |nil=>exact .nil
 |cons r t ih=>exact uH r ih
theorem uh{R:α->β->Prop}{ks:List Int}{l:List α}{m:List β}(k:Paired R l m):CC R (ks.zip l) (ks.zip m):=by
 induction k generalizing ks with
 |nil=>rw[List.zip_nil_right,List.zip_nil_right];exact .nil
 |cons r t ih =>
  cases ks with
  |nil=>exact .nil
  |cons k ks=>exact .cons ⟨rfl,r⟩ ih
theorem u4{R:α->β->Prop}{l:List (Int×α)}{m:List (Int×β)}(k:CC R l m):Paired R (l.map (·.2)) (m.map (·.2)):=by
 induction k with
 |nil=>exact .nil
 |cons r t ih=>exact .cons r.2 ih
noncomputable def iH(ks:List Int)(l:List α):List α:=(dQ (ks.zip l)).map (·.2)
theorem qx{R:α->β->Prop}{ks:List Int}{l:List α}{m:List β}(h:Paired R l m):Paired R (iH ks l) (iH ks m):=u4 (rK (uh h))
theorem qu{ks:List Int}{l:List α}(h:ks.length=l.length):(iH ks l).length=l.length:=by
 unfold iH;rw[Gu,(dC _).length_eq,JS,h,KD]
theorem iS{ks:List Int}{l:List α}(h:ks.length=l.length):(iH ks l).Perm l:=by
 have h2:((ks.zip l).map (·.2))=l:=KG (by lia)
 have h3:=(dC (ks.zip l)).map (·.2);rw[h2] at h3;exact h3
end
theorem i6:∀{xs:List V} {us:List Value},Vals xs us->Paired RelV xs us
 |_,_,.nil=>.nil
 |_,_,.cons r t=>.cons r (i6 t)
theorem iA:∀{xs:List V} {us:List Value},Paired RelV xs us->Vals xs us
 |_,_,.nil=>.nil
 |_,_,.cons r t=>.cons r (iA t)
theorem rj:∀{us:List Value} {ns:List Int},IntsAre us ns->∀{i:Nat},i<ns.length->∃t,us.getD i Value.none=.int (ns.getD i 0) t
 |_,_,.cons n t h,0,_=>⟨t,rfl⟩
 |_,_,.cons n t h,i+1,hi=>rj h (i:=i) (by simpa using hi)
theorem uZ{p:List Nat}(hl:kz.length=us.length)(hp:p.Perm (List.range us.length))(hr:p.Pairwise (SP.R λi=>kz.getD i 0)):p.map (λi=>us.getD i Value.none)=iH kz us:=by
 have ez:(List.range us.length).map (λi=>(kz.getD i 0,us.getD i Value.none))=kz.zip us:=by
  apply ID
  ·rw[Gu,He,JS,hl,KD]
  ·intro i h1 h2;rw[Gu,He] at h1;rw[List.getElem_map,List.getElem_range,List.getElem_zip];simp[h1,hl]
 have e1:p.map (λi=>(kz.getD i 0,us.getD i Value.none))=dQ (kz.zip us):=by
  refine mM ?_ λa=>?_
  ·exact Iy.mpr (hr.imp λh=>h.le)
  ·have fl:∀l:List Nat,atK a (l.map λi=>(kz.getD i 0,us.getD i Value.none))=(l.filter λi=>decide (kz.getD i 0=a)).map λi=>(kz.getD i 0,us.getD i Value.none):=λl=>by
    unfold atK;rw[List.filter_map];rfl
   rw[<- ez,fl,fl];congr 1;refine KH (le:=(· < ·)) (λa b _ _ h g=>absurd h (Nat.lt_asymm g)) ?_ (Jv.filter _) (hp.filter _);rw[List.pairwise_filter];refine hr.imp λ{i j} h hi hj=>?_;have hi:=Ht hi;have hj:=Ht hj;rcases h with h|h
   ·exfalso;have h':kz.getD i 0<kz.getD j 0:=h;lia
   ·exact h.2
 unfold iH;rw[<- e1,L0];rfl
section
variable {X:Cx} {pins:List (Addr×Obj)} {σ:St} {H:Hp} {s:Shared} {E:Value->Shared->Prop}
theorem Inv.take{D:Addr}{ob:Obj}{o:HO}{t':Nat}(I:Inv X ((D,ob)::pins) σ H s)(hs0:X.s₀.heap.objs.size<=D)(hnp:∀p∈X.pn++pins,p.1≠D)(k:∀b u,b≠D->s.heap.get? b=some u->h'.get? b=some u)(new:bf X.prog X.w (upd H D o) h' D o):
  Inv X pins σ (upd H D o) {s with heap:=h',toks:=t'}:=by
 obtain⟨g1,g2,g3,g4,g5⟩:=I.pin (D,ob) (GL _ (GD ..));have I0:Inv X pins σ H s:=⟨I.ok,I.os,I.bare,I.base,I.loc,I.cell,I.free,I.fk,λp hp=>I.pin p ((Hm.mp hp).elim (λz=>IX _ z) λz=>GL _ (GC _ z)),I.aU,I.len⟩;have ne:∀b u,H b=some u->b≠D:=λb u e=>ai e g2;refine I0.step (g':=s.gens) (d':=s.drawn) (ch:=[D]) (λb hb=>?_) (λb o' _ _ hc e _=>k b o' (λz=>hc (by rw[z];exact GA.mpr rfl)) e) (λb o' _ _ hc e _=>⟨o'.slots,k b o' (λz=>hc (by rw[z];exact GA.mpr rfl)) e⟩) (λb o' hc e n=>by rw[ae (λz=>hc (by rw[z];exact GA.mpr rfl))];exact n)
  (λb o' hc e=>⟨o',k b o' (λz=>hc (by rw[z];exact GA.mpr rfl)) e⟩) (λb xs e=>by rw[ae (ne b _ e)];exact e) (λb o' u e=>by rw[ae (ne b _ e)];exact e) (λb ps e=>⟨#[],by rw[ae (ne b _ e),e,Kh]⟩) (λm hm=>?_) (λb u e=>?_) I.bare
 ·rw[GA.mp hb];refine⟨.inr hs0,g3,λx c e z=>?_,hnp⟩;obtain⟨v,o',ho',hd⟩:=I.cell x c e;rw[z,g1] at ho';cases ho';exact g5 v hd
 ·obtain⟨o',es,ep,ho',r⟩:=hm;exact⟨o',es,ep,k _ _ (HB g3) ho',r⟩
 ·by_cases z:b=D
  ·subst z;rw[aa] at e;cases e;exact new
  ·rw[ae z] at e;refine (I.aU b u e).me (λc v hc q=>k c v ?_ q) (λc q=>by rw[ae (ne c _ q)];exact q) (λc xs q=>by rw[ae (ne c _ q)];exact q) λc _ _ q=>by rw[ae (ne c _ q)];exact q
   rcases hc with rfl|hc
   ·exact z
   ·exact ne c _ hc
theorem qM{A:Around}{D:Nat}{st:SortSt}
  (I:Inv X ((D,seqObj "list" #[] e1)::pins) σ (upd H kS (.lst (kz.map V.int))) s) (hkS:H kS=none) (hD:H D=none) (hkD:kS≠D) (hs0:X.s₀.heap.objs.size<=D) (hnp:∀p∈X.pn++pins,p.1≠D)
  (hv:Vals xs us) (hlen:kz.length=us.length) (h64:us.length<64) (ho:((arrOf st).map (·.2)).toList=iH kz us) (hfl:failedOf st=none)
  (h:∀s',Inv X pins σ (upd (upd H kS (.lst [])) D (.lst (iH kz xs))) s'->P (.done (.ret .none)) s') :
  wpAny (model X.prog X.w) A (ksk_tail D false e1 (.ref kS) st) P E s:=by
 obtain⟨_,its,n,vr,ek⟩:=I.aU kS _ aa;have hz:its.toArray.size<=sizeLine:=by
  rw[Gy,<- vr.length,Gu,hlen,HC];lia
 have pD:=I.pin _ (GL _ (GD ..));have hout:((arrOf st).map (·.2)).size=us.length:=by
  rw[<- Hc,ho,qu hlen]
 have s1:=HQ s.heap kS (Obj.mapSeq λ_=>(#[]:Array Value));obtain⟨c1,hc1⟩:∃c,(s.heap.update kS (Obj.mapSeq λ_=>(#[]:Array Value))).get? kS=some (seqObj "list" #[] c):=⟨_,Jk ek λ_=>#[]⟩;have J1:Inv X ((D,seqObj "list" #[] e1)::pins) σ (upd H kS (.lst [])) {s with heap:=s.heap.update kS (Obj.mapSeq λ_=>(#[]:Array Value))}:=by
  have J:=I.write (x:=kS) (e:=kS) (o:=.lst []) (t':=s.toks) (h':=s.heap.update kS (Obj.mapSeq λ_=>(#[]:Array Value))) (by rw[aa];trivial) (.inl rfl) (λb u hb q=>(s1.2 b hb).trans q) ⟨_,hc1⟩ ⟨GH _,[],c1,.nil,hc1⟩
  rw[kX] at J;exact J
 have pD1:=J1.pin _ (List.mem_append_right _ (List.mem_cons_self ..));have s2:=Heap.SameBut.update (s.heap.update kS (Obj.mapSeq λ_=>(#[]:Array Value))) D (Obj.mapSeq λ_=>(arrOf st).map (·.2));obtain⟨c2,hc2⟩:∃c,((s.heap.update kS (Obj.mapSeq λ_=>(#[]:Array Value))).update D (Obj.mapSeq λ_=>(arrOf st).map (·.2))).get? D=some (seqObj "list" ((arrOf st).map (·.2)) c):=⟨_,get?_update_seq pD1.1 λ_=>(arrOf st).map (·.2)⟩;have vB:Vals (iH kz xs) (iH kz us):=iA (qx (i6 hv));unfold ksk_tail;dsimp only;refine wpAny_bind (listUpdate_at ek rfl ?_ hz (Nat.zero_le _));refine wpAny_bind (wpAny_letGo ?_);refine wpAny_bind (seqEpoch_at pD1.1 rfl ?_);refine wpAny_bind (listUpdate_at pD1.1 rfl ?_ (Nat.zero_le _) (by show ((arrOf st).map (·.2)).size<=_;rw[hout,sizeLine_eq];lia))
 rw[hfl];simp only[Kq,HH,Ih];refine Gq (h _ (J1.take hs0 hnp (λb u hb q=>(s2.2 b hb).trans q) ⟨?_,iH kz us,c2,vB,?_⟩))
 ·rw[vB.length,qu hlen,HC];lia
 ·rw[<- ho,Jd];exact hc2
theorem Ci{A:Around}{D:Nat}{us:List Value}{kz:List Int}{keys:Array Value}
  (I:Inv X ((D,seqObj "list" #[] e1)::pins) σ (upd H kS (.lst (kz.map V.int))) s) (hkS:H kS=none) (hD:H D=none) (hkD:kS≠D) (hs0:X.s₀.heap.objs.size<=D) (hnp:∀p∈X.pn++pins,p.1≠D)
  (hv:Vals xs us) (hlen:kz.length=us.length) (h64:us.length<64) (hk:IntsAre keys.toList kz)
  (h:∀s',Inv X pins σ (upd (upd H kS (.lst [])) D (.lst (iH kz xs))) s'->P (.done (.ret .none)) s') :
  wpAny (model X.prog X.w) A (ksk_end D false us.toArray e1 (.ref kS) keys) P E s:=by
 have hsz:keys.size=us.length:=by
  have z:=hk.length;rw[Hc] at z;exact z.trans hlen
 have hzs:(keys.zip us.toArray).size=us.length:=by
  rw[Array.size_zip,hsz,Gy,KD]
 unfold ksk_end;dsimp only;rw[if_neg Bool.false_ne_true,if_neg Bool.false_ne_true];by_cases h2:us.toArray.size<2
 ·rw[if_pos h2,if_pos h2];refine wpAny_bind (wpAny_pure ?_);rw[StateT.run_pure];refine wpAny_bind (wpAny_pure ?_);dsimp only;refine qM I hkS hD hkD hs0 hnp hv hlen h64 ?_ rfl h;rw[List.size_toArray] at h2;have:=uZ (us:=us) (kz:=kz) (p:=List.range us.length) hlen (List.Perm.refl _) (by
   rcases us with _|⟨x,_|⟨y,r⟩⟩
   ·exact .nil
   ·simp
   ·exfalso;simp only[GF] at h2;lia)
  rw[<- this];show ((keys.zip us.toArray).map (·.2)).toList=_;rw[Array.toList_map,Array.toList_zip,KG (by simp only[Hc,Gy];lia)]
  apply ID
  ·simp
  ·intro i h1 h2;have h1':i<us.length:=h1;simp[h1']
 ·rw[Gj h2,Gj h2];rw[Gy] at h2;rw[ksk_kind hk (by lia)]
  refine Gg (Gq ?_);have ek:keys=keys.toList.toArray:=(Jd).symm;have hkl:keys.toList.length=us.length:=by rw[Hc,hsz]
  have hat:∀i,i<us.length->∃t,keys.toList.getD i Value.none=.int (kz.getD i 0) t:=λi hi=>rj hk (by rw[hlen];exact hi)
  generalize keys.toList=ks at *;subst ek;refine Gg (Hq (PySem.W.kat_run (ks:=ks) (vs:=us) (κ:=oneType') (Q:=λst' s'=>s'=s/\failedOf st'=none/\((arrOf st').map (·.2)).toList=iH kz us)
   (G:=λp s'=>s'=s/\p.toList.Perm (List.range us.length)/\p.toList.Pairwise (SP.R λi=>kz.getD i 0)) hkl (by lia) h64 (λp st' s' a1 a2 a3 a4=>⟨a4.1,a3,by rw[PySem.W.kat_snds hkl a2];exact uZ hlen a4.2.1 a4.2.2⟩) ?_) ?_ λ_ _ e=>e)
  ·refine SP.rf (k:=λi=>kz.getD i 0) (I:=λs'=>s'=s) (λi j C s' hi hj hI hC=>?_) (by lia) rfl λp s' hp hr hI=>⟨hI,hp,hr⟩
   subst hI;obtain⟨t1,e1⟩:=hat i hi;obtain⟨t2,e2⟩:=hat j hj;unfold PySem.W.kas_ask;rw[e1,e2];exact PySem.W.kat_lt_int (hC _ rfl)
  rintro⟨⟨⟩,st'⟩ s' ⟨rfl,hf,ho⟩;dsimp only;exact qM I hkS hD hkD hs0 hnp hv hlen h64 ho hf h
theorem je:∀{us:List Value} {ns:List Int},Vals (ns.map V.int) us->IntsAre us ns
 |_,[],.nil=>.nil
 |_,n::ns,.cons ⟨t,e⟩ r=>by subst e;exact .cons n t (je r)
theorem xO{A:Around}{D:Nat}{f:Value}
  (I:Inv X ((D,seqObj "list" #[] e1)::pins) σ (upd H kS (.lst [])) s) (hkS:H kS=none) (hD:H D=none) (hkD:kS≠D) (hs0:X.s₀.heap.objs.size<=D) (hnp:∀p∈X.pn++pins,p.1≠D)
  (hv:Vals xs us) (hlen:kz.length=us.length) (h64:us.length<64)
  (turn:∀(i:Nat) (u:Value) (k:Int),us[i]?=some u->kz[i]?=some k->∀pins' H' s',dP H H'->Inv X pins' σ H' s'->wpAny (model X.prog X.w) A (call f [u]) (λr s2=>(∃t,r=.int k t)/\Inv X pins' σ H' s2) (λ_ _=>False) s')
  (h:∀s',Inv X pins σ (upd (upd H kS (.lst [])) D (.lst (iH kz xs))) s'->P (.done (.ret .none)) s') :
  wpAny (model X.prog X.w) A (ksk_rest D f false us.toArray e1 (.ref kS)) P E s:=by
 unfold ksk_rest;refine Gg (Ku ?_)
 first
  |rw[List.forIn_toArray]
  | (rw[<- Array.forIn_toList];simp only[Ji])
 refine Gg (ksk_fold (λi s'=>Inv X ((D,seqObj "list" #[] e1)::pins) σ (upd H kS (.lst ((kz.take i).map V.int))) s') us 0 s I ?one ?all)
 case one =>
  intro j u s' hu J;rw[Lz] at J ⊢;have hj:j<us.length:=(Gm.mp hu).1;obtain⟨k,hkj⟩:∃k,kz[j]?=some k:=⟨_,Gi (by lia)⟩
  refine wpAny_bind (wpAny_attempt (wpAny_mono (turn j u k hu hkj _ _ s' (.more .refl hkS) J) (λr s2 hr=>?_) λ_ _ z=>z.elim));obtain⟨⟨t,rfl⟩,J2⟩:=hr;dsimp only;obtain⟨_,its,n,vr,ek⟩:=J2.aU kS _ aa;have lenI:its.length<=us.length:=by
   rw[<- vr.length,Gu,GQ];lia
  have s1:=HQ s2.heap kS (Obj.mapSeq (·.push (.int k t)));obtain⟨c1,hc1⟩:∃c,(s2.heap.update kS (Obj.mapSeq (·.push (.int k t)))).get? kS=some (seqObj "list" (its.toArray.push (.int k t)) c):=⟨_,Jk ek (·.push (.int k t))⟩;have et:kz.take (j+1)=kz.take j++[k]:=by
   rw[List.take_add_one,hkj];rfl
  have vr2:Vals ((kz.take (j+1)).map V.int) (its++[.int k t]):=by
   rw[et,GU];exact vr.append (.cons ⟨t,rfl⟩ .nil)
  refine Gg (J6 ek rfl ?_ (by rw[Gy,HC];lia) (by show (its.toArray.push (.int k t)).size<=_;rw[Array.size_push,Gy,HC];lia))
  refine Gq ⟨rfl,?_⟩;have J3:=J2.write (x:=kS) (e:=kS) (o:=.lst ((kz.take (j+1)).map V.int)) (t':=s2.toks) (h':=s2.heap.update kS (Obj.mapSeq (·.push (.int k t)))) (by rw[aa];trivial) (.inl rfl) (λb u hb q=>(s1.2 b hb).trans q) ⟨_,hc1⟩
   ⟨by rw[Gu,GQ,HC];lia,its++[.int k t],c1,vr2,by rw[hc1,List.push_toArray]⟩
  rw[kX] at J3;exact J3
 case all =>
  intro s' J;have ez:kz.take (0+us.length)=kz:=Hs (by lia)
  have J':Inv X ((D,seqObj "list" #[] e1)::pins) σ (upd H kS (.lst (kz.map V.int))) s':=by
   rw[<- ez];rw[ez];simpa only[ez] using J
  obtain⟨_,its,n,vr,ek⟩:=J'.aU kS _ aa;refine Gg (JO ek rfl ?_);exact Ci J' hkS hD hkD hs0 hnp hv hlen h64 (by rw[Ji];exact je vr) h
theorem yW{A:Around}{D:Addr}{n0:Nat}{h0:Heap}{f:Value}
  (I:Inv X pins σ H s) (k0:∀b o,s.heap.get? b=some o->h0.get? b=some o) (hDs:s.heap.objs.size<=D) (ho:h0.get? D=some (seqObj "list" us.toArray n0)) (hv:Vals xs us) (hlen:kz.length=us.length) (h64:us.length<64)
  (turn:∀(i:Nat) (u:Value) (k:Int),us[i]?=some u->kz[i]?=some k->∀pins' H' s',dP H H'->Inv X pins' σ H' s'->wpAny (model X.prog X.w) A (call f [u]) (λr s2=>(∃t,r=.int k t)/\Inv X pins' σ H' s2) (λ_ _=>False) s')
  (h:∀H' s',dP H H'->H' D=none->Inv X pins σ (upd H' D (.lst (iH kz xs))) s'->P (.done (.ret .none)) s') :
  wpAny (model X.prog X.w) A (ksk_tree D f false) P E {s with heap:=h0}:=by
 have hsz0:D<h0.objs.size:=Gz ho;have s1:=HQ h0 D (Obj.mapSeq λ_=>(#[]:Array Value));obtain⟨e1,ho1⟩:∃e,(h0.update D (Obj.mapSeq λ_=>(#[]:Array Value))).get? D=some (seqObj "list" #[] e):=⟨_,Jk ho λ_=>#[]⟩;have hkz:((h0.update D (Obj.mapSeq λ_=>(#[]:Array Value))).push (seqObj "tuple" us.toArray 0)).objs.size=h0.objs.size+1:=by
  rw[size_push',K7]
 have nD:∀b o,s.heap.get? b=some o->b≠D:=λb o e=>GG (GK (Gz e) hDs);have keep:∀b o,s.heap.get? b=some o->(((h0.update D (Obj.mapSeq λ_=>(#[]:Array Value))).push (seqObj "tuple" us.toArray 0)).push (seqObj "list" #[] 0)).get? b=some o:=λb o e =>
  Gh _ (Gh _ ((s1.2 b (nD b o e)).trans (k0 b o e)))
 have hle:s.heap.objs.size<=h0.objs.size+1:=Gr hDs (Nat.le_succ_of_le (Iz hsz0));have hkD:h0.objs.size+1≠D:=HR (IT hsz0);have hkS:H (h0.objs.size+1)=none:=I.aU.fresh hle;have hD:H D=none:=I.aU.fresh hDs;have hnp:∀p∈X.pn++pins,p.1≠D:=λp hp=>nD _ _ (I.pin p hp).1;have J0:Inv X pins σ (upd H (h0.objs.size+1) (.lst [])) {s with heap:=((h0.update D (Obj.mapSeq λ_=>(#[]:Array Value))).push (seqObj "tuple" us.toArray 0)).push (seqObj "list" #[] 0)}:=
  I.laid (t':=s.toks) keep hle ⟨GH _,[],0,.nil,by rw[<- hkz];exact Gw _ rfl⟩
 have J:Inv X ((D,seqObj "list" #[] e1)::pins) σ (upd H (h0.objs.size+1) (.lst [])) {s with heap:=((h0.update D (Obj.mapSeq λ_=>(#[]:Array Value))).push (seqObj "tuple" us.toArray 0)).push (seqObj "list" #[] 0)}:=by
  refine J0.lU λp hp=>?_;rcases Gs.mp hp with rfl|hp
  ·exact⟨Gh _ (Gh _ ho1),by rw[ae (HB hkD)];exact hD,λz=>absurd I.lt (by rw[<- z];exact Ky.mpr hDs),I.DM hDs,λv z=>by cases z⟩
  ·exact J0.pin p (GL _ hp)
 unfold ksk_tree;refine Gg (JO ho rfl ?_);refine Gg (J6 ho rfl ?_ (by rw[Gy,HC];lia) (GH _))
 refine Gg (seqEpoch_at ho1 rfl ?_);refine Gg (Lh ?_ (by show us.length<=_;rw[HC];lia))
 refine Gg (Jg ?_ (GH _));refine Hg ?_;show wpAny _ _ (ksk_rest D f false us.toArray e1 (.ref ((h0.update D (Obj.mapSeq λ_=>(#[]:Array Value))).push (seqObj "tuple" us.toArray 0)).objs.size)) _ _ _;rw[hkz];exact xO J hkS hD hkD (Gr I.sz hDs) hnp hv hlen h64 turn λs' K=>h _ s' (.more .refl hkS) (by rw[ae (HB hkD)];exact hD) K
end
noncomputable def zi(q:Str)(params:Arguments)(body:Expr)(scope:Scope)(cl:List (Str×Addr)):TE:=λ_ H Q=>∀f c' pm ctv H1,dP H H1->iC H1 f q params body scope cl c' pm ctv->Q (.ref f) H1
theorem AD{c P:Addr}(hx:x∈dH)(ht:PySem.W.tabIn X.K x=some (c,P))(hcode:X.env.code=.ref c)(hq:X.env.qual=x++".<locals>."){pos:Pos}
  (hdef:defaultsOf params X.env=([],[])) (hcl:closureFor scope X.env=pure cl):PE X (.Lambda params body scope pos) (zi ((x++".<locals>.")++"<lambda>") params body scope cl):=λpins s σ H Q I h =>
 wJ I hx ht hcode hq hdef hcl λf c' pm ctv H1 s1 g J l=>⟨.ref f,H1,J,rfl,h f c' pm ctv H1 g l⟩
section
variable {X:Cx} {pins:List (Addr×Obj)} {σ:St} {H:Hp} {s:Shared} {E:Value->Shared->Prop}
noncomputable def xp(X:Cx)(A:Around)(s:Shared)(l:Addr)(xs:List V):Prop:=∀(Q:List Value->Shared->Prop) (E:Value->Shared->Prop),(∀h0 tk us,(∀b o,s.heap.get? b=some o->h0.get? b=some o)->s.heap.objs.size<=h0.objs.size->Vals xs us->Q us {s with heap:=h0,toks:=tk})->wpAny (model X.prog X.w) A (collect (.ref l)) Q E s
theorem tm{A:Around}{l:Addr}{Q:VK}(I:Inv X pins σ H s)(hcol:xp X A.in1 s l xs)(hlen:kz.length=xs.length)(h64:xs.length<64)
  (turn:∀(i:Nat) (v:V) (u:Value) (k:Int),xs[i]?=some v->RelV v u->kz[i]?=some k->∀pins' H' s',dP H H'->Inv X pins' σ H' s'->wpAny (model X.prog X.w) A.in1.in1 (call (.ref f) [u]) (λr s2=>(∃t,r=.int k t)/\Inv X pins' σ H' s2) (λ_ _=>False) s')
  (h:∀H' D,dP H H'->H' D=none->Q (.ref D) (upd H' D (.lst (iH kz xs)))) :
  wpAny (model X.prog X.w) A (call (.builtin "sorted") [.ref l] [(Str.ofString "key",.ref f)]) (EP X pins σ Q) E s:=by
 refine call_function_entry_kw kind_sorted plain_sorted entry_sorted (ksk_s1 _ _) ?_;unfold Builtin.«sorted»;refine Gg (m:=checkCount "sorted" 1 1 _) (Gq (Gg (hcol _ _ λh0 tk us k0 hz hv=>?_)));have ul:us.length=xs.length:=hv.length.symm;refine Gg (Jg ?_ (by rw[ul,HC];lia))
 have hoL:(h0.push (seqObj "list" us.toArray 0)).get? h0.objs.size=some (seqObj "list" us.toArray 0):=Gw _ rfl;refine Gg (Hg (wpAny_call_entry_kw slot_list_sort ⟨_,hoL,rfl⟩ entry_list_sort ?srt (ksk_l1 _ _)))
 case srt =>
  show wpAny _ A.in1.in1 (Builtin.«list.sort» ⟨[.ref h0.objs.size],[(Str.ofString "key",.ref f)]⟩) _ _ _;rw[ksk_t1];refine yW (s:={s with toks:=tk}) (h0:=h0.push (seqObj "list" us.toArray 0)) (I.tok tk) (λb o e=>Gh _ (k0 b o e)) hz hoL hv (by rw[ul];exact hlen) (by rw[ul];exact h64)
   (λi u k hu hk pins' H' s' g J=>?_) λH' s' g n J=>⟨_,rfl,?_⟩
  ·have hi:i<xs.length:=by rw[<- ul];exact (Gm.mp hu).1
   obtain⟨u',hu',rv⟩:=hv.get (Gi hi);rw[hu] at hu';cases hu';exact turn i _ u k (Gi hi) rv hk pins' H' s' g J
  ·exact Gq ⟨_,rfl,.ref h0.objs.size,_,J,rfl,h H' _ g n⟩
noncomputable def xl(src:Hp->Addr->List V->Prop)(pre:V->Int->Hp->St->Prop)(fr:St->St)(t:TA):TE:=λσ H Q=>t σ H λvs H1=>∃l xs kz,vs=[.ref l]/\src H1 l xs/\kz.length=xs.length/\xs.length<64 /\
 (∀(i:Nat) (v:V) (k:Int),xs[i]?=some v->kz[i]?=some k->∀H',dP H1 H'->pre v k H' (fr σ))/\∀H2 D,dP H1 H2->H2 D=none->Q (.ref D) (upd H2 D (.lst (iH kz xs)))
theorem wK{t:TA}{p pos kpos lpos:Pos}{k:Nat}{src:Hp->Addr->List V->Prop}{pre:V->Int->Hp->St->Prop}{fr:St->St}
  (hg:Gl X "sorted") (hm:X.mg "sorted"=none) (ha:PA X [e] t) (h1:fo e=true) (hr:bD (k+3) X.A) (hL:PE X (.Lambda params body scope lpos) (zi q params body scope cl))
  (hsrc:∀pins σ H s H1 l xs A,Inv X pins σ H s->src H1 l xs->dP H1 H->A.handled=none->xs.length<64->xp X A s l xs)
  (hk:scope.kind=.function) (hco:scope.isCoroutine=false) (hgen:scope.isGenerator=false) (hcell:∀y∈scope.names,y.2≠.cell) (hloc:scope.names.lookup x=some .local)
  (hbind:∀c' pm ctv u,bindArgs (PySem.W.kla_fn "<lambda>" q params body scope cl pm (.ref c') ctv) ⟨[u],[]⟩=pure [(x,u)])
  (hlen:∀σ:St,(fr σ).length=N.length) (hcl:∀y c,cl.lookup y=some c->X.env.cells.lookup y=some c) (hhas:∀y,(scope.names.lookup y=some .cell\/scope.names.lookup y=some .free)->∃c,cl.lookup y=some c)
  (hf:∀pins σ H s,Inv X pins σ H s->∀(i:Nat) (y:Str) (v:V),N[i]?=some y->(fr σ)[i]?=some (some v)->scope.names.lookup y=some .free/\∃c u,cl.lookup y=some c/\s.heap.IsCell c (some u)/\RelV v u)
  (hbody:∀A f c' s' H' σf v i,pre v i H' σf->∃t,PE (rA X A (x::N) q scope f (.ref c') cl s' H') body t/\t (some v::σf) H' (λw H2=>w=.int i/\H2=H')) :
  PE X (.Call (.Name "sorted" p) [e] [⟨some "key",.Lambda params body scope lpos,kpos⟩] pos) (xl src pre fr t):=by
 intro pins s σ H Q I h;refine Il (e_ I hg hm (u:=.builtin "sorted") (by decide +kernel) ?_ (by decide) (by decide))
 have hkw:PK X [⟨some "key",.Lambda params body scope lpos,kpos⟩] (i7 (zi q params body scope cl) iG):=yv hL C1;refine callWith_kw ?_ (by rw[cS h1];rfl) (by rw[cS h1];rfl) rfl rfl
 refine bJ (ha pos pins s σ H _ I h) λus s1 hq1=>?_;obtain⟨vs,H1,I1,r1,q1⟩:=hq1;obtain⟨l,xs,kz,rfl,hs,hle,h64,hpre,qq⟩:=q1;obtain⟨u,rfl,ru⟩:=vals1 r1;cases ru;refine bJ (hkw pos pins s1 σ H1 (λzs H2=>∃f c' pm ctv,zs=[.ref f]/\dP H1 H2/\iC H2 f ((q)) params body scope cl c' pm ctv) I1 λf c' pm ctv H2 g lm=>⟨f,c',pm,ctv,rfl,g,lm⟩) λws s2 hq2=>?_;obtain⟨zs,H2,I2,rz,f,c',pm,ctv,e1,g,lm⟩:=hq2;subst e1;obtain⟨wv,rfl,rw1⟩:=vals1 rz;cases rw1;have hr1:bD (k+2) X.A.in1:=hr.in1;refine tm I2 (hsrc _ _ _ _ _ _ _ _ I2 hs g hr1.hd h64) hle h64 (λi v u j hv rv hj pins' H' s' g' J=>?_) λH' D g' n=>qq H' D (g.trans g') n;obtain⟨ho,g9⟩:=(lm.up λb o u e=>g'.same b _ e).get J;obtain⟨tb,hb,hq⟩:=hbody X.A.in1.in1 f c' s' H' (fr σ) v j (hpre i v j hv hj H' (g.trans g'));refine Hq (uI J hr1.in1 J.ok.frames hk hco hgen hcell rv hloc ho g9 (hbind c' pm ctv) (hlen σ) hcl hhas (hf _ _ _ _ J) hb hq) (λr s4 hr4=>?_) λ_ _ z=>z;obtain⟨w,H4,J4,rw4,e4,e5⟩:=hr4;subst e4 e5;exact⟨rw4,J4⟩
end
theorem kY{a:α}{l:List (Str×α)}:List.lookup x ((x,a)::l)=some a:=by rw[Hk,J8]
theorem iM{y:Str}{a:α}{l:List (Str×α)}(h:y≠x):List.lookup y ((x,a)::l)=List.lookup y l:=by rw[Hk,Hb.mpr h]
abbrev jk(n:Nat):List V:=(List.range n).map λk=>V.int ((k:Nat):Int)
section
variable {X:Cx} {pins:List (Addr×Obj)} {σ:St} {H:Hp} {s:Shared}
theorem oB{A:Around}{r:Addr}{n:Nat}(hh:A.handled=none)(I:Inv X pins σ H s)(hr:H r=some (.m_ 0 n))(h64:n<64):xp X A s r (jk n):=λQ E h=>by
 obtain⟨t,u,v,e⟩:=I.aU r _ hr;have hn2:Builtin.Range.rangeSize 0 (n:Int) 1=n:=by rw[rangeSize_one];split<;>lia
 have hsm:Builtin.Range.small 0 (n:Int) 1=true:=small_one (by lia) (by lia) (by lia) (by lia)
 have oS:(s.heap.push {cls:=.type "list",data:=.seq ([]:List Value).toArray}).get? s.heap.objs.size=some {cls:=.type "list",data:=.seq #[] 0}:=Gw _ rfl;unfold collect;refine Gg (wpAny_runValue (IP PySem.F.entry_proto_collect ?_));rw[I_ PySem.F.plain_proto_collect _];refine Gg (m:=newList []) (HN (Gq ⟨Lo PySem.F.plain_list_iadd _,IP PySem.F.entry_list_iadd ?_⟩));rw[I_ PySem.F.plain_list_iadd _];show wpAny _ A.in1 (Builtin.List.listExtendWith _ _ _) _ _ _;refine wpAny_extend_range (R:=λr s'=>match r with|.ok (.ret v)=>wpAny (model X.prog X.w) A (match v with|.ref a=>do (match (<- load a).data with|.seq xs _=>pure xs.toList|_=>unsupported "internal:collect")|_=>unsupported "internal:collect") Q E s'|.ok _=>_|.error e=>E e s') (s:={s with heap:=s.heap.push {cls:=.type "list",data:=.seq ([]:List Value).toArray}}) hh (Gh _ e) hsm hn2 (by lia) s.heap.objs.size (.ref s.heap.objs.size) 0 oS λh' tk acc c' hk hS hI=>?_
 refine Gg (m:=load s.heap.objs.size) (wpAny_load hS (Gq (h h' tk acc.toList (λb o e=>hk b o (GG (Gz e)) (Gh _ e)) (Iz (Gz hS)) ?_)));have hv:=Y.f_ (lo:=0) n acc.toList 0 (by simpa using hI.1) λj v e=>by
  obtain⟨t,e2⟩:=hI.2 j v (by simpa using e)
  exact⟨t,by rw[e2];simp⟩
 show Vals ((List.range n).map λk=>V.int ((k:Nat):Int)) acc.toList;rw[Jc]
 simpa using hv
end
theorem bz.same{H':Hp}{a:Addr}(g:xf H H')(h:bz K H a xs):bz K H' a xs:=by
 rcases h with (h|⟨o,h⟩)|h
 ·exact .inl (.inl (g _ _ h))
 ·exact .inl (.inr ⟨o,g _ _ h⟩)
 ·exact .inr h
noncomputable def FT(j:Nat)(σ:St):St:=[(σ[j]?).getD none]
noncomputable def jI(K:LA)(j:Nat)(t:TA):TE:=xl (λH l xs=>∃n:Nat,H l=some (.m_ 0 n)/\xs=jk n) (λv k H' σf=>∃i q ls,v=.int i/\σf=[some (.ref q)]/\bz K H' q ls/\bV ls i=some (.int k)) (FT j) t
theorem wc{t:TA}{p pos kpos lpos p1 p2 p3:Pos}{y:Str}{c:Addr}{j:Nat}{k:Nat}(hg:Gl X "sorted")(hm:X.mg "sorted"=none)(ha:PA X [e] t)(h1:fo e=true)(hr:bD (k+3) X.A)
  (hL:PE X (.Lambda params (.Subscript (.Name y p1) (.Name x p2) p3) scope lpos) (zi q params (.Subscript (.Name y p1) (.Name x p2) p3) scope [(y,c)]))
  (hsc:scope={kind:=.function,names:=[(x,.local),(y,.free)],isGenerator:=false,isCoroutine:=false,more:=[]}) (hxy:y≠x) (hx1:(x ==("__debug__":Str))=false) (hx2:(x ==("__classdict__":Str))=false) (hy1:(y ==("__debug__":Str))=false) (hy2:(y ==("__classdict__":Str))=false)
  (hj:X.N[j]?=some y) (hyc:X.env.scope.names.lookup y=some .cell) (hyl:X.env.cells.lookup y=some c)
  (hbind:∀c' pm ctv u,bindArgs (PySem.W.kla_fn "<lambda>" q params (.Subscript (.Name y p1) (.Name x p2) p3) scope [(y,c)] pm (.ref c') ctv) ⟨[u],[]⟩=pure [(x,u)]) :
  PE X (.Call (.Name "sorted" p) [e] [⟨some "key",.Lambda params (.Subscript (.Name y p1) (.Name x p2) p3) scope lpos,kpos⟩] pos) (jI X.K j t):=by
 subst hsc;have lx:List.lookup x [(x,NameKind.local),(y,NameKind.free)]=some .local:=kY;have ly:List.lookup y [(x,NameKind.local),(y,NameKind.free)]=some .free:=by rw[iM hxy,kY]
 have lz:∀z,z≠x->z≠y->List.lookup z [(x,NameKind.local),(y,NameKind.free)]=none:=λz h1 h2=>by rw[iM h1,iM h2];rfl
 have lc:List.lookup y [(y,c)]=some c:=kY;have lcz:∀z d,List.lookup z [(y,c)]=some d->z=y/\d=c:=λz d e=>by
  by_cases h:z=y
  ·rw[h,lc] at e;cases e;exact⟨h,rfl⟩
  ·rw[iM h] at e;cases e
 refine wK (N:=[y]) hg hm ha h1 hr hL (λpins σ H s H1 l xs A I hs g hh h64=>?_) rfl rfl rfl (λz hz=>?_) lx hbind (λ_=>rfl) (λz d e=>?_) (λz hz=>?_) (λpins σ H s I i z v e1 e2=>?_) λA f c' s' H' σf v i hp=>?_
 ·obtain⟨n,hs,rfl⟩:=hs;rw[Gu,He] at h64;exact oB hh I (g.same _ _ hs) h64
 ·rcases Gs.mp hz with rfl|hz
  ·nofun
  ·rw[GA.mp hz];nofun
 ·obtain⟨rfl,rfl⟩:=lcz z d e;exact hyl
 ·by_cases z1:z=x
  ·have hz':List.lookup z [(x,NameKind.local),(y,NameKind.free)]=some .cell\/List.lookup z [(x,NameKind.local),(y,NameKind.free)]=some .free:=hz;rw[z1,lx] at hz';rcases hz' with h|h<;>cases h
  ·by_cases z2:z=y
   ·rw[z2];exact⟨c,lc⟩
   ·have hz':List.lookup z [(x,NameKind.local),(y,NameKind.free)]=some .cell\/List.lookup z [(x,NameKind.local),(y,NameKind.free)]=some .free:=hz;rw[lz z z1 z2] at hz';rcases hz' with h|h<;>cases h
 ·cases i with
  |succ i=>cases e1
  |zero =>
   have e1':some y=some z:=e1;cases e1';have e2':some ((σ[j]?).getD none)=some (some v):=e2;have e3:σ[j]?=some (some v):=by
    cases hσ:σ[j]? with
    |none=>rw[hσ] at e2';cases e2'
    |some o=>rw[hσ] at e2';exact e2'
   obtain⟨m,_,hl⟩:=I.loc;obtain⟨u,rv,lk⟩:=hl j y v hj e3 (.inr (.inl hyc));refine⟨ly,c,u,lc,?_,rv⟩;rcases lk with ⟨z,_⟩|⟨_,d,z1,z2⟩
   ·have z':X.env.scope.names.lookup y=some .local:=z;rw[hyc] at z';cases z'
   ·rw[hyl] at z1;cases z1;exact z2
 ·obtain⟨ix,a,ls,rfl,rfl,hq,ha'⟩:=hp;refine⟨_,Al qe (pv 1 rfl (.inr (.inr ly)) hy1 hy2) (pv 0 rfl (.inl lx) hx1 hx2) (Z.FK rfl),?_⟩;exact⟨_,rfl,_,rfl,a,ls,ix,.int i,rfl,rfl,hq,ha',rfl,rfl⟩
theorem xG{β:Type}{g:α->β}{ks:List Int}{l:List α}:iH ks (l.map g)=(iH ks l).map g:=by
 have p:∀l:List α,Paired (λa b=>b=g a) l (l.map g):=λl=>by
  induction l with
  |nil=>exact .nil
  |cons a l ih=>exact .cons rfl ih
 have q:∀{l:List α} {m:List β},Paired (λa b=>b=g a) l m->m=l.map g:=λ{l m} h=>by
  induction h with
  |nil=>rfl
  |cons r _ ih=>rw[r,ih];rfl
 exact q (qx (p l))
structure qB (K:LA) (mg:Str->Option Value) (x:Str):Prop where
 ex:∃c P,PySem.W.tabIn K x=some (c,P)/\∀f cdv,BV K mg x f cdv->cdv=.ref c
theorem nc{c P:Addr}{oc oc':Value}{od od':Option Addr}{sl sl':Array (Option Value)}{fd:FuncData}{vs:Array Value}(a:PySem.W.nsIn K mainGlobals x=some (some (.ref f)))(l:K.lookup f=some ⟨oc,od,.func fd,sl⟩)(hc:fd.code=.ref c)
  (lc:K.lookup c=some ⟨oc',od',.fields vs,sl'⟩) (hv:vs[11]?=some (.ref P)):PySem.W.tabIn K x=some (c,P):=by
 unfold PySem.W.tabIn;rw[a];dsimp only;rw[l];dsimp only;rw[hc];dsimp only;rw[lc];dsimp only;rw[hv]
theorem ja(a:PySem.W.nsIn K mainGlobals x=some none):PySem.W.tabIn K x=none:=by
 unfold PySem.W.tabIn;rw[a]
theorem qB.mk'{mg:Str->Option Value}{c P:Addr}(X:K.In h)(G:h.Ns mainGlobals mg)(ht:PySem.W.tabIn K x=some (c,P)):qB K mg x:=
 ⟨c,P,ht,λf cdv ⟨m,o,fd,lk,hd,e⟩=>by rw[<- e];exact PySem.W.law_code X G ht m (X _ _ lk) hd⟩
theorem gQ.of{q:Program}{o1 o2 o3:Option (Addr×Addr)}(nt:PySem.W.noTabs K=true)(t1:PySem.W.tabIn K "by_worth"=o1)(t2:PySem.W.tabIn K "by_weight"=o2)(t3:PySem.W.tabIn K "code_of"=o3)(nd:((o1.toList++(o2.toList++o3.toList)).map (·.2)).Nodup)
  (f1:o1=none\/((recsOf q).find? (λe=>e.name ==("by_worth":Str))).isSome=true) (f2:o2=none\/((recsOf q).find? (λe=>e.name ==("by_weight":Str))).isSome=true) (f3:o3=none\/((recsOf q).find? (λe=>e.name ==("code_of":Str))).isSome=true):gQ q K:=by
 refine⟨nt,?_,λx hx=>?_⟩
 ·have e:(bS K).map (·.2.1)=(o1.toList++(o2.toList++o3.toList)).map (·.2):=by
   unfold bS dH
   cases o1<;>cases o2<;>cases o3<;>simp[List.filterMap,t1,t2,t3]
  rw[e];exact nd
 ·unfold dH at hx;rcases Gs.mp hx with rfl|hx
  ·rw[t1];exact f1
  ·rcases Gs.mp hx with rfl|hx
   ·rw[t2];exact f2
   ·rw[GA.mp hx,t3];exact f3
namespace Y
noncomputable def ye:V->List V->Hp->VK->Prop:=λx vs H Q=>∃z y,x=.str z/\vs=[.str y]/\z.length<=sizeLine/\Q (.str (Txt.rstripChars z y)) H
theorem kf:vj X "str.rstrip" ye:=by
 intro pins s σ H x xs v us Q I rx rs h;obtain⟨z,y,rfl,rfl,hz,q⟩:=h;obtain⟨t,rfl⟩:=rx;obtain⟨u,rfl,k,rfl⟩:=vals1 rs;exact SC.rstripChars (λt' k=>⟨.str _,H,I.tok _,⟨_,rfl⟩,q⟩) hz
noncomputable def BB:V->List V->Hp->VK->Prop:=λx vs H Q=>∃z i y,x=.str z/\vs=[.int i,.str y]/\0<=i/\i<1000/\y.length=1/\Q (.str (Txt.ljustF z i (y.cps.getD 0 0))) H
theorem mD:vj X "str.ljust" BB:=by
 intro pins s σ H x xs v us Q I rx rs h;obtain⟨z,i,y,rfl,rfl,h0,h1,hy,q⟩:=h;obtain⟨t,rfl⟩:=rx;obtain⟨u1,u2,rfl,⟨t1,rfl⟩,⟨t2,rfl⟩⟩:=vals2 rs;exact ljust_fill (padOk_of (by lia) (by lia)) hy λt' k=>⟨.str _,H,I.tok _,⟨_,rfl⟩,q⟩
end Y
theorem nB(x y:Str):(Txt.rstripChars x y).cps.toList.reverse=x.cps.toList.reverse.dropWhile y.cps.contains:=by
 have key:∀(p:Nat->Bool) (l:List Nat),(l.take (l.length-(l.reverse.takeWhile p).length)).reverse=l.reverse.dropWhile p:=λp l=>by
  have h:(l.reverse.takeWhile p).length<=l.length:=by simpa using (List.takeWhile_sublist p (l:=l.reverse)).length_le
  rw[List.reverse_take,<- qU];congr 1;lia
 have hl:x.length=x.cps.toList.length:=by rw[Hc];rfl
 rw[<- key];unfold Txt.rstripChars Txt.stripBy;split
 ·rename_i h;unfold stripSame at h;rw[Hy] at h;have h2:x.length-(x.cps.toList.reverse.takeWhile y.cps.contains).length=x.length:=by simpa[stripLo,stripHi] using h.2
  rw[<- hl,h2,hl,IB]
 ·have e:∀(a:Array Nat) (j:Nat),(a.extract 0 j).toList=a.toList.take j:=λa j=>by simp
  have e2:=e x.cps (x.length-(x.cps.toList.reverse.takeWhile y.cps.contains).length);rw[hl] at e2;exact Hj List.reverse e2
namespace Y
noncomputable def Ei:R2:=λx y H Q=>∃(c:Nat) (k:Int),x=.str ⟨#[c]⟩/\y=.int k/\0<=k/\k<=1000/\Q (.str ⟨(List.replicate k.toNat c).toArray⟩) H
theorem qp:dy X (binaryOp .Mult) Ei:=by
 intro pins s σ H x y v u Q I rx ry h;obtain⟨c,k,rfl,rfl,h0,h1,q⟩:=h;obtain⟨t,rfl⟩:=rx;obtain⟨t2,rfl⟩:=ry;have e:Txt.mul ⟨#[c]⟩ k=⟨(List.replicate k.toNat c).toArray⟩:=by
  have:=mul_one_list c k
  cases hz:Txt.mul ⟨#[c]⟩ k with
  |mk a=>rw[hz] at this;rw[<- this,Jd]
 have ok:MulOk ⟨#[c]⟩ k:=by
  refine⟨by simp only[Bool.or_eq_false_iff,decide_eq_false_iff_not];lia,λz _=>?_,λz _=>?_⟩
  ·have hl:((⟨#[c]⟩:Str).length:Int)=1:=rfl;rw[hl];have:1<=(2^63-1) / k:=by
    rw[Int.le_ediv_iff_mul_le (by lia)];lia
   lia
  ·have hl:(⟨#[c]⟩:Str).length=1:=rfl;rw[hl,Nat.one_mul];exact GJ (Ky.mpr (Gr (show k.toNat<=1000 by lia) (by decide)))
 exact SB.mul ok λt' j=>⟨.str _,H,I.tok _,⟨t',by rw[e]⟩,q⟩
noncomputable def DR:V->List V->Hp->VK->Prop:=λx vs H Q=>∃a:Int,x=.int a/\vs=[]/\Q (.int (Builtin.Int.intBits a:Nat)) H
theorem yc:vj X "int.bit_length" DR:=by
 intro pins s σ H x xs v us Q I rx rs h;obtain⟨a,rfl,rfl,q⟩:=h;obtain⟨t,rfl⟩:=rx;obtain rfl:=Paired.zw rs;exact call_int_bit_length ⟨.int _,H,I.tok _,⟨_,rfl⟩,q⟩
noncomputable def EX(K:LA):R2:=λx y H Q=>∃a b xs,x=.ref a/\y=.ref b/\bY K H a xs/\bY K H b []/\Q (.bl xs.isEmpty) H
theorem A9(K:LA)(hK:X.K=K)(hu:X.A.units<cLine):dy X (compareOp .Eq) (EX K):=by
 subst hK;intro pins s σ H x y v u Q I rx ry h;obtain⟨a,b,xs,rfl,rfl,ha,hb,q⟩:=h
 cases rx;cases ry
 obtain⟨its,r1,p1,_⟩:=I.list ha;obtain⟨its2,r2,p2,_⟩:=I.list hb;obtain rfl:=Paired.zw r2
 cases r1 with
 |nil=>exact SeqAt.eq_listAt (e:=λ_=>true) p1.isList p2.isList rfl hu (λj h1=>absurd h1 (JR _)) ⟨.bl true,H,I,rfl,q⟩
 |cons h r=>exact SeqAt.eq_list_lengthsAt p1.isList p2.isList (by simp) hu ⟨.bl false,H,I,rfl,q⟩
end Y
noncomputable def hZ(h:Heap)(d:Addr)(es:Array DictEntry)(ep:Nat):Prop:=∃o,h.get? d=some o/\o.ExactDict/\o.data=.dict es ep
section
variable {prog:Program} {w:World} {A:Around} {E:Value->Shared->Prop} {s:Shared}
theorem hZ.ty(x:hZ s.heap d es ep):s.TypeIs (.ref d) "dict":=let ⟨o,ho,hc,_⟩:=x;⟨o,ho,hc.1⟩
theorem hZ.keep(x:hZ h d es ep)(k:∀o,h.get? d=some o->h'.get? d=some o):hZ h' d es ep:=let ⟨o,ho,r⟩:=x;⟨o,k _ ho,r⟩
theorem hZ.lt(x:hZ h d es ep):d<h.objs.size:=let ⟨_,ho,_⟩:=x;Gz ho
theorem zt(low:(d == sysModules)=false)(x:hZ s.heap d es ep)
  (q:Q (.ref s.heap.objs.size) {s with heap:=s.heap.push {cls:=.type "dict_keyiterator",data:=.fields #[.ref d,.int 0 0,.int es.size 0,.int ep 0]}}):wpAny (model prog w) A (pyIter (.ref d)) Q E s:=by
 obtain⟨o,ho,hx,hdat⟩:=id x;refine wpAny_pyIter_slot x.ty PySem.F.slot_dict_iter (Hz PySem.F.slot_dict_iter x.ty PySem.F.entry_dict_iter ?_ (PySem.F.args_dict_iter_1 _));unfold Builtin.«dict.__iter__» Builtin.Dict.dictSlotNone;refine Gg (Gg (wpAny_notOrdered_dict x.ty ?_));show wpAny _ _ (pure (Value.ref d)) _ _ s;refine Gq ?_;show wpAny _ _ (Builtin.Dict.showsAll d >>= _) _ _ s;unfold Builtin.Dict.showsAll;rw[low,Gj Gx];refine Gg (Gq (Gg (Jr ho hdat (Gg (KY ho hdat ?_)))));exact Gg (HN (Gq ⟨_,rfl,"dict_keyiterator",_,⟨_,Gw _ rfl,rfl⟩,PySem.F.slot_dict_keyiterator_next.lookup,q⟩))
theorem yI{it:Addr}{Q:Option Value->Shared->Prop}(hit:s.heap.IsKeyIter it d i es.size ep)(x:hZ s.heap d es ep)(hi:i<es.size)
  (q:∀h',h'.IsKeyIter it d (i+1) es.size ep->Heap.SameBut it s.heap h'->Q (some es[i].key) {s with heap:=h'}):wpAny (model prog w) A (pyNext (.ref it)) Q E s:=by
 obtain⟨o,ho,hc,hd⟩:=id hit;obtain⟨od,hod,hx,hdd⟩:=id x;unfold pyNext;refine Gg (J5 (Hw (name:=Str.ofString "__next__") hit.typeIs PySem.F.slot_dict_keyiterator_next (Hz PySem.F.slot_dict_keyiterator_next hit.typeIs PySem.F.entry_dict_keyiterator_next ?_ (PySem.F.args_dict_keyiterator_next_1 _))));refine Gg (Gq (Gg (Gg ?_)))
 first|refine Gg (Ig hit.typeIs (Gq (Gg (Kc ho hd ?_))))|refine Gg (IE hit.typeIs (Gq (Gg (Kc ho hd ?_))))
 simp only[show Builtin.Dict_items.ownsTuple "dict_keyiterator"=false by decide,HH,Ih]
 show wpAny _ _ (if (Value.ref d == Value.none)=true then _ else _) _ _ s;rw[Gj (show ¬ ((Value.ref d == Value.none)=true) from Gx)]
 refine Gg (Gq (Gg (Jr hod hdd ?_)));rw[Gj (by simp)]
 refine Gg (Gq (Gg (KY hod hdd ?_)));rw[Gj (by simp)]
 refine Gq ?_;simp only[show ¬ ((i:Int)<0) by lia,Ih,GW,Kz hi]
 refine Gg ?_
 first|refine Gg (Ig hit.typeIs (Gq (Gg (JH hit.typeIs ?_))))|refine Gg (IE hit.typeIs (Gq (Gg (JH hit.typeIs ?_))))
 show wpAny _ _ (setField (.ref it) 1 (rawInt ((i:Int)+1)) >>= _) _ _ s;refine Gg (Kb ho hd (by simp) ?_)
 have h2:(s.heap.update it (Obj.mapFields (·.setIfInBounds 1 (rawInt ((i:Int)+1))))).IsKeyIter it d (i+1) es.size ep:=⟨_,JD _ ho (Obj.isFreed_of_fields (Jo hd _)),(Obj.cls_mapFields ..).trans hc,by rw[Jo hd];simp[rawInt]⟩
 refine Gg (Hg (Gg (JH (s:={s with heap:=s.heap.update it (Obj.mapFields (·.setIfInBounds 1 (rawInt ((i:Int)+1))))}) h2.typeIs ?_)))
 show wpAny _ _ (pure es[i].key) _ _ _;exact Gq (Gq ⟨_,rfl,Gq (q _ h2 (HQ ..))⟩)
theorem zl{it:Addr}{Q:Option Value->Shared->Prop}(hh:A.handled=none)(hit:s.heap.IsKeyIter it d es.size es.size ep)(x:hZ s.heap d es ep)
  (q:∀h',Heap.ExtBut it s.heap h'->Q none {s with heap:=h'}):wpAny (model prog w) A (pyNext (.ref it)) Q E s:=by
 obtain⟨o,ho,hc,hd⟩:=id hit;obtain⟨od,hod,hx,hdd⟩:=id x;unfold pyNext;refine Gg (J5 (Hw (name:=Str.ofString "__next__") hit.typeIs PySem.F.slot_dict_keyiterator_next (Hz PySem.F.slot_dict_keyiterator_next hit.typeIs PySem.F.entry_dict_keyiterator_next ?_ (PySem.F.args_dict_keyiterator_next_1 _))));refine Gg (Gq (Gg (Gg ?_)))
 first|refine Gg (Ig hit.typeIs (Gq (Gg (Kc ho hd ?_))))|refine Gg (IE hit.typeIs (Gq (Gg (Kc ho hd ?_))))
 simp only[show Builtin.Dict_items.ownsTuple "dict_keyiterator"=false by decide,HH,Ih]
 show wpAny _ _ (if (Value.ref d == Value.none)=true then _ else _) _ _ s;rw[Gj (show ¬ ((Value.ref d == Value.none)=true) from Gx)]
 refine Gg (Gq (Gg (Jr hod hdd ?_)));rw[Gj (by simp)]
 refine Gg (Gq (Gg (KY hod hdd ?_)));rw[Gj (by simp)]
 refine Gq ?_;simp only[show ¬ ((es.size:Int)<0) by lia,Ih,GW,Le (Gp es.size)]
 refine Gg ?_
 first|refine Gg (Ig hit.typeIs (Gq ?_))|refine Gg (IE hit.typeIs (Gq ?_))
 show wpAny _ _ (setField (.ref it) 0 .none >>= _) _ _ s;refine Gg (Kb ho hd (by simp) ?_)
 show wpAny _ _ (newExc (.type "StopIteration") [] >>= _) _ _ _;refine Gg ?_;simp only[newExc,newTuple];refine Gg (HN ?_ (by size_fits))
 refine Gg (m:=firstArgMember _ _) (wpAny_of_eq (a:=Value.none) (by first|rfl | (simp only[firstArgMember];rfl)) (HN ?_ (by size_fits)))
 simp only[raiseNew];refine Gg (wpAny_handled ?_);rw[show A.in1.handled=none from hh];refine Gg (Gq (wpAny_throw ?_));refine Gg (wpAny_isInstance (T:="StopIteration") (b:=true) ⟨_,Gw _ rfl,rfl⟩ isSubtype_stop ?_);exact Gq (q _ (((HQ ..).extBut.push _).push _))
end
theorem xm{A:Around}(hh:A.handled=none)(I d:Addr)(ne:d≠I)(es:Array DictEntry)(ep:Nat):
  Walks prog w A I [I,d] [I] es.size (λi v=>∃h:i<es.size,v=es[i].key) (λi h=>h.IsKeyIter I d i es.size ep/\hZ h d es ep) where
 sub:=λb hb=>by simp at hb;simp[hb]
 frame:=λ_ _ _ st hk=>⟨st.1.at λo e=>hk I (by simp) o e,st.2.keep λo e=>hk d (by simp) o e⟩
 item:=λi s Q E hi st hQ=>yI st.1 st.2 hi λh' a b=>hQ _ h' s.toks ⟨hi,rfl⟩ ⟨a,st.2.keep λo e=>b.extBut _ _ ne e⟩ λc o hc e=>b.extBut c o (λh=>hc (by simp[h])) e
 done:=λs Q E st hQ=>zl hh st.1 st.2 λh' he=>hQ h' s.toks λc o hc e=>he c o (λh=>hc (by simp[h])) e
 self:=λ_ _ _ _ st hQ=>wpAny_pyIter_keyiter st.1 hQ
theorem Bm(low:(d == sysModules)=false):PySem.W.KdlSrc prog w "dict" d d es.size (λi v=>∃h:i<es.size,v=es[i].key) (λh=>hZ h d es ep) where
 type:=λ_ x=>x.ty
 there:=λ_ x=>⟨x.lt,x.lt⟩
 keep:=λ_ _ x k=>x.keep λo e=>k d (.inl rfl) o e
 notList:=by decide
 notTuple:=by decide
 hint:=λ_ _ _ _ x q=>PySem.W.kdl_hint_dict x.ty q
 iter:=λ_ _ hh x=>⟨_,_,(λ_ _ q=>zt low x q),xm hh _ d (GG x.lt) es ep,⟨⟨_,Gw _ rfl,rfl,rfl⟩,x.keep λ_ e=>Gh _ e⟩⟩
theorem uM{es:List DictEntry}(h:KTD.Rows (uO K) es D):es.length=D.length:=by
 induction h with
 |nil=>rfl
 |cons _ _ _ ih=>simp[ih]
theorem vX{es:List DictEntry}(h:KTD.Rows (uO K) es D):Vals (D.map λp=>V.str p.1) (es.map λe=>e.key):=by
 induction h with
 |nil=>exact .nil
 |cons e _ _ ih=>exact .cons ⟨_,e⟩ ih
noncomputable def Az(K:LA)(D:List (Str×List Str)):List V->Hp->VK->Prop:=λxs H Q=>∃d,xs=[.ref d]/\jV K d D/\D.length<=sizeLine/\∀l,H l=none->Q (.ref l) (upd H l (.lst (D.map λp=>V.str p.1)))
theorem qa(K:LA)(hK:X.K=K)(hc:X.calm=true):b6 X (.type "list") (Az K D):=by
 intro pins s σ H xs us Q I r h;subst hK;obtain⟨d,rfl,hd,hz,q⟩:=h;obtain⟨u,rfl,rx⟩:=vals1 r;cases rx;obtain⟨o,es,ep,ho,hx,hdat,hr⟩:=hd.ex;have at0:hZ s.heap d es ep:=⟨o,I.gP _ _ ho,hx,hdat⟩;have hl:es.size=D.length:=by rw[<- uM hr,Hc]
 refine PySem.W.kdl_call (Bm hd.low) (I.ok.hd hc) at0 (by rw[hl];exact hz) λh' tk acc c' hk hS hI=>?_
 have hv:Vals (D.map λp=>V.str p.1) acc.toList:=by
  have e:acc.toList=es.toList.map λe=>e.key:=by
   refine Iw λj=>?_;rw[GY,G0,GY]
   cases z:acc[j]? with
   |none =>
    have:acc.size<=j:=Array.getElem?_eq_none_iff.mp z;rw[Le (by rw[<- hI.1];exact this)];rfl
   |some v =>
    obtain⟨hj,rfl⟩:=hI.2 j v z;rw[Kz hj];rfl
  rw[e];exact vX hr
 refine⟨.ref s.heap.objs.size,_,I.laid (t':=tk) hk (Gp _) (show bf X.prog X.w _ h' _ (.lst _) from⟨?_,acc.toList,c',hv,by simpa using hS⟩),rfl,q _ (I.aU.fresh (Gp _))⟩
 rw[Gu];exact hz
theorem Z.zip{es:List Expr}{tk:Nat}{tp:Pos}{e1 e2:Expr}{ta:TA}{p pos:Pos}(K:LA)(hK:X.K=K)(hg:Gl X "zip")(hm:X.mg "zip"=none)(ha:QA X [e1,e2] ta)(h1:autoParam (fo e1=true) ℜ0)(h2:autoParam (fo e2=true) ℜ0):QI X (.Tuple es tk tp) (.Call (.Name "zip" p) [e1,e2] [] pos) (n_ K ta):=by
 subst hK;exact⟨zg hg hm ha.h h1 h2⟩
theorem Ap.n_(K:LA)(ta:TA)(σ:St)(H:Hp)(R:It->Hp->Prop):L2.n_ K ta σ H R=ta σ H λvs H1=>∃a b k1 k2,vs=[V.ref a,V.ref b]/\(∃xs,oX K k1 H1 a xs)/\(∃ys,oX K k2 H1 b ys)/\R (zI K k1 k2 a b) H1:=rfl
section
variable {K:LA} {g:TG} {tb:TS} {D:Ends} {σ:St} {H:Hp} {te:TE} {Q:VK}
theorem oT{a:Addr}(hn:xs.length<=sizeLine)(Pv:Addr->Nat->List V->Hp->Prop)(h0:∀D,H D=none->Pv D 0 [] (upd H D (.lst [])))(hD:∀D i ys H',Pv D i ys H'->H' D=some (.lst ys)/\ys.length=i)
  (hl:∀D i ys H',Pv D i ys H'->bY K H' a xs)
  (hs:∀D i ys H' x (R:VK),xs[i]?=some x->Pv D i ys H'->(∀v H5,H5 D=some (.lst ys)->Pv D (i+1) (ys++[v]) (upd H5 D (.lst (ys++[v])))->R v H5)->te (some x::σ) H' R) (hd:∀D ys H',Pv D xs.length ys H'->Q (.ref D) H') :
  j_ (xc K a) 1 (bj 0) gi te Q σ H:=by
 intro D hD0;refine⟨λi m ys σ' H'=>m=xs.length-i/\i<=xs.length/\Pv D i ys H'/\∃o,σ'=o::σ,⟨xs.length,by simp,GH _,h0 D hD0,none,rfl⟩,?_⟩
 rintro i m ys σ' H' ⟨rfl,hi,p,o,rfl⟩;obtain⟨hDi,hly⟩:=hD _ _ _ _ p;have q:=hl _ _ _ _ p;refine⟨hDi,?_⟩;by_cases hlt:i<xs.length
 ·refine .inr ⟨⟨xs,xs[i],q,by simp[hlt]⟩,by lia,λx H2 y=>?_⟩
  obtain⟨rfl,y⟩:=y;unfold bj gi;dsimp only;rw[if_pos rfl];exact hs D i ys H2 x _ (y xs q) p λv H5 q1 q2=>⟨q1,xs.length-(i+1),by lia,rfl,hlt,q2,_,rfl⟩
 ·have e:i=xs.length:=by lia
  subst e;exact .inl ⟨⟨xs,q,Gp _⟩,hd D ys H' p⟩
end
noncomputable def but(B:sH)(a:Addr):sH:=λb=>B b/\b≠a
section
variable {prog:Program} {w:World} {A:Around} {E:Value->Shared->Prop} {s:Shared}
structure AM (prog:Program) (w:World) (s:Shared) (vs:List Value) (κ:SortKind) (kz:Nat->Int) (h:Heap):Prop where
 kind:∀(A:Around) (E:Value->Shared->Prop) (Q:SortKind->Shared->Prop),2<=vs.length->Q κ {s with heap:=h}->wpAny (model prog w) A (keyKind' vs.toArray) Q E {s with heap:=h}
 lt:∀(A:Around) (C:Bool->Shared->Prop) (i j:Nat),i<vs.length->j<vs.length->C (decide (kz i<kz j)) {s with heap:=h}->kas_ask prog w A κ vs i j C {s with heap:=h}
theorem wa{a:Addr}{vs:List Value}{n:Nat}{κ:SortKind}{kz:Nat->Int}{P:Fin->Shared->Prop}(ho:s.heap.get? a=some (seqObj "list" vs.toArray n))(h64:vs.length<64)
  (hq:∀h',(∀b o,b≠a->s.heap.get? b=some o->h'.get? b=some o)->AM prog w s vs κ kz h')
  (h:∀p:Array Nat,p.toList.Perm (List.range vs.length)->p.toList.Pairwise (SP.R kz)->P (.done (.ret .none)) {s with heap:=sortedHeap s.heap a vs (List.toArray (p.toList.map λi=>vs.getD i Value.none))}) :
  wpAny (model prog w) A (Builtin.«list.sort» ⟨[.ref a],[]⟩) P E s:=by
 rw[list_sort_plain];have ha:a<s.heap.objs.size:=Gz ho;refine Gg (JO ho rfl (Gg (J6 ho rfl ?_)));obtain⟨e1,ho1⟩:∃e1,(s.heap.update a (Obj.mapSeq λ_=>#[])).get? a=some (seqObj "list" #[] e1):=⟨_,Jk ho (λ_=>#[])⟩;refine Gg (seqEpoch_at ho1 rfl (Gg (Lh (Gg (Jg (Hg ?_))))));have up:∀b o,b≠a->s.heap.get? b=some o->(((s.heap.update a (Obj.mapSeq λ_=>#[])).push (seqObj "tuple" vs.toArray 0)).push (seqObj "list" #[] 0)).get? b=some o:=λb o hb e =>
  Gh _ (Gh _ ((Ju _ _ (HB hb)).trans e))
 have ho6:(((s.heap.update a (Obj.mapSeq λ_=>#[])).push (seqObj "tuple" vs.toArray 0)).push (seqObj "list" #[] 0)).get? a=some (seqObj "list" #[] e1):=Gh _ (Gh _ ho1);show wpAny (model prog w) A _ P E {s with heap:=((s.heap.update a (Obj.mapSeq λ_=>#[])).push (seqObj "tuple" vs.toArray 0)).push (seqObj "list" #[] 0)}
 dsimp only;have hs:=hq _ up;have hsz:vs.toArray.size=vs.length:=by simp
 by_cases h2:vs.toArray.size<2
 ·rw[if_pos h2,if_pos h2];refine wpAny_bind (wpAny_pure ?_);rw[StateT.run_pure];refine wpAny_bind (wpAny_pure ?_);dsimp only;refine wpAny_bind (seqEpoch_at ho6 rfl (wpAny_bind (listUpdate_at ho6 rfl ?_ (hsz2:=by rw[Array.size_map];show (pairsOf vs).size<=_;rw[pairsOf_size,sizeLine_eq];lia))))
  simp only[Kq,HH,Ih];refine Gq ?_;have hid:=h (List.toArray (List.range vs.length)) (List.Perm.refl _) (by
   rcases vs with _|⟨x,_|⟨y,r⟩⟩
   ·exact .nil
   ·simp
   ·exfalso;rw[hsz] at h2;simp only[GF] at h2;lia)
  have e:(arrOf (SortSt.mk' general' (vs.toArray.zip vs.toArray) #[] 7 none)).map (·.2)=List.toArray ((List.toArray (List.range vs.length)).toList.map λi=>vs.getD i Value.none):=by
   show (vs.toArray.zip vs.toArray).map (·.2)=_;apply K9.mp;rw[Array.toList_map,Array.toList_zip];show (vs.zip vs).map (·.2)=(List.range vs.length).map λi=>vs.getD i Value.none;rw[KG (Gp _)];refine Iw λi=>?_;rw[G0];rcases Hr i vs.length with c|c
   ·rw[IF c,Gi c];simp[c]
   ·rw[GX.mpr c,GX.mpr (by rw[He];exact c)];rfl
  rw[e];exact hid
 ·rw[Gj h2,Gj h2];have h2':2<=vs.length:=by rw[hsz] at h2;lia
  refine Gg (hs.kind _ _ _ h2' ?_);refine Gg (Hq (kat_run (ks:=vs) (vs:=vs) (Q:=λst' s'=>s'={s with heap:=((s.heap.update a (Obj.mapSeq λ_=>#[])).push (seqObj "tuple" vs.toArray 0)).push (seqObj "list" #[] 0)}/\∃p:Array Nat,arrOf st'=p.map (kas_item (vs.toArray.zip vs.toArray))/\failedOf st'=none/\p.toList.Perm (List.range vs.length)/\p.toList.Pairwise (SP.R kz))
   (G:=λp s'=>s'={s with heap:=((s.heap.update a (Obj.mapSeq λ_=>#[])).push (seqObj "tuple" vs.toArray 0)).push (seqObj "list" #[] 0)}/\p.toList.Perm (List.range vs.length)/\p.toList.Pairwise (SP.R kz))
   rfl h2' h64 (λp st' s' a1 a2 a3 a4=>⟨a4.1,p,a2,a3,a4.2⟩) ?_) ?_ λ_ _ e=>e)
  ·refine SP.rf (k:=kz) (I:=λs'=>s'={s with heap:=((s.heap.update a (Obj.mapSeq λ_=>#[])).push (seqObj "tuple" vs.toArray 0)).push (seqObj "list" #[] 0)}) (λi j C s' hi hj hI hC=>?_) (by lia) rfl λp s' hp hr hI=>⟨hI,hp,hr⟩
   subst hI;exact hs.lt _ _ i j hi hj (hC _ rfl)
  rintro⟨⟨⟩,st'⟩ s' ⟨rfl,p,har,hf,hp,hr⟩;dsimp only;have esn:=kat_snds (ks:=vs) (vs:=vs) rfl har;have hl:(p.toList.map λi=>vs.getD i Value.none).length=vs.length:=by rw[List.length_map,hp.length_eq,List.length_range]
  refine Gg (seqEpoch_at ho6 rfl ?_);refine Gg (J6 ho6 rfl ?_ (hsz2:=by show ((arrOf st').map (·.2)).size<=_;rw[esn,Gy,hl,HC];lia))
  rw[hf];simp only[Kq,HH,Ih];rw[esn];exact Gq (h p hp hr)
theorem p_{l:Addr}{vs:List Value}{κ:SortKind}{kz:Nat->Int}(hl:s.heap.IsList l vs.toArray)(h64:vs.length<64)(hq:∀h',(∀b o,s.heap.get? b=some o->h'.get? b=some o)->AM prog w s vs κ kz h')
  (h:∀p:Array Nat,p.toList.Perm (List.range vs.length)->p.toList.Pairwise (SP.R kz)->Q (.ref (s.heap.objs.size+1)) {s with heap:=sortedAll s.heap vs (List.toArray (p.toList.map λi=>vs.getD i Value.none))}) :
  wpAny (model prog w) A (call (.builtin "sorted") [.ref l]) Q E s:=by
 refine Kv kind_sorted plain_sorted entry_sorted (args_sorted1 _) ?_;unfold Builtin.«sorted»;refine Gg (m:=checkCount "sorted" 1 1 _) (Gq (Gg (collect_list hl (Gg (Jg ?_)))));have hsz:((s.heap.push (seqObj "list" #[] 0)).update s.heap.objs.size (Obj.mapSeq (·++vs.toArray))).objs.size=s.heap.objs.size+1:=by rw[K7,size_push']
 have hoL:(((s.heap.push (seqObj "list" #[] 0)).update s.heap.objs.size (Obj.mapSeq (·++vs.toArray))).push (seqObj "list" vs.toArray 0)).get? (s.heap.objs.size+1)=some (seqObj "list" vs.toArray 0):=by rw[<- hsz];exact Gw _ rfl
 have keep:∀b o,s.heap.get? b=some o->(((s.heap.push (seqObj "list" #[] 0)).update s.heap.objs.size (Obj.mapSeq (·++vs.toArray))).push (seqObj "list" vs.toArray 0)).get? b=some o:=λb o q=>by
  have hlt:b<s.heap.objs.size:=Gz q;rw[Heap.get?_push_ne _ _ _ (by rw[hsz];exact GG (IT hlt)),Heap.get?_update_ne _ _ _ _ (GG hlt),Heap.get?_push_ne _ _ _ (GG hlt)]
  exact q
 show wpAny _ _ _ _ _ {s with heap:=((s.heap.push (seqObj "list" #[] 0)).update s.heap.objs.size (Obj.mapSeq (·++vs.toArray))).push (seqObj "list" vs.toArray 0)}
 rw[hsz];refine Gg (Hg (Hz slot_list_sort ⟨_,hoL,rfl⟩ entry_list_sort (wa (kz:=kz) (κ:=κ) (s:={s with heap:=((s.heap.push (seqObj "list" #[] 0)).update s.heap.objs.size (Obj.mapSeq (·++vs.toArray))).push (seqObj "list" vs.toArray 0)}) hoL h64 (λh' hk=>?_) λp a1 a2=>⟨_,rfl,?_⟩) (args_list_sort _)))
 ·have:=hq h' λb o e=>hk b o (GG (IT (Gz e))) (keep b o e);exact⟨this.kind,this.lt⟩
 ·exact Gq ⟨_,rfl,h p a1 a2⟩
end
noncomputable def lexLt(x y:Int×Int):Bool:=decide (x.1<y.1\/(x.1=y.1/\x.2<y.2))
theorem kB{x:Int×Int}:lexLt x y=true ↔ (x.1<y.1\/(x.1=y.1/\x.2<y.2)):=decide_eq_true_iff
noncomputable def rank(l:List (Int×Int))(x:Int×Int):Nat:=l.countP λy=>lexLt y x
noncomputable def rk(l:List (Int×Int))(i:Nat):Int:=(rank l (l.getD i (0,0)):Nat)
theorem qf{l:List (Int×Int)}{p q:Int×Int->Bool}(h:∀z,p z=true->q z=true){x:Int×Int}:x∈l->p x=false->q x=true->l.countP p<l.countP q:=by
 induction l with
 |nil=>intro hx;cases hx
 |cons y l ih =>
  intro hx h1 h2;have hle:l.countP p<=l.countP q:=Ll λz _=>h z;rw[List.countP_cons,List.countP_cons];rcases Gs.mp hx with rfl|hx
  ·rw[Gj (by rw[h1];exact Gx),Gn h2];lia
  ·have:=ih hx h1 h2
   cases hp:p y with
   |true=>rw[Gn rfl,Gn (h y hp)];lia
   |false=>rw[Gj Gx];split<;>lia
theorem rq{l:List (Int×Int)}{x:Int×Int}(hx:x∈l)(hy:y∈l):decide (rank l x<rank l y)=lexLt x y:=by
 have irr:∀z,lexLt z z=false:=λz=>GJ (by lia)
 cases h:lexLt x y with
 |true =>
  refine GZ (qf (λz hz=>?_) hx (irr x) h);rw[kB] at h hz ⊢;lia
 |false =>
  refine GJ (Ky.mpr (Ll λz _ hz=>?_));have h':¬ (x.1<y.1\/(x.1=y.1/\x.2<y.2)):=of_decide_eq_false h;rw[kB] at hz ⊢;lia
noncomputable def wX(h:Heap)(v:Value)(pr:Int×Int):Prop:=∃(a:Addr) (o:Obj) (n:Nat) (t u:Tok),v=.ref a/\h.get? a=some o/\o.cls=.type "tuple"/\o.data=.seq #[.int pr.1 t,.int pr.2 u] n
theorem nF:∀{vs:List Value} {prs:List (Int×Int)},Paired (wX h) vs prs->∃fs,KatTups h vs fs/\fs.length=vs.length/\∀v∈fs,∃i t,v=Value.int i t
 |_,_,.nil=>⟨[],trivial,rfl,λ_ h=>by cases h⟩
 |_,_,.cons r t=>by
  obtain⟨a,o,n,t1,u,rfl,ho,hc,hd⟩:=r;obtain⟨fs,h1,h2,h3⟩:=nF t;refine⟨_::fs,⟨⟨a,o,_,n,rfl,ho,hc,hd,rfl⟩,h1⟩,by simp[h2],λv hv=>?_⟩
  rcases Gs.mp hv with rfl|hv
  ·exact⟨_,_,rfl⟩
  ·exact h3 v hv
theorem xt{vs:List Value}(hp:Paired (wX h) vs prs){i:Nat}(hi:i<vs.length):wX h (vs.getD i .none) (prs.getD i (0,0))/\prs.getD i (0,0)∈prs:=by
 induction hp generalizing i with
 |nil=>cases hi
 |cons r t ih =>
  cases i with
  |zero=>exact⟨r,GD ..⟩
  |succ i =>
   obtain⟨h1,h2⟩:=ih (i:=i) (by simpa using hi)
   exact⟨h1,GC _ h2⟩
theorem rY{s:Shared}{vs:List Value}(hp:Paired (wX h) vs prs):AM prog w s vs (tuples' true) (rk prs) h where
 kind:=λA E Q h2 q=>by
  obtain⟨fs,h1,h3,h4⟩:=nF hp;exact kat_kind (s:={s with heap:=h}) (T:=.type "int") h1 (by lia) (λv hv=>by obtain⟨i,t,rfl⟩:=h4 v hv;exact Looks.of_pure rfl) rfl q
 lt:=λA C i j hi hj q=>by
  obtain⟨⟨a,o,n,t,u,ea,ho,hc,hd⟩,mi⟩:=xt hp hi;obtain⟨⟨a',o',n',t',u',ea',ho',hc',hd'⟩,mj⟩:=xt hp hj;have e:=rq mi mj;have e':decide (rk prs i<rk prs j)=lexLt (prs.getD i (0,0)) (prs.getD j (0,0)):=by
   rw[<- e,Ij];unfold rk;lia
  rw[e'] at q;clear e e' mi mj;unfold kas_ask;rw[ea,ea'];generalize prs.getD i (0,0)=x at *;generalize prs.getD j (0,0)=y at *;refine kat_lt (s:={s with heap:=h}) ho hd ho' hd' ?_
  show KatLex prog w A true _ C [(.int x.1 t,.int y.1 t'),(.int x.2 u,.int y.2 u')] 0 _;refine kat_cons (K0 ?_)
  cases c1:(x.1 == y.1) with
  |false =>
   refine kat_no ?_;have h1:x.1≠y.1:=Hb.mp c1;have e1:lexLt x y=decide (x.1<y.1):=by unfold lexLt;rw[Ij];lia
   rw[e1] at q;exact oneLt_int q
  |true =>
   refine kat_yes (kat_cons (K0 ?_));have h1:x.1=y.1:=eq_of_beq c1;have e1:lexLt x y=decide (x.2<y.2):=by unfold lexLt;rw[Ij];lia
   rw[e1] at q
   cases c2:(x.2 == y.2) with
   |false =>
    refine kat_no ?_;show wpAny (model prog w) A (oneLt' false (.int x.2 u) (.int y.2 u')) C _ _;exact kat_one _ _ (lt_int q)
   |true =>
    have h2:x.2=y.2:=eq_of_beq c2;refine kat_yes (kat_nil ?_);rw[GJ (by lia)] at q
    exact q
noncomputable def EH(l:List (Int×Int)):Prop:=l.Pairwise λx y=>lexLt y x=false
theorem DQ{ix:List Nat}(hp:ix.Perm (List.range prs.length))(hr:ix.Pairwise (SP.R (rk prs))):(ix.map λi=>prs.getD i (0,0)).Perm prs/\EH (ix.map λi=>prs.getD i (0,0)):=by
 have e:(List.range prs.length).map (λi=>prs.getD i (0,0))=prs:=by
  refine Iw λi=>?_;rw[G0];rcases Hr i prs.length with c|c
  ·rw[IF c,Gi c];simp[c]
  ·rw[GX.mpr c,GX.mpr (by rw[He];exact c)];rfl
 refine⟨?_,Iy.mpr (hr.imp_of_mem λ{i j} hi hj h=>?_)⟩
 ·have:=hp.map λi=>prs.getD i (0,0);rw[e] at this;exact this
 ·have mem:∀i∈ix,prs.getD i (0,0)∈prs:=λi hi=>by
   have hl:=HK.mp (hp.mem_iff.mp hi);rw[Gv,Gi hl];exact GS hl
  rw[<- rq (mem j hj) (mem i hi)];have:=h.le;unfold rk at this;exact GJ (by lia)
namespace Y
noncomputable def Ds(H:Hp)(v:V)(p:Int×Int):Prop:=∃q,v=.ref q/\H q=some (.tup [.int p.1,.int p.2])
noncomputable def AV(K:LA):List V->Hp->VK->Prop:=λxs H Q=>∃p vs prs,xs=[.ref p]/\bY K H p vs/\Paired (Ds H) vs prs/\prs.length<64/\∀ix:List Nat,ix.Perm (List.range prs.length)->EH (ix.map λi=>prs.getD i (0,0))->∀l,H l=none->Q (.ref l) (upd H l (.lst (ix.map λi=>vs.getD i .aP)))
theorem vH{pins:List (Addr×Obj)}{σ:St}{s:Shared}(I:Inv X pins σ H s):∀{vs:List V} {its:List Value} {prs:List (Int×Int)},Vals vs its->Paired (Ds H) vs prs->Paired (wX s.heap) its prs
 |_,_,_,.nil,.nil=>.nil
 |_,_,_,.cons r t,.cons r' t'=>by
  refine .cons ?_ (vH I t t');obtain⟨q,rfl,hq⟩:=r';have e:_=Value.ref q:=r;subst e;obtain⟨_,ts,tv,o,e1,c,n,d,_⟩:=(show bf X.prog X.w H s.heap q (.tup _) from I.aU q _ hq);obtain⟨u,w',rfl,⟨t1,rfl⟩,⟨t2,rfl⟩⟩:=vals2 tv;exact⟨q,o,n,t1,t2,rfl,e1,c,d⟩
theorem qS{vs:List V}{its:List Value}(h:Vals vs its):∀ix:List Nat,(∀i∈ix,i<vs.length)->Vals (ix.map λi=>vs.getD i .aP) (ix.map λi=>its.getD i Value.none)
 |[],_=>.nil
 |i::ix,hi=>by
  refine .cons ?_ (qS h ix λj hj=>hi j (GC _ hj));have hl:=hi i (GD ..);obtain⟨u,e,r⟩:=Vals.get h (Gi hl);show RelV (vs.getD i .aP) (its.getD i Value.none);rw[Gv,Gv,Gi hl,e];exact r
theorem oO(K:LA)(hK:X.K=K):b6 X (.builtin "sorted") (AV K):=by
 subst hK;intro pins s σ H xs us Q I r h;obtain⟨p,vs,prs,rfl,hq,hp,h64,q⟩:=h;obtain⟨u,rfl,ru⟩:=vals1 r;cases ru;obtain⟨its,rv,pl,hz⟩:=I.list hq;have hpa:=vH I rv hp;have l1:its.length=prs.length:=Paired.length hpa;have l2:vs.length=prs.length:=Paired.length hp;refine p_ (κ:=tuples' true) (kz:=rk prs) pl.isList (by lia) (λh' hk=>rY (Paired.wN hpa λa b ⟨x,o,n,t,u,e,ho,r⟩=>⟨x,o,n,t,u,e,hk _ _ ho,r⟩)) λpx a1 a2=>?_
 rw[l1] at a1;obtain⟨e,he⟩:=sortedAll_at s.heap its (List.toArray (px.toList.map λi=>its.getD i Value.none));refine⟨.ref (s.heap.objs.size+1),_,I.laid (t':=s.toks) (λb ob q=>sortedAll_old q) (HD _) (show bf X.prog X.w _ _ _ (.lst (px.toList.map λi=>vs.getD i .aP)) from⟨?_,_,e,qS rv px.toList (λi hi=>by rw[l2];exact HK.mp (a1.mem_iff.mp hi)),by simpa using he⟩),rfl,q px.toList a1 (DQ a1 a2).2 _ (I.aU.fresh (HD _))⟩
 rw[Gu,a1.length_eq,He];exact Gr (Iz h64) (by decide)
end Y
open Builtin Builtin.Str
open PySem PySem.Spec PyProof PyProof.Rows
open Builtin Builtin.Str
open PySem PySem.Spec PyProof PyProof.Rows
open PySem PySem.Spec PyProof PyProof.Rows PySem.W
open PySem PySem.Calls PySem.NumText PySem.Spec PyProof PyProof.Rows
variable{cs:List Nat}{E Q:Value->Shared->Prop}{x:PySem.Str}{X:Cx}{H:Hp}{a:Addr}{xs:List V}{e:Expr}{p:Pos}{keys:List (Option Expr)}{values:List Expr}{trs:List (TE×TE)}{σ:St}
noncomputable def eB(cs:List Nat):Nat:=cs.foldl (λa c=>a*2+(c-48)) 0
noncomputable def dw(cs:List Nat):Prop:=∀c∈cs,c=48\/c=49
theorem DP{c:Nat}(h:c=48\/c=49)(ds:Array Nat)(b:Bool):step 2 (ds,b) c=some (ds.push (c-48),true):=by
 rcases h with rfl|rfl<;>rfl
theorem Au:∀(cs:List Nat) (ds:Array Nat) (b:Bool),dw cs->∃ds':Array Nat,cs.foldlM (step 2) (ds,b)=some (ds',b || !cs.isEmpty)/\ds'.foldl (λa d=>a*2+d) 0=cs.foldl (λa c=>a*2+(c-48)) (ds.foldl (λa d=>a*2+d) 0)
 |[],ds,b,_=>⟨ds,by simp,rfl⟩
 |c::cs,ds,b,h=>by
  obtain⟨ds',e1,e2⟩:=Au cs (ds.push (c-48)) true λx hx=>h x (GC _ hx);refine⟨ds',?_,?_⟩
  ·rw[List.foldlM_cons,DP (h c GD)];show cs.foldlM (step 2) (ds.push (c-48),true)=_;rw[e1];simp
  ·rw[e2,Array.foldl_push,KQ]
theorem sZ{c:Nat}(h:c=48\/c=49):blank c=false:=by rcases h with rfl|rfl<;>rfl
theorem nk(h:dw cs):cs.dropWhile blank=cs:=by
 cases cs with
 |nil=>rfl
 |cons c cs=>rw[Jh,sZ (h c GD)];rfl
theorem vU(h:dw cs):sign cs=(false,cs):=by
 cases cs with
 |nil=>rfl
 |cons c cs=>rcases h c GD with rfl|rfl<;>rfl
theorem tP(h:dw cs):based 2 cs=(2,false,cs):=by
 have e:PySem.NumText.prefix? cs=none:=by
  rcases cs with _|⟨c,_|⟨d,cs⟩⟩
  ·rfl
  ·rcases h c GD with rfl|rfl<;>rfl
  ·rcases h c GD with rfl|rfl
   ·rcases h d (GC _ GD) with rfl|rfl<;>rfl
   ·rfl
 unfold based;rw[e];rfl
theorem xA{cs:List Nat}(h:dw cs)(h0:cs≠[]):(int_private% "readNumeral") 0 2 cs=(int_private% "Numeral.value") (eB cs:Int):=by
 rw[readNumeral_eq,nk h,vU h];show judge 0 false (based 2 cs).1 (based 2 cs).2.1 (digits? (based 2 cs).1 (((based 2 cs).2.2.reverse.dropWhile blank).reverse))=_;rw[tP h];show judge 0 false 2 false (digits? 2 ((cs.reverse.dropWhile blank).reverse))=_;rw[nk (cs:=cs.reverse) (λc hc=>h c (Ik.mp hc)),Jb];obtain⟨ds,e1,e2⟩:=Au cs #[] false h;have e3:digits? 2 cs=some ds:=by
  unfold digits?;rw[e1]
  cases cs with
  |nil=>exact absurd rfl h0
  |cons=>rfl
 rw[e3];show (int_private% "Numeral.value") ((ds.foldl (λacc d=>acc*2+d) 0:Nat):Int)=_;rw[e2];rfl
theorem nR:∀{cs:List Nat},dw cs->cs.takeWhile (· != 0)=cs
 |[],_=>rfl
 |c::cs,h=>by
  rw[JY,show (c != 0)=true by rcases h c GD with rfl|rfl<;>rfl,Gn rfl,nR λx hx=>h x (GC _ hx)]
theorem vi{M:Model}{A:Around}{s:Shared}{v:Value}{text:List Nat}{n:Int}
  (hs:(text.takeWhile (· != 0)).length<=640) (hr:(int_private% "readNumeral") 0 2 (text.takeWhile (· != 0))=(int_private% "Numeral.value") n)
  (ha:((text.takeWhile (· != 0)).length == text.length)=true) (h:Q (.int n s.toks) {s with toks:=s.toks+1}) :
  wpAny M A ((int_private% "intFromText") v text 2) Q E s:=by
 obtain⟨hp,g,d,tk,os⟩:=s
 repeat (any_goals (first
  |assumption
  | (with_reducible refine Ke (GZ hs) ?_)
  | (with_reducible refine Ke (GZ ha) ?_)
  |wp_step))
 all_goals (try rw[hr])
 all_goals (try dsimp only)
 repeat (any_goals (first
  |assumption
  | (with_reducible refine Ke (GZ hs) ?_)
  | (with_reducible refine Ke (GZ ha) ?_)
  |wp_step))
theorem mU{u t:Tok}(hl:x.length<=640)(hb:dw x.cps.toList)(h0:x.cps.toList≠[]):Gives (Builtin.«int.__new__» ⟨[.type "int",.str x u,.int 2 t],[]⟩) (.int (eB x.cps.toList)):=
 .of_wp λM A E s Q h=>by
  obtain⟨hp,g,d,tk,os⟩:=s;have f1:=F.conv_sub_int;have f2:=F.madeHere_int;have f6:typeOf (.str x u)=pure (.type "str"):=rfl;have ht:x.cps.all (· < 128)=true:=by
   rw[<- Array.all_toList,K4];intro c hc;rcases hb c hc with rfl|rfl<;>rfl
  have hs:=nR hb;have hk:=PySem.W.KIN.Hid.mk (And.intro (show (x.cps.toList.takeWhile (· != 0)).length<=640 by rw[hs];exact hl) (And.intro (show (int_private% "readNumeral") 0 2 (x.cps.toList.takeWhile (· != 0))=(int_private% "Numeral.value") (eB x.cps.toList:Int) by rw[hs];exact xA hb h0) (show ((x.cps.toList.takeWhile (· != 0)).length == x.cps.toList.length)=true by rw[hs];simp)))
  clear hs hl hb h0
  repeat (any_goals (first
   |assumption
   | ((with_reducible show wpAny _ _ ((int_private% "intFromText") _ _ _) _ _ _);(try rw[Gn ht]);refine vi hk.out.1 hk.out.2.1 hk.out.2.2 ?_)
   |wp_step))
  all_goals first|exact⟨_,rfl,h⟩|skip
theorem iQ(a b:Value):checkTypeCall "int" ⟨[a,b],[]⟩=pure ():=by kernel_rfl
theorem jZ(a b:Value):checkBuiltinCall "int.__new__" ⟨[.type "int",a,b],[]⟩=pure ():=by kernel_rfl
theorem oJ{prog:Program}{w:World}{A:Around}{s:Shared}{u t:Tok}(hl:x.length<=640)(hb:dw x.cps.toList)(h0:x.cps.toList≠[])(h:Q (.int (eB x.cps.toList) s.toks) {s with toks:=s.toks+1}):wpAny (model prog w) A (call (.type "int") [.str x u,.int 2 t]) Q E s:=
 Lu F.called_int F.newNe_int (iQ _ _) (jZ _ _) (λobj=>F.args_object_init_3 obj _ _) F.entry_int_new (mU hl hb h0).meets (show (Made.int _).post _ s from⟨rfl,h⟩)
noncomputable def As:List V->Hp->VK->Prop:=λxs H Q=>∃z:Str,xs=[.str z,.int 2]/\z.length<=640/\dw z.cps.toList/\z.cps.toList≠[]/\Q (.int (eB z.cps.toList)) H
theorem kD:b6 X (.type "int") As:=by
 intro pins s σ H xs us Q I r h;obtain⟨z,rfl,h1,h2,h3,q⟩:=h;obtain⟨u,v,rfl,⟨t,rfl⟩,⟨t',rfl⟩⟩:=vals2 r;exact oJ h1 h2 h3 ⟨.int _,H,I.tok _,⟨_,rfl⟩,q⟩
abbrev Src:=Bool×Addr×Addr
namespace Z
theorem FW{st:Stmt}:QS X st (λ_ _ _=>False):=⟨λ_ _ _ _ _ _ h=>h.elim⟩
end Z
namespace Y
noncomputable def Fe(K:LA):R2:=λx y H Q=>∃a b xs,x=.ref a/\y=.ref b/\bY K H a xs/\bY K H b []/\Q (.bl (!xs.isEmpty)) H
theorem Bp(K:LA)(hK:X.K=K)(hu:X.A.units<cLine):dy X (compareOp .NotEq) (Fe K):=by
 subst hK;intro pins s σ H x y v u Q I rx ry h;obtain⟨a,b,xs,rfl,rfl,ha,hb,q⟩:=h
 cases rx;cases ry
 obtain⟨its,r1,p1,_⟩:=I.list ha;obtain⟨its2,r2,p2,_⟩:=I.list hb;obtain rfl:=Paired.zw r2
 cases r1 with
 |nil=>exact SeqAt.RcNeAt.lists (e:=λ_=>true) p1.isList p2.isList rfl hu (λj h1=>absurd h1 (JR _)) X.prog X.w X.xe _ ⟨.bl false,H,I,rfl,q⟩
 |cons h r=>exact SeqAt.RcNeAt.lists_lengths p1.isList p2.isList (by simp) hu X.prog X.w X.xe _ ⟨.bl true,H,I,rfl,q⟩
end Y
namespace Z
theorem Gb{o:Expr}{to:TE}{pos:Pos}(K:LA)(hK:X.K=K){name:Str}{apos:Pos}{T id:String}{r:V->List V->Hp->VK->Prop}(pa:PlainAttrs T)(slot:Slot T name id)(hty:typeOf (.builtin id)=pure (.type "method_descriptor"))(hm:vj X id r)(ho:QE X o to)
  (hbase:autoParam (attributeBase o name X.env (eval o X.env)=eval o X.env) ℜ0) (hline:autoParam ((apos.endLine == pos.line)=true) ℜ0):QE X (.Call (.Attribute o name apos) [] [] pos) (uu K T r to):=by
 subst hK;exact⟨Bl pa slot hty hm ho.h hbase hline⟩
theorem nq(K:LA)(hK:X.K=K):r_ X (BE K):=by subst hK;exact qe
end Z
theorem EL{K:LA}{H':Hp}(h:bz K H a xs)(k:KB [] H H'):bz K H' a xs:=bz.same (λb o z=>k b o z (by simp)) h
structure QP (X:Cx) (pos:Pos) (keys:List (Option Expr)) (values:List Expr) (trs:List (TE×TE)):Prop where
 h:DD X pos keys values trs
namespace Z
theorem FI{te:TE}{x:Str}{pos:Pos}{d:Addr}{D:List (Str×List Str)}(K:LA)(hK:X.K=K)(hg:Gl X x)(hm:X.mg x=some (.ref d))(hd:jV K d D)(he:QE X e te)(hs:vL e:=by exactλ_ _=>rfl)(hdb:autoParam ((x ==("__debug__":Str))=false) ℜ1):QE X (.Subscript (.Name x p) e pos) (x9 K D te):=by
 subst hK;exact⟨Bn (qP hg hm rfl hdb) hd he.h hs⟩
theorem FN{tg l:Expr}{tl:TE}(hl:QE X l tl):QI X tg l (xr tl):=⟨BL hl.h⟩
theorem Dx{es:List Expr}{ta:TA}{pos:Pos}(K:LA)(hK:X.K=K){k:Nat}{tp:Pos}(hg:Gl X "enumerate")(hm:X.mg "enumerate"=none)(ha:QA X [e] ta)(h1:autoParam (fo e=true) ℜ0):QI X (.Tuple es k tp) (.Call (.Name "enumerate" p) [e] [] pos) (jF K ta):=by
 subst hK;exact⟨wA hg hm ha.h h1⟩
theorem Dp{t:TA}{pos kpos lpos p1 p2 p3:Pos}{x y z:Str}{c Pt d:Addr}{j:Nat}{params:Arguments}{scope:Scope}{k:Nat}(K:LA)(hK:X.K=K)(hx:z∈dH)(ht:PySem.W.tabIn K z=some (c,Pt))(hcode:X.env.code=.ref c)(hq:X.env.qual=z++".<locals>.")(hdef:defaultsOf params X.env=([],[]))(hcl:closureFor scope X.env=pure [(y,d)])
  (hg:Gl X "sorted") (hm:X.mg "sorted"=none) (ha:QA X [e] t) (hr:bD (k+3) X.A)
  (hsc:scope={kind:=.function,names:=[(x,.local),(y,.free)],isGenerator:=false,isCoroutine:=false,more:=[]}) (hxy:y≠x) (hx1:(x ==("__debug__":Str))=false) (hx2:(x ==("__classdict__":Str))=false) (hy1:(y ==("__debug__":Str))=false) (hy2:(y ==("__classdict__":Str))=false)
  (hj:X.N[j]?=some y) (hyc:X.env.scope.names.lookup y=some .cell) (hyl:X.env.cells.lookup y=some d)
  (hbind:∀c' pm ctv u,bindArgs (PySem.W.kla_fn "<lambda>" ((z++".<locals>.")++"<lambda>") params (.Subscript (.Name y p1) (.Name x p2) p3) scope [(y,d)] pm (.ref c') ctv) ⟨[u],[]⟩=pure [(x,u)]) (h1:autoParam (fo e=true) ℜ0) :
  QE X (.Call (.Name "sorted" p) [e] [⟨some "key",.Lambda params (.Subscript (.Name y p1) (.Name x p2) p3) scope lpos,kpos⟩] pos) (jI K j t):=by
 subst hK;exact⟨wc hg hm ha.h h1 hr (AD hx ht hcode hq hdef hcl) hsc hxy hx1 hx2 hy1 hy2 hj hyc hyl hbind⟩
theorem Dk(K:LA)(hK:X.K=K):dy X (compareOp .In) (ER K false):=by subst hK;exact kM
theorem Cn(K:LA)(hK:X.K=K):b6 X (.type "list") (λxs H Q=>∃p ys,xs=[.ref p]/\(bY K H p ys\/bz K H p ys)/\∀l,H l=none->Q (.ref l) (upd H l (.lst ys))):=by subst hK;exact kW
theorem Dl{pos:Pos}:QE X (.Dict [] [] pos) j0:=⟨u9⟩
theorem Fh{pos:Pos}:QP X pos [] [] []:=⟨zE⟩
theorem wZ{pos p1:Pos}{j1:Nat}{k:Str}{v:Expr}{tv:TE}(hv:QE X v tv)(h:QP X pos keys values trs):QP X pos (some (.Constant (.str k) j1 p1)::keys) (v::values) ((tC (.str k),tv)::trs):=⟨vd qc hv.h h.h⟩
theorem Fb{pos:Pos}(h:QP X pos keys values trs)(hall:autoParam (keys.all (·.isSome)=true) ℜ0)(hl:autoParam (keys.length=values.length) ℜ0)(h0:keys≠[]:=by simp)(h15:autoParam (keys.length<=15) ℜ1):QE X (.Dict keys values pos) (ow trs):=⟨yQ h.h hall hl h0 h15⟩
end Z
namespace Ap
theorem x9(K:LA)(D:List (Str×List Str))(te:TE)(σ:St)(H:Hp)(Q:VK):L2.x9 K D te σ H Q=te σ H λy H1=>∃k ws,y=.str k/\KTD.datumAt k D=some ws/\∀p,EF K p (ws.map V.str)->Q (.ref p) H1:=rfl
theorem xr(tl:TE)(σ:St)(H:Hp)(R:It->Hp->Prop):L2.xr tl σ H R=tl σ H λx H1=>∃z,x=V.str z/\R (Eo z) H1:=rfl
theorem jF(K:LA)(ta:TA)(σ:St)(H:Hp)(R:It->Hp->Prop):L2.jF K ta σ H R=ta σ H λvs H1=>∃a,vs=[.ref a]/\(∃xs,bY K H1 a xs)/\R (y3 K a) H1:=rfl
theorem jI(K:LA)(j:Nat)(t:TA)(σ:St)(H:Hp)(Q:VK):L2.jI K j t σ H Q=t σ H λvs H1=>∃l xs kz,vs=[.ref l]/\(∃n:Nat,H1 l=some (.m_ 0 n)/\xs=jk n)/\kz.length=xs.length/\xs.length<64 /\
 (∀(i:Nat) (v:V) (k:Int),xs[i]?=some v->kz[i]?=some k->∀H',dP H1 H'->∃i q ls,v=.int i/\FT j σ=[some (.ref q)]/\bz K H' q ls/\bV ls i=some (.int k))/\∀H2 D,dP H1 H2->H2 D=none->Q (.ref D) (upd H2 D (.lst (iH kz xs))):=rfl
theorem ow(trs:List (TE×TE))(σ:St)(H:Hp)(Q:VK):L2.ow trs σ H Q=∀p,H p=none->gn trs σ (upd H p (.dK [])) λps H2=>H2 p=some (.dK [])/\∃kvs:List (Key×V),ps=kvs.map (λkv=>(kV kv.1,kv.2))/\kvs.length<=15/\Q (.ref p) (upd H2 p (.dK (cz [] kvs))):=rfl
theorem yG(σ:St)(H:Hp)(Q:List (V×V)->Hp->Prop):gn [] σ H Q=Q [] H:=rfl
theorem yP(tk tv:TE)(r:List (TE×TE))(σ:St)(H:Hp)(Q:List (V×V)->Hp->Prop):gn ((tk,tv)::r) σ H Q=tk σ H λx H1=>tv σ H1 λy H2=>gn r σ H2 λps H3=>Q ((x,y)::ps) H3:=rfl
theorem j0(σ:St)(H:Hp)(Q:VK):L2.j0 σ H Q=∀p,H p=none->Q (.ref p) (upd H p (.dK [])):=rfl
end Ap
section
variable {K:LA} {g:TG} {tb:TS} {D:Ends} {σ:St} {H:Hp}
theorem nY{z:Str}(Pv:Nat->St->Hp->Prop)(h0:Pv 0 σ H)
  (hs:∀i c σ H,z.cps[i]?=some c->Pv i σ H->g (.str ⟨#[c]⟩) σ H λσ2 H2=>tb {D with nx:=Pv (i+1),ct:=Pv (i+1),bk:=D.nx} σ2 H2) (hd:∀σ H,Pv z.cps.size σ H->D.nx σ H):qk (Eo z) g tb D σ H:=by
 refine⟨λi m σ H=>m=z.cps.size-i/\i<=z.cps.size/\Pv i σ H,⟨z.cps.size,by simp,GH _,h0⟩,?_⟩
 rintro i m σ H ⟨rfl,hi,p⟩;by_cases c:i<z.cps.size
 ·refine .inr ⟨c,λσ' H'=>Pv (i+1) σ' H',λσ' H' h=>⟨_,by lia,rfl,c,h⟩,?_⟩
  rintro x H' ⟨rfl,y,e,rfl⟩;exact hs i y σ _ e p
 ·have e:i=z.cps.size:=by lia
  subst e;exact .inl ⟨Gp _,hd _ _ p⟩
theorem pS(Pv:Nat->St->Hp->Prop)(h0:Pv 0 σ H)(hl:∀i σ H,i<=xs.length->Pv i σ H->bY K H a xs)
  (hs:∀i x σ H p,xs[i]?=some x->Pv i σ H->H p=none->g (.ref p) σ (upd H p (.tup [.int i,x])) λσ2 H2=>tb {D with nx:=Pv (i+1),ct:=Pv (i+1),bk:=D.nx} σ2 H2) (hd:∀σ H,Pv xs.length σ H->D.nx σ H) :
  qk (y3 K a) g tb D σ H:=by
 refine⟨λi m σ H=>m=xs.length-i/\i<=xs.length/\Pv i σ H,⟨xs.length,by simp,GH _,h0⟩,?_⟩
 rintro i m σ H ⟨rfl,hi,p⟩;have hq:=hl i σ H hi p;by_cases c:i<xs.length
 ·refine .inr ⟨⟨xs[i],xs,hq,Gi c⟩,λσ' H'=>Pv (i+1) σ' H',λσ' H' h=>⟨_,by lia,rfl,c,h⟩,?_⟩
  rintro x H' ⟨q,y,e,fr,rfl,rfl⟩;have e1:=e xs hq;exact hs i y σ H q e1 p fr
 ·have e:i=xs.length:=by lia
  subst e;exact .inl ⟨⟨xs,hq,rfl⟩,hd _ _ p⟩
end
section
variable {K:LA} {σ:St} {H:Hp} {tc:TT} {te:TE} {Q:VK}
theorem Eb{x y:V}{c:Addr}{o1 o2:Option V}{R:St->Hp->Prop}(h:R (some x::some y::σ) (upd H c (.tup [x,y]))):mI K 2 (fw (bj 0) (fw (bj 1) mG)) (.ref c) (o1::o2::σ) (upd H c (.tup [x,y])) R:=⟨c,[x,y],rfl,bz.of aa,rfl,x,[y],rfl,y,[],rfl,rfl,h⟩
theorem mS(hn:xs.length<=sizeLine)(Pv:Addr->Nat->List V->Hp->Prop)(h0:∀D,H D=none->Pv D 0 [] (upd H D (.lst [])))(hD:∀D i ys H',Pv D i ys H'->H' D=some (.lst ys)/\ys.length=i)
  (hl:∀D i ys H',Pv D i ys H'->bz K H' a xs)
  (hs:∀D i ys H' x p (R:VK),xs[i]?=some x->Pv D i ys H'->H' p=none->(∀v H5,H5 D=some (.lst ys)->Pv D (i+1) (ys++[v]) (upd H5 D (.lst (ys++[v])))->R v H5)->te (some (.int i)::some x::σ) (upd H' p (.tup [.int i,x])) R) (hd:∀D ys H',Pv D xs.length ys H'->Q (.ref D) H') :
  j_ (ur K a) 2 (mI K 2 (fw (bj 0) (fw (bj 1) mG))) gi te Q σ H:=by
 intro D hD0;refine⟨λi m ys σ' H'=>m=xs.length-i/\i<=xs.length/\Pv D i ys H'/\∃o1 o2,σ'=o1::o2::σ,⟨xs.length,by simp,GH _,h0 D hD0,none,none,rfl⟩,?_⟩
 rintro i m ys σ' H' ⟨rfl,hi,p,o1,o2,rfl⟩;obtain⟨hDi,hly⟩:=hD _ _ _ _ p;have q:=hl _ _ _ _ p;refine⟨hDi,?_⟩;by_cases hlt:i<xs.length
 ·refine .inr ⟨⟨xs[i],xs,q,by simp[hlt]⟩,by lia,λx H2 y=>?_⟩
  obtain⟨c,y,hy,fr,rfl,rfl⟩:=y;refine Eb ?_;unfold gi;dsimp only;rw[if_pos rfl];exact hs D i ys H' y c _ (hy xs q) p fr λv H5 q1 q2=>⟨q1,xs.length-(i+1),by lia,rfl,hlt,q2,_,_,rfl⟩
 ·have e:i=xs.length:=by lia
  subst e;exact .inl ⟨⟨xs,q,rfl⟩,hd D ys H' p⟩
theorem pF{b:Addr}{ys:List V}(hxy:xs.length=ys.length)(ha:bz K H a xs)(hb:bz K H b ys)
  (hs:∀(i:Nat) x y H' (R:Bool->Hp->Prop),xs[i]?=some x->ys[i]?=some y->KB [] H H'->(∀H4,KB [] H' H4->R false H4)->tc (some x::some y::σ) H' R) (hd:∀D H',KB [] H H'->H' D=some (.lst [])->Q (.ref D) H') :
  j_ (zI K false false a b) 2 (mI K 2 (fw (bj 0) (fw (bj 1) mG))) tc te Q σ H:=by
 intro D hD0;refine⟨λi m zs σ' H'=>m=xs.length-i/\i<=xs.length/\zs=[]/\H' D=some (.lst [])/\KB [] H H'/\∃o1 o2,σ'=o1::o2::σ,⟨xs.length,by simp,GH _,rfl,aa,KB.new hD0,none,none,rfl⟩,?_⟩
 rintro i m zs σ' H' ⟨rfl,hi,rfl,g1,g2,o1,o2,rfl⟩;have q1:oX K false H' a xs:=EL ha g2;have q2:oX K false H' b ys:=EL hb g2;refine⟨g1,?_⟩;by_cases hlt:i<xs.length
 ·have hl2:i<ys.length:=by lia
  refine .inr ⟨⟨xs,ys,xs[i],ys[i],q1,q2,by simp[hlt],by simp[hl2]⟩,by decide,λx H2 z=>?_⟩
  obtain⟨c,y1,y2,e1,e2,fr,rfl,rfl⟩:=z;refine Eb ?_;have k3:KB [] H' (upd H' c (.tup [y1,y2])):=KB.new fr;refine hs i y1 y2 _ _ (e1 xs q1) (e2 ys q2) (g2.trans k3) λH4 k4=>?_;rw[Gj Gx];exact⟨xs.length-(i+1),by lia,rfl,hlt,rfl,k4 _ _ (k3 _ _ g1 (by simp)) (by simp),g2.trans (k3.trans k4),_,_,rfl⟩
 ·have e:i=xs.length:=by lia
  subst e;exact .inl ⟨⟨xs,ys,q1,q2,by lia⟩,hd D H' g2 g1⟩
end
theorem jN{t:TS}{D:Ends}(h:∀N,N=D.nx->t {D with nx:=N} σ H):t D σ H:=h _ rfl
theorem my{c:TT}{t u:TS}{D:Ends}(h:∀A B,A=t D->B=u D->c σ H λb H1=>if b=true then A σ H1 else B σ H1):lL c t u D σ H:=h _ _ rfl rfl
theorem HasFn.Fg{P:Program}{w:World}{K:LA}{mg:Str->Option Value}{base:Heap}{x:Str}{st:Stmt}{N ps:List Str}{k:Nat}{sp:Sp}(F:HasFn K mg x st ps)(S:ax N ps (af st))(len:∀vs H Q E,sp vs H Q E->vs.length=ps.length)
  (hbody:∀(f:Addr) (cdv:Value) (A:Around) (outer:List Env) (s:Shared) (H:Hp) (vs:List V) (Q:VK) (E:XK),bD k (A.deeper (envOfC x (af st) s.heap.objs.size f cdv))->mg x=some (.ref f)->yi K f cdv->sp vs H Q E ->
   ∃t,QB (fu bc P w K mg base N x (af st) f cdv A outer s H E).oF (aR st) t/\t {nx:=λ_ H'=>Q .aP H',rt:=Q} (start N vs) H):aq P w K mg base bc (k+1) x ps sp:=by
 obtain⟨f,fd,F1,b,m⟩:=F.ex;have F2:=F1;obtain⟨oc,od,kV,doc,pm,an,cdv,ct,osl,rfl,lk,g9⟩:=F2.ex;refine⟨f,_,m,F1.kp,b,Af lk g9 S len λA outer s H vs Q E hr hsp=>?_⟩;obtain⟨t,h,q⟩:=hbody f cdv A outer s H vs Q E hr m ⟨_,_,lk,rfl,rfl⟩ hsp;exact⟨t,h.h.oF,q⟩
end L2
namespace G
local macro_rules|`(tactic|and_intros)=>`(tactic|exact ⟨rfl,rfl,rfl,by decide +kernel,rfl,by decide +kernel,by decide +kernel⟩)
open PySem L2 PySem.Spec PyProof.Rows
variable{L i p t:Nat}{a b done r z:List Nat}{ls xs:List Int}{ex:List Addr}{H H':Hp}{ln:Nat->Nat}{ws:List (List Nat)}{α:Type}{h:Heap}{o:Option (Nat×Nat)}{C dq f lc_code_of lp_code_of:Addr}{fd:FuncData}{K:LA}{mg:Str->Option Value}{lO_code_of:Value}{lD_code_of:Option Addr}{lv_code_of:Array Value}{lS_code_of:Array (Option Value)}{q:Program}
noncomputable def top(i:Nat):Stmt:=PySem.Challenge.pw_shortrows_k35_bits_at_the_edge.main.body.getD i (.Pass ⟨0,0,0,0⟩)
abbrev fM:Stmt:=top 4
theorem oK:ax ["row"] ["row"] (af fM):=by and_intros
abbrev aL:Stmt:=inClass (top 6) 0
theorem fY:ax ["self","given"] ["self","given"] (af aL):=by and_intros
abbrev aK:Stmt:=inClass (top 6) 1
theorem cR:ax ["self","row","behind","end","goes"] ["self","row","behind","end"] (af aK):=by and_intros
abbrev aM:Stmt:=inClass (top 6) 2
theorem di:ax ["self","row","word"] ["self","row"] (af aM):=by and_intros
abbrev aJ:Stmt:=inClass (top 6) 3
theorem bA:ax ["self","row","word","old","other"] ["self","row"] (af aJ):=by and_intros
abbrev aG:Stmt:=inClass (top 6) 4
theorem eN:ax ["self"] ["self"] (af aG):=by and_intros
abbrev aF:Stmt:=inClass (top 6) 5
theorem eC:ax ["self"] ["self"] (af aF):=by and_intros
abbrev az:Stmt:=inClass (top 6) 6
theorem fi:ax ["self"] ["self"] (af az):=by and_intros
abbrev gC:Stmt:=top 11
theorem cu:ax ["lengths","free","depth","left","length"] ["lengths"] (af gC):=by and_intros
abbrev cK:Stmt:=top 13
theorem dO:ax ["lengths","words","ahead","thing"] ["lengths"] (af cK):=by and_intros
abbrev cX:Stmt:=top 14
theorem jM:ax ["ahead","length"] ["ahead","length"] (af cX):=by and_intros
abbrev eV:Stmt:=top 15
theorem fz:ax ["code","bits","place","thing","word"] ["code","bits","place"] (af eV):=by and_intros
abbrev dD:Stmt:=top 23
theorem nO:ax ["book"] ["book"] (af dD):=by and_intros
abbrev gU:Stmt:=top 25
theorem cI:ax ["codes","bits","place","found","word","row","behind","kind","part"] ["codes","bits","place"] (af gU):=by and_intros
abbrev eX:Stmt:=top 26
theorem iw:ax ["code","bits","place","thing"] ["code","bits","place"] (af eX):=by and_intros
abbrev fS:Stmt:=top 27
theorem iY:ax ["kind","codes","bits","place","found"] ["kind","codes","bits","place"] (af fS):=by and_intros
abbrev dY:Stmt:=top 28
theorem eS:ax ["code","bits","place","found","behind"] ["code","bits","place"] (af dY):=by and_intros
abbrev fK:Stmt:=top 29
theorem cT:ax ["bits","place","found","width","behind","distance"] ["bits","place"] (af fK):=by and_intros
abbrev eW:Stmt:=top 31
theorem aY:ax ["bits","book","given","most","codes","machine","read","done","place","found","how"] ["bits","book","given","most"] (af eW):=by and_intros
abbrev dj:Stmt:=top 33
theorem lh:ax ["script"] ["script"] (af dj):=by and_intros
abbrev eO:Stmt:=top 34
theorem fD:ax ["number","turn","one"] ["number","turn"] (af eO):=by and_intros
abbrev dU:Stmt:=top 35
theorem gW:ax ["deck","most","number"] ["deck","most"] (af dU):=by and_intros
abbrev d8:Stmt:=top 36
theorem jU:ax [] [] (af d8):=by and_intros
abbrev dW:Stmt:=top 37
theorem cL:ax ["number","many","text","k"] ["number","many"] (af dW):=by and_intros
abbrev du:Stmt:=top 38
theorem bo:ax ["lengths","found","number","size","length","thing","k"] ["lengths"] (af du):=by and_intros
abbrev cN:Stmt:=top 39
theorem bW:ax ["deck","many","depths","k","deep","at"] ["deck","many"] (af cN):=by and_intros
abbrev dn:Stmt:=top 40
theorem lK:ax ["deck"] ["deck"] (af dn):=by and_intros
abbrev de:Stmt:=top 41
theorem dE:ax ["deck","size","top"] ["deck"] (af de):=by and_intros
abbrev d7:Stmt:=top 45
theorem bX:ax ["row","codes","text","part","size"] ["row","codes"] (af d7):=by and_intros
abbrev dc:Stmt:=top 49
theorem bO:ax ["book","found","lengths","table","thing","word"] ["book"] (af dc):=by and_intros
abbrev cA:Stmt:=top 50
theorem cU:ax ["table","bits","at","size","word"] ["table","bits","at"] (af cA):=by and_intros
abbrev d6:Stmt:=top 51
theorem df:ax ["text","number","sign"] ["text"] (af d6):=by and_intros
abbrev cY:Stmt:=top 52
theorem bQ:ax ["bits","at","k","mark","text","number"] ["bits","at"] (af cY):=by and_intros
abbrev cq:Stmt:=top 53
theorem cO:ax ["table","bits","at","found","text"] ["table","bits","at"] (af cq):=by and_intros
abbrev cW:Stmt:=top 54
theorem bq:ax ["tables","bits","at","found","row","kind","behind"] ["tables","bits","at"] (af cW):=by and_intros
abbrev cJ:Stmt:=top 55
theorem gJ:ax ["found","due"] ["found","due"] (af cJ):=by and_intros
abbrev dR:Stmt:=top 56
theorem cw:ax ["state","row","boxes","given","told","box","other"] ["state","row"] (af dR):=by and_intros
abbrev ff:Stmt:=top 57
theorem aO:ax ["bits","book","given","most","tables","state","at","count","carried","how","found","row","behind"] ["bits","book","given","most"] (af ff):=by and_intros
abbrev cm:Stmt:=top 58
theorem bG:ax ["deck","box","other","number","some"] ["deck"] (af cm):=by and_intros
abbrev bP:Stmt:=top 59
theorem au:ax ["deck","book","codes","begins","bits","k","row","last","begin","width","turn","behind","whole","goal","far"] ["deck","book"] (af bP):=by and_intros
abbrev f7:Stmt:=top 60
theorem eQ:ax ["script","deck","turn","book","bits","given","carried","some","most"] ["script"] (af f7):=by and_intros
structure Txt (K:LA) (mg:Str->Option Value):Prop where
 CY:mg "abs"=none
 BU:mg "bool"=none
 AH:mg "dict"=none
 fG:mg "enumerate"=none
 qK:mg "int"=none
 bT:mg "isinstance"=none
 b8:mg "len"=none
 u7:mg "list"=none
 En:mg "max"=none
 El:mg "min"=none
 cZ:mg "range"=none
 jm:mg "sorted"=none
 u0:mg "str"=none
 Dc:mg "sum"=none
 cB:mg "tuple"=none
 Dm:mg "zip"=none
 lI:∃a,mg "BOXES"=some (.ref a)/\∀H,bz K H a [.str "a",.str "b",.str "c",.str "d",.str "e",.str "f",.str "g",.str "h"]
 xq:∃a,mg "HALVES"=some (.ref a)/\∀H,bz K H a [.int 8,.int 128,.int 32768]
 zM:∃a,mg "HEADS"=some (.ref a)/\∀H,bz K H a [.str "0",.str "10",.str "11"]
 p7:∃u,mg "OF_BOXES"=some u/\RelV (.int 2) u
 lp:∃u,mg "OF_CLASSES"=some u/\RelV (.int 1) u
 pX:∃u,mg "OF_WORDS"=some u/\RelV (.int 0) u
 xH:∃u,mg "WHOLE"=some u/\RelV (.int 65536) u
 vW:∃a,mg "WIDTHS"=some (.ref a)/\∀H,bz K H a [.int 4,.int 8,.int 16]
 mO:∃d,mg "SHAPES"=some (.ref d)/\jV K d [("put",["box","number"]),("add",["box","box"]),("sub",["box","box"]),("copy",["box","box"]),("tell",["box"]),("hear",["box"]),("jump",["goal"]),("zero",["box","goal"]),("halt",[])]
 mc:∃(C_Machine f___init__ f_place_next f_carry_out f_number_for f_heard_number f_told_numbers f_box_numbers:Addr) (d___init__ d_place_next d_carry_out d_number_for d_heard_number d_told_numbers d_box_numbers:FuncData),mg "Machine"=some (.ref C_Machine)/\jO K C_Machine/\b9 K C_Machine "given"/\b9 K C_Machine "heard"/\b9 K C_Machine "told"/\b9 K C_Machine "boxes"/\Mk K C_Machine f___init__/\jy K "__init__" "Machine.__init__" aL f___init__ d___init__/\Binds K d___init__ ["self","given"] []/\Meth K C_Machine "place_next" f_place_next/\jy K "place_next" "Machine.place_next" aK f_place_next d_place_next/\Binds K d_place_next ["self","row","behind","end"] []/\Meth K C_Machine "carry_out" f_carry_out/\jy K "carry_out" "Machine.carry_out" aM f_carry_out d_carry_out/\Binds K d_carry_out ["self","row"] []/\Meth K C_Machine "number_for" f_number_for/\jy K "number_for" "Machine.number_for" aJ f_number_for d_number_for/\Binds K d_number_for ["self","row"] []/\Meth K C_Machine "heard_number" f_heard_number/\jy K "heard_number" "Machine.heard_number" aG f_heard_number d_heard_number/\Binds K d_heard_number ["self"] []/\Meth K C_Machine "told_numbers" f_told_numbers/\jy K "told_numbers" "Machine.told_numbers" aF f_told_numbers d_told_numbers/\Binds K d_told_numbers ["self"] []/\Meth K C_Machine "box_numbers" f_box_numbers/\jy K "box_numbers" "Machine.box_numbers" az f_box_numbers d_box_numbers/\Binds K d_box_numbers ["self"] []
 o9:qB K mg "code_of"
section
variable {P:Program} {w:World} {K:LA} {mg:Str->Option Value} {base:Heap}
namespace Kr
noncomputable def ks(L:Nat):List Nat->Nat
 |[]=>0
 |l::r=>2^(L-l)+ks L r
theorem cH(L:Nat):∀a b,ks L (a++b)=ks L a+ks L b
 |[],b=>by simp[ks]
 |x::a,b=>by simp[ks,cH L a b];lia
theorem gZ(h:a.Perm b):ks L a=ks L b:=by
 induction h with
 |nil=>rfl
 |cons x _ ih=>simp[ks,ih]
 |swap x y l=>simp[ks];lia
 |trans _ _ h1 h2=>exact h1.trans h2
theorem sf{d l:Nat}(h:d<l)(hl:l<=L):2^(L-d)=2*2^(L-(d+1)):=by
 have:L-d=(L-(d+1))+1:=by lia
 rw[this,L8];lia
noncomputable def fit:List Nat->Nat->Nat->Nat->Prop:=λr free depth L=>ks L r<=free*2^(L-depth)
theorem Ab{L d:Nat}:∀{r:List Nat},(∀x∈r,d<=x)->ks L r<=r.length*2^(L-d)
 |[],_=>by simp[ks]
 |x::r,h=>by
  have ih:=Ab (L:=L) (d:=d) (r:=r) λy hy=>h y (GC _ hy);have hx:=h x GD;have:=JT (n:=2) (by decide) (Nat.sub_le_sub_left hx L)
  simp only[ks,GF,K2];lia
theorem B1{x:Nat}:0<ks L (x::r):=by
 have:=Nat.pow_pos (n:=L-x) (show 0<2 by decide)
 simp only[ks];lia
theorem oN{free depth:Nat}(h:∀x∈r,depth<=x)(hf:r.length<=free):fit r free depth L:=
 Gr (Ab h) (Nat.mul_le_mul_right _ hf)
theorem oM{free depth l:Nat}(h:depth<l)(hl:l<=L):fit r free depth L ↔ fit r (free*2) (depth+1) L:=by
 unfold fit;rw[sf h hl,Lp]
theorem uW{free l:Nat}(hf:0<free):fit (l::r) free l L ↔ fit r (free-1) l L:=by
 unfold fit;simp only[ks];obtain⟨f,rfl⟩:∃f,free=f+1:=⟨free-1,by lia⟩
 rw[Nat.add_sub_cancel,K2];lia
theorem wq{x:Nat}{r:List Nat}{depth L:Nat}:¬ fit (x::r) 0 depth L:=by
 unfold fit;have:=B1 (L:=L) (x:=x) (r:=r);lia
end Kr
noncomputable def iV(xs:List Int):List V:=xs.map V.int
theorem bR(xs:List Int):(iV xs).length=xs.length:=Gu ..
theorem mw(xs ys:List Int):iV (xs++ys)=iV xs++iV ys:=GU
theorem zV(h:i<xs.length):bV (iV xs) (i:Int)=some (.int xs[i]):=bM (by unfold iV;rw[G0,Gi h];rfl)
theorem jL{v:V}(h:(iV xs)[i]?=some v):∃hi:i<xs.length,v=.int xs[i]:=by
 unfold iV at h;rw[G0] at h
 cases e:xs[i]? with
 |none=>rw[e] at h;cases h
 |some x=>rw[e] at h;cases h;obtain⟨hi,rfl⟩:=Gm.mp e;exact⟨hi,rfl⟩
theorem mh(xs:List Int)(i:Nat)(x:Int):(iV xs).set i (.int x)=iV (xs.set i x):=by unfold iV;rw[JU]
theorem B0{a:Addr}{xs:List V}(k:KB ex H H')(hx:∀b∈ex,∃ys,H b=some (.lst ys))(h:H a=some (.tup xs)):H' a=some (.tup xs):=k _ _ h λz=>by
 obtain⟨ys,e⟩:=hx a z;rw[h] at e;cases e
noncomputable def jK(ls:List Int):Prop:=0<ls.length/\ls.length<=20/\∀x∈ls,1<=x/\x<=20
noncomputable def KS(ls:List Int):Nat:=Kr.ks 40 (ls.map Int.toNat)
noncomputable def m4(ls:List Int):Bool:=decide (KS ls<=2^40)
namespace Cw
noncomputable def inc:List Nat->List Nat
 |[]=>[]
 |c::r=>if r.all (· == 49) then (if c=48 then 49::r.map (λ_=>48) else 48::r.map (λ_=>48)) else c::inc r
noncomputable def pad(n:Nat)(w:List Nat):List Nat:=w++List.replicate (n-w.length) 48
noncomputable def eJ(w:List Nat)(n:Nat):List Nat:=pad n (inc w)
noncomputable def dJ(w:List Nat)(n:Nat):List Nat:=pad n ((w.reverse.dropWhile (· == 49)).reverse.dropLast++[49])
theorem E5:∀w:List Nat,w.all (· == 49)=true->inc w=w.map λ_=>48
 |[],_=>rfl
 |c::r,h=>by
  rw[Ie,Hy] at h;have hc:c=49:=IY.mp h.1;unfold inc;rw[Gn h.2,Gj (by rw[hc];decide),Hd]
theorem lY:∀{l:List Nat},l.all (· == 49)=true->l=List.replicate l.length 49
 |[],_=>rfl
 |c::r,h=>by
  rw[Ie,Hy] at h;have hc:c=49:=IY.mp h.1;rw[GF,Hh,<- lY h.2,hc]
theorem yh(k:Nat):(List.replicate k 49).all (· == 49)=true:=by
 rw[K4];intro x hx;rw[(HJ.mp hx).2];rfl
theorem parts:∀{w:List Nat},(∀c∈w,c=48\/c=49)->w.all (· == 49)=false->∃p k,w=p++48::List.replicate k 49
 |[],_,h=>by cases h
 |c::r,hb,h=>by
  by_cases z:r.all (· == 49)=true
  ·rw[Ie,z,Bool.and_true] at h;have hc:c=48:=(hb c GD).resolve_right λe=>by rw[e] at h;cases h
   exact⟨[],r.length,by rw[hc,HF,<- lY z]⟩
  ·obtain⟨p,k,e⟩:=parts (w:=r) (λx hx=>hb x (GC _ hx)) (by simpa using z)
   exact⟨c::p,k,by rw[e];rfl⟩
theorem fU(k:Nat):∀p:List Nat,inc (p++48::List.replicate k 49)=p++49::List.replicate k 48
 |[]=>by
  rw[HF,HF];unfold inc;rw[Gn (yh k),Gn rfl,Kk]
 |c::p=>by
  rw[Ii];unfold inc;have z:¬ (p++48::List.replicate k 49).all (· == 49)=true:=by
   rw[List.all_append,Ie];simp
  rw[Gj z,fU k p];rfl
theorem pE(k:Nat)(p:List Nat):((p++48::List.replicate k 49).reverse.dropWhile (· == 49)).reverse=p++[48]:=by
 rw[JZ,List.reverse_cons,List.reverse_replicate];have e:∀(k:Nat) (t:List Nat),(List.replicate k 49++[48]++t).dropWhile (· == 49)=[48]++t:=λk t=>by
  induction k with
  |zero=>rfl
  |succ k ih=>rw[Hh,Ii,Ii,Jh,Gn (by decide)];exact ih
 rw[e,JZ,Jb];rfl
theorem kE{w:List Nat}{n:Nat}(hb:∀c∈w,c=48\/c=49)(h:w.all (· == 49)=false)(hn:w.length<=n):dJ w n=eJ w n:=by
 obtain⟨p,k,rfl⟩:=parts hb h;unfold dJ eJ pad;rw[pE,fU,List.dropLast_append_of_ne_nil (by simp)]
 rw[Gk,GF,GB] at hn;simp only[List.dropLast_singleton,Ia,Gk,GF,GB,Hu,GV,Ii,HF];congr 2;rw[List.replicate_append_replicate];congr 1;lia
noncomputable def val:List Nat->Nat
 |[]=>0
 |c::r=>(c-48)*2^r.length+val r
theorem gE:∀a b:List Nat,val (a++b)=val a*2^b.length+val b
 |[],b=>by simp[val]
 |c::a,b=>by
  rw[Ii,val,val,gE a b,Gk,Nat.pow_add,Nat.add_mul,Lp,Nat.add_assoc]
theorem eG:∀k,val (List.replicate k 48)=0
 |0=>rfl
 |k+1=>by rw[Hh,val,eG k];simp
theorem iW:∀k,val (List.replicate k 49)+1=2^k
 |0=>rfl
 |k+1=>by
  have:=iW k;rw[Hh,val,GB,L8];lia
theorem kZ:∀w:List Nat,(inc w).length=w.length
 |[]=>rfl
 |c::r=>by
  unfold inc;split
  ·split<;>simp
  ·rw[GF,GF,kZ r]
theorem mB:∀{w:List Nat},(∀c∈w,c=48\/c=49)->∀c∈inc w,c=48\/c=49
 |[],_,_,h=>by cases h
 |d::r,hb,c,h=>by
  unfold inc at h
  split at h
  ·split at h
   ·rcases Gs.mp h with h|h
    ·exact .inr h
    ·obtain⟨_,_,e⟩:=HS.mp h;exact .inl e.symm
   ·rcases Gs.mp h with h|h
    ·exact .inl h
    ·obtain⟨_,_,e⟩:=HS.mp h;exact .inl e.symm
  ·rcases Gs.mp h with h|h
   ·rw[h];exact hb d GD
   ·exact mB (λx hx=>hb x (GC _ hx)) c h
theorem dN{w:List Nat}{n:Nat}(h:w.length<=n):(eJ w n).length=n:=by
 unfold eJ pad;rw[Gk,GB,kZ];lia
theorem ko{w:List Nat}{n:Nat}(hb:∀c∈w,c=48\/c=49):∀c∈eJ w n,c=48\/c=49:=λc h=>by
 rcases Hm.mp h with h|h
 ·exact mB hb c h
 ·exact .inl (HJ.mp h).2
theorem nT{w:List Nat}{n:Nat}(hb:∀c∈w,c=48\/c=49)(h:w.all (· == 49)=false):val (eJ w n)=(val w+1)*2^(n-w.length):=by
 unfold eJ pad;rw[gE,eG,GB,kZ,Nat.add_zero];congr 1;obtain⟨p,k,rfl⟩:=parts hb h;have:=iW k;rw[fU,gE,gE,val,val,eG,GF,GF,GB,GB];lia
theorem wM{w:List Nat}(h:w.all (· == 49)=true):val w+1=2^w.length:=by
 rw[lY h,GB];exact iW _
structure gm (done:List Nat) (w:List Nat):Prop where
 bits:∀c∈w,c=48\/c=49
 len:w.length<=40
 sum:(val w+1)*2^(40-w.length)=Kr.ks 40 done
theorem gm.zero{rest w:List Nat}{l:Nat}(h:gm done w)(hk:Kr.ks 40 done+2^(40-l)<=2^40):w.all (· == 49)=false:=by
 cases z:w.all (· == 49) with
 |false=>rfl
 |true =>
  have e:=h.sum;rw[wM z,<- Nat.pow_add,Nat.add_sub_cancel' h.len] at e;have:0<2^(40-l):=Nat.pow_pos (by decide)
  lia
theorem gm.next{w:List Nat}{l:Nat}(h:gm done w)(hl:w.length<=l)(hl2:l<=40)(hk:Kr.ks 40 done+2^(40-l)<=2^40):gm (done++[l]) (eJ w l):=by
 have z:=h.zero (rest:=[]) hk;refine⟨ko h.bits,by rw[dN hl];exact hl2,?_⟩
 rw[nT h.bits z,dN hl,Nat.add_mul,Lp,<- Nat.pow_add,Kr.cH,<- h.sum];have e:l-w.length+(40-l)=40-w.length:=by lia
 rw[e];simp[Kr.ks]
theorem gm.first{l:Nat}(hl:l<=40):gm [l] (List.replicate l 48):=⟨λc h=>.inl (HJ.mp h).2,by rw[GB];exact hl,by rw[eG,GB];simp[Kr.ks]⟩
noncomputable def along(nx:List Nat->Nat->List Nat)(ln:Nat->Nat):List Nat->Option (List Nat)×List (List Nat)->Option (List Nat)×List (List Nat)
 |[],s=>s
 |t::r,(a,ws) =>
  let w:=match a with|none=>List.replicate (ln t) 48|some v=>nx v (ln t)
  along nx ln r (some w,ws.set t w)
theorem gj:∀(order done:List Nat) (a:Option (List Nat)) (ws:List (List Nat)),(order.Pairwise λi j=>ln i<=ln j)->(∀t∈order,ln t<=40)->(∀v,a=some v->gm done v/\∀t∈order,v.length<=ln t)->(a=none->done=[])->Kr.ks 40 (done++order.map ln)<=2^40->along dJ ln order (a,ws)=along eJ ln order (a,ws)
 |[],_,_,_,_,_,_,_,_=>rfl
 |t::r,done,a,ws,hp,h20,ha,hn,hk=>by
  obtain⟨p1,p2⟩:=G_.mp hp;have ht:=h20 t GD;have hk':Kr.ks 40 ((done++[ln t])++r.map ln)<=2^40:=by rw[GV];exact hk
  cases a with
  |none =>
   have:=hn rfl;subst this;exact gj r [ln t] _ _ p2 (λx hx=>h20 x (GC _ hx)) (λv e=>by cases e;exact⟨gm.first ht,λx hx=>by rw[GB];exact p1 x hx⟩) (λe=>by cases e) hk'
  |some v =>
   obtain⟨hv,hl⟩:=ha v rfl;have hvl:=hl t GD;have hk2:Kr.ks 40 done+2^(40-ln t)<=2^40:=by
    rw[Kr.cH,Kr.cH] at hk';simp[Kr.ks] at hk';lia
   have e:=kE hv.bits (hv.zero (rest:=[]) hk2) hvl;show along dJ ln r (some (dJ v (ln t)),ws.set t (dJ v (ln t)))=along eJ ln r (some (eJ v (ln t)),ws.set t (eJ v (ln t)));rw[e];exact gj r (done++[ln t]) _ _ p2 (λx hx=>h20 x (GC _ hx)) (λu e=>by cases e;exact⟨hv.next hvl ht hk2,λx hx=>by rw[dN hvl];exact p1 x hx⟩) (λe=>by cases e) hk'
theorem eU{nx:List Nat->Nat->List Nat}:∀(a b:List Nat) (s:Option (List Nat)×List (List Nat)),along nx ln (a++b) s=along nx ln b (along nx ln a s)
 |[],_,_=>rfl
 |t::r,b,(a,ws)=>eU r b _
theorem fT{nx:List Nat->Nat->List Nat}:∀(o:List Nat) (s:Option (List Nat)×List (List Nat)),(along nx ln o s).2.length=s.2.length
 |[],_=>rfl
 |t::r,(a,ws)=>(fT r _).trans HE
end Cw
local macro_rules | `(tactic| walk_at "lc") => `(tactic| first | exact Or.inl rfl | exact Or.inr rfl)
local macro_rules | `(tactic| wp_walk using $ts,*) => do
  let ids := ("Nat.reduceAdd Nat.reduceSub Nat.reduceLeDiff L2.Ap.pI L2.Ap.tC L2.Ap.tW L2.Ap.DE L2.Ap.iz L2.Ap.Du L2.Ap.vQ L2.Ap.CJ L2.Ap.uq L2.Ap.ny L2.Ap.jA L2.Ap.iG L2.Ap.tK L2.Ap.zJ L2.Ap.oy L2.Ap.i7 L2.Ap.u6 L2.Ap.wR L2.Ap.g_ L2.Ap.xI L2.Ap.CI L2.Ap.uu L2.Ap.E4 L2.Ap.gR L2.Ap.mZ L2.Ap.s_ L2.Ap.lC L2.Ap.bj L2.Ap.vD L2.Ap.mI L2.Ap.fw L2.Ap.mG L2.Ap.ve L2.Ap.mW L2.Ap.lL L2.Ap.nQ L2.Ap.kA L2.Ap.kR L2.Ap.vK L2.Ap.nG xU uz L2.Ap.rI L2.Ap.tB L2.Ap.rU L2.Ap.Ag L2.Ap.Di L2.Ap.addRef L2.Ap.CK L2.Ap.Fs L2.Ap.za L2.Ap.FA L2.Ap.ET L2.Ap.Ft L2.Ap.fj L2.Ap.Df L2.Ap.setRef L2.Ap.uw L2.Ap.C8 L2.Ap.CU L2.Ap.DS L2.Ap.EV L2.Ap.qg L2.Ap.CT L2.Ap.E1 L2.Ap.Fm L2.Ap.AK L2.Ap.xY L2.Ap.zm L2.start Bo xF Fl Fj Ce List.map_cons List.map_nil List.length_cons List.length_nil List.replicate List.cons_append List.nil_append List.append_nil List.getElem?_cons_zero List.getElem?_cons_succ List.set_cons_zero List.set_cons_succ Option.some.injEq exists_eq_left exists_eq_left' V.int.injEq V.str.injEq V.bl.injEq V.ref.injEq List.cons.injEq and_true true_and decide_eq_true_eq Bool.not_eq_true' decide_eq_false_iff_not Bool.false_eq_true L2.Ap.n_ L2.Ap.wG L2.Ap.vR L2.Ap.jh L2.Ap.nV L2.Ap.mR L2.Ap.oq L2.Ap.vb L2.Ap.x9 L2.Ap.xr L2.Ap.jF L2.Ap.jI L2.Ap.j0 L2.Ap.ow L2.Ap.yG L2.Ap.yP".splitOn " ").toArray.map λn => Lean.mkIdent n.toName
  `(tactic| simp only [↓reduceIte, $[$ids:ident],*, $[$ts:term],*])
local macro_rules | `(tactic| walk_at "rz") => `(tactic| wp_walk using and_self)
local macro_rules|`(tactic|rfl')=>`(tactic|wp_walk using and_self)
local macro_rules|`(tactic|symm)=>do
  let n:=Lean.mkIdent `N
  let h:=Lean.mkIdent `hN
  `(tactic|(refine $h _ ?_;clear $h $n;refine ao λ$n $h=>?_))
local macro_rules|`(tactic|ac_rfl)=>do
  let n:=Lean.mkIdent `N
  let h:=Lean.mkIdent `hN
  `(tactic|(refine $h _ ?_;clear $h $n))
local macro_rules|`(tactic|right)=>`(tactic|walk_at "lc")
local macro_rules|`(tactic|exists $ts,*)=>`(tactic|wp_walk using $ts,*)
local macro_rules|`(tactic|left)=>do
  let i:=#[`args,`Qt,`hl,`h,`f,`cdv,`A,`outer,`s,`H,`E,`hr].map Lean.mkIdent
  let u:=Lean.mkIdent `hu
  `(tactic|(intro $[$i:ident]*;have $u:ident:=a_ $(Lean.mkIdent `hr)))
noncomputable def wd(w:List Nat):Str:=⟨w.toArray⟩
theorem av(w:List Nat):(wd w).length=w.length:=Gy ..
theorem qI{x:Str}{w:List Nat}(h:x.cps.toList=w):x=wd w:=by
 cases x with|mk a=>subst h;unfold wd;rw[Jd]
noncomputable def CS:Sp:=λvs H Q _=>∃n:Nat,n<=40/\((vs=[.aP,.int (n:Int)]/\Q (.str (wd (List.replicate n 48))) H)\/∃w,vs=[.str (wd w),.int (n:Int)]/\w.length<=40/\Q (.str (wd (Cw.dJ w n))) H)
theorem sO(T:Txt K mg)(F:HasFn K mg "word_behind" cX ["ahead","length"]):aq P w K mg base bc 1 "word_behind" ["ahead","length"] CS:=by
 refine F.fW jM (λvs H Q E h=>?_) (λf cdv A outer s H vs Q E hr h=>?_)
 ·obtain⟨n,hn,⟨rfl,_⟩|⟨_,rfl,_⟩⟩:=h<;>rfl
 ·have hu:=a_ hr;obtain⟨n,hn,h⟩:=h;rcases h with ⟨rfl,q⟩|⟨v,rfl,hv,q⟩
  ·refine⟨_,(Z.ag (Z.cG (Z.aS cF (Z.v 0) Z.aP) (Z.ar (Z.ret (Z.op Y.qp Z.str (Z.v 1)))) Z.bp)
   (Z.ar (Z.ret (Z.bm K rfl PySem.F.plainAttrs_str PySem.F.slot_str_ljust PySem.F.type_str_ljust Y.mD (Z.op (Z.aN K rfl) (Z.slice Y.dZ (Z.bm K rfl PySem.F.plainAttrs_str PySem.F.slot_str_rstrip PySem.F.type_str_rstrip Y.kf (Z.v 0) (Z.cons Z.str Z.nil)) Z.AI (Z.ll (Z.un gp Z.int))) Z.str) (Z.cons (Z.v 1) (Z.cons Z.str Z.nil)))))),?_⟩
   refine ao λN hN=>?_;walk_at "rz";refine⟨48,_,rfl,rfl,by lia,by lia,?_⟩
   rw[GW];exact q
  ·refine⟨_,(Z.ag (Z.cG (Z.aS cF (Z.v 0) Z.aP) (Z.ar (Z.ret (Z.op Y.qp Z.str (Z.v 1)))) Z.bp)
   (Z.ar (Z.ret (Z.bm K rfl PySem.F.plainAttrs_str PySem.F.slot_str_ljust PySem.F.type_str_ljust Y.mD (Z.op (Z.aN K rfl) (Z.slice Y.dZ (Z.bm K rfl PySem.F.plainAttrs_str PySem.F.slot_str_rstrip PySem.F.type_str_rstrip Y.kf (Z.v 0) (Z.cons Z.str Z.nil)) Z.AI (Z.ll (Z.un gp Z.int))) Z.str) (Z.cons (Z.v 1) (Z.cons Z.str Z.nil)))))),?_⟩
   refine ao λN hN=>?_;walk_at "rz";rw[hN];clear hN N;walk_at "rz";rw[Gj V.noConfusion];refine⟨rfl,wd v,_,rfl,rfl,by rw[av];exact Gr hv (by decide),?_⟩
   have e0:(Str.ofString "1").cps.contains=λc:Nat=>c == 49:=by
    funext c
    show (#[49]:Array Nat).contains c=_;rw[Array.contains_eq_any_beq];simp
   have e1:=nB (wd v) (Str.ofString "1");rw[e0] at e1;have e2:(Txt.rstripChars (wd v) (Str.ofString "1")).cps.toList=(v.reverse.dropWhile (· == 49)).reverse:=by
    rw[<- Jb (Txt.rstripChars (wd v) (Str.ofString "1")).cps.toList,e1];rfl
   generalize Txt.rstripChars (wd v) (Str.ofString "1")=r at e2 ⊢;have hr2:r.length<=40:=by
    have:r.length=r.cps.toList.length:=by rw[Hc];rfl
    rw[this,e2,IG];exact Gr (Jw _).length_le (by rw[IG];exact hv)
   have e3:(Y.fF r none (some (-1))).cps.toList=r.cps.toList.dropLast:=by
    show (Y.jt r.cps.toList none (some (-1))).toArray.toList=_;rw[Ji];unfold Y.jt;rw[HT.fC,HL,K8,Lm];congr 1;show (if (-1:Int)<0 then ((-1:Int)+(r.cps.toList.length:Int)).toNat else min (-1:Int).toNat r.cps.toList.length)=_
    rw[Gn (by decide)]
    lia
   have hl3:(Y.fF r none (some (-1))).length<=40:=by
    have:(Y.fF r none (some (-1))).length=(Y.fF r none (some (-1))).cps.toList.length:=by rw[Hc];rfl
    rw[this,e3,JV,Hc];exact Gr (Nat.sub_le _ _) hr2
   refine⟨r,rfl,Gr hr2 (by decide),?_⟩
   refine⟨Gr (show _<=41 from Nat.add_le_add_right hl3 1) (by decide),rfl,_,(n:Int),_,rfl,rfl,by lia,by lia,rfl,?_⟩
   have e4:Txt.ljustF (Y.fF r none (some (-1))++Str.ofString "1") (n:Int) ((Str.ofString "0").cps.getD 0 0)=wd (Cw.dJ v n):=by
    refine qI ?_;rw[PyProof.Rows.ljustF_list,GW];have e5:(Y.fF r none (some (-1))++Str.ofString "1").cps.toList=(v.reverse.dropWhile (· == 49)).reverse.dropLast++[49]:=by
     show ((Y.fF r none (some (-1))).cps++#[49]).toList=_;rw[IH,e3,e2]
    have e6:(Y.fF r none (some (-1))++Str.ofString "1").length=((v.reverse.dropWhile (· == 49)).reverse.dropLast++[49]).length:=by
     rw[<- e5,Hc];rfl
    rw[e5,e6];rfl
   rw[e4];exact q
theorem yB:Str.ofString ""=wd []:=rfl
theorem tI(z y:List Nat)(p:Nat)(hy:y≠[]):Y.jC (wd z) (wd y) (p:Int)=decide (y <+: z.drop p):=by
 have hl:0<y.length:=J_.mpr hy;unfold Y.jC;have e0:fromIndex (wd z).length (p:Int)=p:=by unfold fromIndex;rw[Gj (by lia)];lia
 rw[e0];have e:Builtin.Str.subAt (wd z) (wd y) p=decide ((z.drop p).take y.length=y):=by
  unfold Builtin.Str.subAt wd;rw[IL,IY,IU,<- K9,Array.toList_extract,Kw];rw[show (⟨y.toArray⟩:Str).length=y.length from Gy ..];simp
 rw[e,IL,Hy,IU,IU,IU,Jp,av,av];refine⟨λh=>h.2.symm,λh=>⟨?_,h.symm⟩⟩;have:=Hj List.length h;rw[GQ,Hf] at this;lia
noncomputable def k_(ws:List (List Nat))(z:List Nat)(p:Nat):Option Nat:=(List.range ws.length).find? λi=>decide (ws.getD i [] <+: z.drop p)
theorem eI(h:k_ ws z p=some t):t<ws.length/\ws.getD t [] <+: z.drop p:=by
 have h1:=List.mem_of_find?_eq_some h;have h2:=List.find?_some h;exact⟨HK.mp h1,Ht h2⟩
theorem vI(h:k_ ws z p=none)(ht:t<ws.length):¬ ws.getD t [] <+: z.drop p:=λhp=>by
 have:=List.find?_eq_none.mp h t (HK.mpr ht);exact this (GZ hp)
structure Pf (ws:List (List Nat)):Prop where
 ne:∀w∈ws,w≠[]
 pre:∀(i j:Nat) (hi:i<ws.length) (hj:j<ws.length),i≠j->¬ ws[i] <+: ws[j]
theorem Pf.th(h:Pf ws)(ht:t<ws.length)(hp:ws.getD t [] <+: z.drop p):k_ ws z p=some t:=by
 cases c:k_ ws z p with
 |none=>exact absurd hp (vI c ht)
 |some i =>
  obtain⟨hi,hpi⟩:=eI c;by_cases e:i=t
  ·rw[e]
  ·have g:∀{k:Nat} (hk:k<ws.length),ws.getD k []=ws[k]:=λhk=>by rw[Gv,Gi hk];rfl
   rw[g hi] at hpi;rw[g ht] at hp;rcases List.prefix_or_prefix_of_prefix hpi hp with q|q
   ·exact absurd q (h.pre i t hi ht e)
   ·exact absurd q (h.pre t i ht hi (HB e))
theorem so(n:Nat)(h:n<ws.length):(List.range' n (ws.length-n)).find? (λi=>decide (ws.getD i [] <+: z.drop p))=if ws[n] <+: z.drop p then some n else (List.range' (n+1) (ws.length-(n+1))).find? λi=>decide (ws.getD i [] <+: z.drop p):=by
 rw[show ws.length-n=(ws.length-(n+1))+1 by lia,IA,Ib]
 rw[Gv,Gi h];show (match decide (ws[n] <+: z.drop p) with|true=>some n|false=>_)=_
 by_cases c:ws[n] <+: z.drop p
 ·rw[GZ c,Gn c]
 ·rw[GJ c,Gj c]
noncomputable def wV(ws:List (List Nat)):List V:=ws.map λw=>.str (wd w)
noncomputable def Fp:Option Nat->V
 |none=>.aP
 |some t=>.int (t:Int)
noncomputable def qE(K:LA):Sp:=λvs H Q _=>∃(a:Addr) (ws:List (List Nat)) (z:List Nat) (p:Nat),vs=[.ref a,.str (wd z),.int (p:Nat)]/\bz K H a (wV ws)/\(∀w∈ws,w≠[])/\ws.length<=100/\z.length<=1000000/\∀H',KB [] H H'->Q (Fp (k_ ws z p)) H'
theorem vh(T:Txt K mg)(F:HasFn K mg "thing_at" eV ["code","bits","place"]):aq P w K mg base bc 1 "thing_at" ["code","bits","place"] (qE K):=by
 refine F.fW fz (λvs H Q E h=>?_) (λf cdv A outer s H vs Q E hr h=>?_)
 ·obtain⟨a,ws,z,p,rfl,_⟩:=h;rfl
 ·have hu:=a_ hr;obtain⟨a,ws,z,p,rfl,ha,hne,h100,hz,q⟩:=h;refine⟨_,(Z.ag (Z.eF GP rfl (Z.enum K rfl rfl T.fG (Z.cons (Z.v 0) Z.nil)) (Z.rJ (n:=2) K rfl rfl (Z.cC (Z.ba (i:=3) fz.nd rfl (by right)) (Z.cC (Z.ba (i:=4) fz.nd rfl (by right)) Z.jl))) (Z.ar (Z.cG (Z.tw (Z.se (Z.aS js (Z.v 4) Z.str) (Z.kr (Z.mx K rfl (Z.bm K rfl PySem.F.plainAttrs_str PySem.F.slot_str_startswith PySem.F.type_str_startswith Y.pR (Z.v 1) (Z.cons (Z.v 4) (Z.cons (Z.v 2) Z.nil))))))) (Z.ar (Z.ret (Z.v 3))) Z.bp)))
   (Z.ar (Z.ret Z.aP))),?_⟩
  refine ao λN hN=>?_;walk_at "rz";refine⟨⟨_,ha⟩,?_⟩;refine qh (xs:=wV ws) (λi σ H'=>KB [] H H'/\i<=ws.length/\(List.range' i (ws.length-i)).find? (λi=>decide (ws.getD i [] <+: z.drop p))=k_ ws z p/\∃(s3 s4:Option V),σ=[some (.ref a),some (.str (wd z)),some (.int (p:Nat)),s3,s4]) ⟨KB.refl _ _,GH _,by unfold k_;rw[Jc];rfl,none,none,rfl⟩ ?_ ?_ ?_
  ·rintro i σ H' hi ⟨k,_⟩;exact EL ha k
  ·rintro i x σ H' b hx ⟨k,hi,ef,s3,s4,rfl⟩ hb;have hlt:i<ws.length:=by
    have:=(Gm.mp hx).1;unfold wV at this;rw[Gu] at this;exact this
   have ex:x=.str (wd ws[i]):=by
    unfold wV at hx;rw[G0,Gi hlt] at hx;exact (Option.some.inj hx).symm
   subst ex;refine⟨b,_,rfl,bz.of aa,rfl,?_⟩;have k1:KB [] H (upd H' b (.tup [.int i,.str (wd ws[i])])):=k.trans (KB.new hb);generalize upd H' b (.tup [.int i,.str (wd ws[i])])=H1 at k1;have h0:ws[i]≠[]:=hne _ (GS hlt);have hne':¬ wd ws[i]=Str.ofString "":=λe=>h0 (by rw[yB] at e;exact Hj (λs:Str=>s.cps.toList) e)
   rw[so i hlt] at ef;walk_at "rz";rw[Gn hne'];refine⟨rfl,_,_,_,rfl,rfl,_,rfl,?_⟩;rw[tI z ws[i] p h0];by_cases c:ws[i] <+: z.drop p
   ·rw[Gn c] at ef;rw[<- ef] at q;rw[Gn (GZ c)];exact q _ k1
   ·rw[Gj c] at ef;rw[Gj (by rw[GJ c];exact Gx)]
    exact⟨k1,hlt,ef,_,_,rfl,rfl⟩
  ·rintro σ H' ⟨k,_,ef,s3,s4,rfl⟩;have e:(wV ws).length=ws.length:=Gu ..;rw[e,Ip] at ef;have ef':k_ ws z p=none:=ef.symm;rw[ef'] at q;show N _ _;rw[hN];clear hN N;walk_at "rz";exact q _ k
noncomputable def hG(ws:List (List Nat))(z:List Nat)(p:Nat):Option (Nat×Nat):=(k_ ws z p).map λt=>(t,p+(ws.getD t []).length)
theorem eA{x:Nat×Nat}(hne:∀w∈ws,w≠[])(h:hG ws z p=some x):x.1<ws.length/\x.2=p+(ws.getD x.1 []).length/\p<x.2/\x.2<=z.length:=by
 unfold hG at h
 cases c:k_ ws z p with
 |none=>rw[c] at h;cases h
 |some t =>
  rw[c] at h;cases h;obtain⟨h1,h2⟩:=eI c;have h3:=h2.length_le;rw[Hf] at h3;have h4:ws.getD t []≠[]:=by rw[Gv,Gi h1];exact hne _ (GS h1)
  have h5:=J_.mpr h4;exact⟨h1,rfl,by show p<p+_;lia,by show p+_<=_;lia⟩
noncomputable def CA(H:Hp)(v:V):Option (Nat×Nat)->Prop
 |none=>v=.aP
 |some x=>∃t,v=.ref t/\H t=some (.tup [.int (x.1:Nat),.int (x.2:Nat)])
noncomputable def gX(K:LA):Sp:=λvs H Q _=>∃(a:Addr) (ws:List (List Nat)) (z:List Nat) (p:Nat),vs=[.ref a,.str (wd z),.int (p:Nat)]/\bz K H a (wV ws)/\(∀w∈ws,w≠[])/\ws.length<=100/\z.length<=1000000/\∀v H',KB [] H H'->CA H' v (hG ws z p)->Q v H'
theorem xi(T:Txt K mg)(F:HasFn K mg "coded_at" eX ["code","bits","place"])(hthing_at:aq P w K mg base bc 1 "thing_at" ["code","bits","place"] (qE K)):aq P w K mg base bc 2 "coded_at" ["code","bits","place"] (gX K):=by
 refine F.fW iw (λvs H Q E h=>?_) (λf cdv A outer s H vs Q E hr h=>?_)
 ·obtain⟨a,ws,z,p,rfl,_⟩:=h;rfl
 ·have hu:=a_ hr;obtain⟨a,ws,z,p,rfl,ha,hne,h100,hz,q⟩:=h;refine⟨_,(Z.ag (Z.set (i:=3) iw.nd rfl (by right) (Z.fn hthing_at (hr.mono (by decide)) rfl aA (Z.cons (Z.v 0) (Z.cons (Z.v 1) (Z.cons (Z.v 2) Z.nil)))))
   (Z.ar (Z.ret (Z.CN (Z.aS cF (Z.v 3) Z.aP) Z.aP (Z.tup (Z.cons (Z.v 3) (Z.cons (Z.op (Z.aN K rfl) (Z.v 2) (Z.cb (Z.bB K rfl) rfl T.b8 (by decide +kernel) (Z.cons (Z.ix (Z.nq K rfl) (Z.v 0) (Z.v 3)) Z.nil))) Z.nil))))))),?_⟩
  refine ao λN hN=>?_;walk_at "rz";refine⟨a,ws,z,p,rfl,ha,hne,h100,hz,λH1 k1=>?_⟩;rw[hN];clear hN N;have ha1:=EL ha k1;unfold hG at q
  cases c:k_ ws z p with
  |none =>
   rw[c] at q;unfold Fp;walk_at "rz";exact q _ _ k1 rfl
  |some t =>
   rw[c] at q;obtain⟨h1,h2⟩:=eI c;unfold Fp;walk_at "rz";rw[Gj V.noConfusion];have h3:=h2.length_le;rw[Hf] at h3;refine⟨a,wV ws,_,.str (wd (ws.getD t [])),rfl,rfl,ha1,bM (by unfold wV;rw[G0,Gv,Gi h1];rfl),?_⟩
   walk_at "rz";rw[av];refine⟨Gr (show _<=1000000 by lia) (by decide),by decide,λb hb=>q _ _ (k1.trans (KB.new hb)) ⟨b,rfl,?_⟩⟩
   rw[aa];rfl
noncomputable def dw(z:List Nat):Prop:=∀c∈z,c=48\/c=49
theorem dw.cut(h:dw z)(a n:Nat):dw ((z.drop a).take n):=λc hc=>h c (List.mem_of_mem_drop (List.mem_of_mem_take hc))
theorem qQ(z:List Nat)(a b:Nat)(h1:a<=b)(h2:b<=z.length):Y.fF (wd z) (some (a:Int)) (some (b:Int))=wd ((z.drop a).take (b-a)):=by
 unfold Y.fF wd;congr 2;show Y.jt z (some (a:Int)) (some (b:Int))=_;unfold Y.jt;rw[HT.dX,HT.dX,JW h2,JW (Gr h1 h2)]
noncomputable def u5(ws:List (List Nat))(z:List Nat)(p:Nat):Option (Nat×Nat):=match hG ws z p with
 |none=>none
 |some x=>if x.1=0 then some x else if x.2+(x.1-1)<=z.length then some (eB (49::(z.drop x.2).take (x.1-1)),x.2+(x.1-1)) else none
theorem yr(c:Nat)(w:List Nat):wd [c]++wd w=wd (c::w):=qI (by
 show (#[c]++w.toArray).toList=_;rw[IH];rfl)
noncomputable def qZ(K:LA):Sp:=λvs H Q _=>∃(a:Addr) (ws:List (List Nat)) (z:List Nat) (p:Nat),vs=[.ref a,.str (wd z),.int (p:Nat)]/\bz K H a (wV ws)/\(∀w∈ws,w≠[])/\ws.length<=20/\dw z/\z.length<=1000000/\∀v H',KB [] H H'->CA H' v (u5 ws z p)->Q v H'
theorem vA(T:Txt K mg)(F:HasFn K mg "number_at" dY ["code","bits","place"])(hcoded_at:aq P w K mg base bc 2 "coded_at" ["code","bits","place"] (gX K)):aq P w K mg base bc 3 "number_at" ["code","bits","place"] (qZ K):=by
 refine F.fW eS (λvs H Q E h=>?_) (λf cdv A outer s H vs Q E hr h=>?_)
 ·obtain⟨a,ws,z,p,rfl,_⟩:=h;rfl
 ·have hu:=a_ hr;obtain⟨a,ws,z,p,rfl,ha,hne,h20,hb,hz,q⟩:=h;refine⟨_,(Z.ag (Z.set (i:=3) eS.nd rfl (by right) (Z.fn hcoded_at (hr.mono (by decide)) rfl aA (Z.cons (Z.v 0) (Z.cons (Z.v 1) (Z.cons (Z.v 2) Z.nil)))))
   (Z.ag (Z.cG (Z.tw (Z.EA (Z.aS cF (Z.v 3) Z.aP) (Z.xJ (Z.aS aQ (Z.ix (Z.ay K rfl hu) (Z.v 3) Z.int) Z.int)))) (Z.ar (Z.ret (Z.v 3))) Z.bp)
   (Z.ag (Z.set (i:=4) eS.nd rfl (by right) (Z.op bZ (Z.op (Z.aN K rfl) (Z.ix (Z.ay K rfl hu) (Z.v 3) Z.int) (Z.ix (Z.ay K rfl hu) (Z.v 3) Z.int)) Z.int))
   (Z.ag (Z.cG (Z.aS Ar (Z.v 4) (Z.cb (Z.bB K rfl) rfl T.b8 (by decide +kernel) (Z.cons (Z.v 1) Z.nil))) (Z.ar (Z.ret Z.aP)) Z.bp)
   (Z.ar (Z.ret (Z.tup (Z.cons (Z.ct kD rfl T.qK (by decide +kernel) (Z.cons (Z.op (Z.aN K rfl) Z.str (Z.slice Y.dZ (Z.v 1) (Z.ll (Z.ix (Z.ay K rfl hu) (Z.v 3) Z.int)) (Z.ll (Z.v 4)))) (Z.cons Z.int Z.nil))) (Z.cons (Z.v 4) Z.nil))))))))),?_⟩
  refine ao λN hN=>?_;walk_at "rz";refine⟨a,ws,z,p,rfl,ha,hne,by lia,hz,λv H1 k1 o1=>?_⟩
  rw[hN];clear hN N;refine ao λN hN=>?_;unfold u5 at q
  cases c:hG ws z p with
  |none =>
   rw[c] at q o1;obtain rfl:v=.aP:=o1;walk_at "rz";exact q _ _ k1 rfl
  |some x =>
   rw[c] at q o1;obtain⟨t,e⟩:=x;obtain⟨h1,_,h3,h4⟩:=eA hne c;obtain⟨b,rfl,hb1⟩:=o1;dsimp only at q h1 h3 h4 hb1;have sb:=aH hb1;have ne:¬ V.ref b=V.aP:=V.noConfusion;have a0:bV [V.int (t:Int),V.int (e:Int)] 0=some (.int (t:Int)):=rfl;have a1:bV [V.int (t:Int),V.int (e:Int)] 1=some (.int (e:Int)):=rfl;walk_at "rz";simp only[sb,a0,a1,if_neg ne];walk_at "rz";by_cases c0:t=0
   ·subst c0;rw[Gn rfl] at q;rw[Gn (by rfl)]
    exact q _ _ k1 ⟨b,rfl,hb1⟩
   ·rw[Gj c0] at q;have ci:¬ ((t:Nat):Int)=0:=by lia
    rw[Gj ci,hN];clear hN N;refine ao λN hN=>?_;walk_at "rz";simp only[sb,a0,a1];walk_at "rz";have eb:(e:Int)+(t:Int)-1=((e+(t-1):Nat):Int):=by lia
    rw[eb,hN];clear hN N;refine ao λN hN=>?_;walk_at "rz";refine⟨by rw[av];exact Gr hz (by decide),?_⟩
    rw[av];by_cases cl:e+(t-1)<=z.length
    ·rw[Gn cl] at q;rw[Gj (by lia),hN];clear hN N
     walk_at "rz";simp only[sb,a0,a1];have hb2:=hb.cut e (t-1);have hll:((z.drop e).take (t-1)).length<=20:=by rw[GQ];lia
     have hcl:(49::(z.drop e).take (t-1)).length<=21:=by rw[GF];lia
     refine⟨(e:Int),rfl,wd z,rfl,by rw[av];exact Gr hz (by decide),?_⟩
     rw[qQ z _ _ (by lia) cl,HM,show Str.ofString "1"=wd [49] from by decide +kernel]
     show _/\As [.str (wd [49]++wd ((z.drop e).take (t-1))),.int 2] H1 _;rw[yr,av,av];refine⟨Gr (show _<=21 by rw[IV];lia) (by decide),_,rfl,by rw[av];exact Gr hcl (by decide),λc hc=>?_,by simp[wd],by decide,λb2 hb2'=>?_⟩
     ·rcases Gs.mp (show c∈49::(z.drop e).take (t-1) from hc) with rfl|hc
      ·exact .inr rfl
      ·exact hb2 c hc
     ·exact q _ _ (k1.trans (KB.new hb2')) ⟨b2,rfl,by rw[aa];rfl⟩
    ·rw[Gj cl] at q;rw[Gn (by lia)]
     exact q _ _ k1 rfl
noncomputable def cE:Nat->List Nat
 |0=>[48]
 |1=>[49,48]
 |_=>[49,49]
noncomputable def b7:Nat->Nat
 |0=>4
 |1=>8
 |_=>16
noncomputable def fH(k:Nat):Int:=if k=0 then 8 else if k=1 then 128 else 32768
noncomputable def m3:List (List Nat):=[cE 0,cE 1,cE 2]
theorem pj{k:Nat}(h:k<3):k=0\/k=1\/k=2:=by lia
theorem p8:∀w∈m3,w≠[]:=by decide
theorem vx{k:Nat}(h:k<3):m3.getD k []=cE k:=by rcases pj h with rfl|rfl|rfl<;>rfl
noncomputable def A7(k n:Nat):Int:=if fH k<=(n:Int) then (n:Int)-2*fH k else (n:Int)
noncomputable def gA(z:List Nat)(p:Nat):Option (Int×Nat):=match hG m3 z p with
 |none=>none
 |some x=>if x.2+b7 x.1<=z.length then some (A7 x.1 (eB ((z.drop x.2).take (b7 x.1))),x.2+b7 x.1) else none
theorem Eg:[V.str (Str.ofString "0"),.str (Str.ofString "10"),.str (Str.ofString "11")]=wV m3:=by
 rw[show Str.ofString "0"=wd [48] from by decide +kernel,show Str.ofString "10"=wd [49,48] from by decide +kernel,show Str.ofString "11"=wd [49,49] from by decide +kernel]
 rfl
noncomputable def FX(H:Hp)(v:V):Option (Int×Nat)->Prop
 |none=>v=.aP
 |some x=>∃t,v=.ref t/\H t=some (.tup [.int ((x.2:Int)+x.1),.int (x.2:Nat)])
noncomputable def oA(K:LA):Sp:=λvs H Q _=>∃(z:List Nat) (p:Nat),vs=[.str (wd z),.int (p:Nat)]/\dw z/\z.length<=1000000/\∀v H',KB [] H H'->FX H' v (gA z p)->Q v H'
theorem rO(T:Txt K mg)(F:HasFn K mg "goal_at" fK ["bits","place"])(hcoded_at:aq P w K mg base bc 2 "coded_at" ["code","bits","place"] (gX K)):aq P w K mg base bc 3 "goal_at" ["bits","place"] (oA K):=by
 refine F.fW cT (λvs H Q E h=>?_) (λf cdv A outer s H vs Q E hr h=>?_)
 ·obtain⟨z,p,rfl,_⟩:=h;rfl
 ·have hu:=a_ hr;obtain⟨z,p,rfl,hb,hz,q⟩:=h;obtain⟨aE,hg_HEADS,sE⟩:=T.zM;obtain⟨aW,hg_WIDTHS,sW⟩:=T.vW;obtain⟨aV,hg_HALVES,sV⟩:=T.xq;have hr_HEADS:RelV (.ref aE) (.ref aE):=rfl;have hr_WIDTHS:RelV (.ref aW) (.ref aW):=rfl;have hr_HALVES:RelV (.ref aV) (.ref aV):=rfl;refine⟨_,(Z.ag (Z.set (i:=2) cT.nd rfl (by right) (Z.fn hcoded_at (hr.mono (by decide)) rfl aA (Z.cons (Z.glob rfl hg_HEADS hr_HEADS) (Z.cons (Z.v 0) (Z.cons (Z.v 1) Z.nil)))))
   (Z.ag (Z.cG (Z.aS cF (Z.v 2) Z.aP) (Z.ar (Z.ret Z.aP)) Z.bp)
   (Z.ag (Z.set (i:=3) cT.nd rfl (by right) (Z.ix (Z.ay K rfl hu) (Z.v 2) Z.int))
   (Z.ag (Z.set (i:=4) cT.nd rfl (by right) (Z.op (Z.aN K rfl) (Z.ix (Z.ay K rfl hu) (Z.v 2) Z.int) (Z.ix (Z.nq K rfl) (Z.glob rfl hg_WIDTHS hr_WIDTHS) (Z.v 3))))
   (Z.ag (Z.cG (Z.aS Ar (Z.v 4) (Z.cb (Z.bB K rfl) rfl T.b8 (by decide +kernel) (Z.cons (Z.v 0) Z.nil))) (Z.ar (Z.ret Z.aP)) Z.bp)
   (Z.ag (Z.set (i:=5) cT.nd rfl (by right) (Z.ct kD rfl T.qK (by decide +kernel) (Z.cons (Z.slice Y.dZ (Z.v 0) (Z.ll (Z.ix (Z.ay K rfl hu) (Z.v 2) Z.int)) (Z.ll (Z.v 4))) (Z.cons Z.int Z.nil))))
   (Z.ag (Z.cG (Z.aS r9 (Z.v 5) (Z.ix (Z.nq K rfl) (Z.glob rfl hg_HALVES hr_HALVES) (Z.v 3))) (Z.ar (Z.set (i:=5) cT.nd rfl (by right) (Z.op bZ (Z.v 5) (Z.op cp Z.int (Z.ix (Z.nq K rfl) (Z.glob rfl hg_HALVES hr_HALVES) (Z.v 3)))))) Z.bp)
   (Z.ar (Z.ret (Z.tup (Z.cons (Z.op (Z.aN K rfl) (Z.v 4) (Z.v 5)) (Z.cons (Z.v 4) Z.nil)))))))))))),?_⟩
  refine ao λN hN=>?_;walk_at "rz";refine⟨aE,m3,z,p,rfl,by rw[<- Eg];exact sE H,p8,by decide,hz,λv H1 k1 o1=>?_⟩
  rw[hN];clear hN N;refine ao λN hN=>?_;unfold gA at q
  cases c:hG m3 z p with
  |none =>
   rw[c] at q o1;obtain rfl:v=.aP:=o1;walk_at "rz";exact q _ _ k1 rfl
  |some x =>
   rw[c] at q o1;obtain⟨k,e⟩:=x;obtain⟨h1,_,h3,h4⟩:=eA p8 c;obtain⟨b,rfl,hb1⟩:=o1;dsimp only at q h1 h3 h4 hb1;have hk:k<3:=h1;have sb:=aH hb1;have ne:¬ V.ref b=V.aP:=V.noConfusion;have a0:bV [V.int (k:Int),V.int (e:Int)] 0=some (.int (k:Int)):=rfl;have a1:bV [V.int (k:Int),V.int (e:Int)] 1=some (.int (e:Int)):=rfl;walk_at "rz";rw[if_neg ne,hN];clear hN N;refine ao λN hN=>?_;walk_at "rz";simp only[sb,a0,a1];rw[hN];clear hN N;refine ao λN hN=>?_;walk_at "rz";simp only[sb,a0,a1];have aw:bV [V.int 4,.int 8,.int 16] (k:Int)=some (.int (b7 k:Nat)):=by rcases pj hk with rfl|rfl|rfl<;>rfl
   have ah:bV [V.int 8,.int 128,.int 32768] (k:Int)=some (.int (fH k)):=by rcases pj hk with rfl|rfl|rfl<;>rfl
   have h16:b7 k<=16/\0<b7 k:=by rcases pj hk with rfl|rfl|rfl<;>decide
   refine⟨aW,_,_,_,rfl,rfl,sW H1,aw,?_⟩;show N [_,_,_,_,some (V.int ((e:Int)+(b7 k:Nat))),none] H1;rw[show (e:Int)+(b7 k:Nat)=((e+b7 k:Nat):Int) by lia,hN];clear hN N
   refine ao λN hN=>?_;walk_at "rz";refine⟨by rw[av];exact Gr hz (by decide),?_⟩
   rw[av];by_cases cl:e+b7 k<=z.length
   ·rw[Gn cl] at q;rw[Gj (by lia),hN];clear hN N
    refine ao λN hN=>?_;walk_at "rz";simp only[sb,a0,a1];have hb2:=hb.cut e (b7 k);have hl2:((z.drop e).take (b7 k)).length=b7 k:=by rw[GQ,Hf];lia
    refine⟨(e:Int),rfl,wd z,rfl,by rw[av];exact Gr hz (by decide),?_⟩
    rw[qQ z _ _ (by lia) cl,HM]
    refine⟨_,rfl,by rw[av,hl2];lia,hb2,λe0=>by have e1:(z.drop e).take (b7 k)=[]:=e0;rw[e1] at hl2;simp at hl2;lia,?_⟩
    rw[show (wd ((z.drop e).take (b7 k))).cps.toList=(z.drop e).take (b7 k) from rfl];generalize eB ((z.drop e).take (b7 k))=n at *;unfold A7 at q;show N _ _;rw[hN];clear hN N;refine ao λN hN=>?_;walk_at "rz";refine⟨aV,_,_,_,rfl,rfl,sV H1,ah,_,_,rfl,rfl,_,rfl,?_⟩;have fin:∀d:Int,d=(if fH k<=(n:Int) then (n:Int)-2*fH k else (n:Int))->N [some (.str (wd z)),some (.int (p:Nat)),some (.ref b),some (.int (k:Nat)),some (.int ((e+b7 k:Nat):Int)),some (.int d)] H1:=λd ed=>by
     rw[hN];clear hN N;walk_at "rz";refine⟨by decide,λb2 hb2'=>q _ _ (k1.trans (KB.new hb2')) ⟨b2,rfl,?_⟩⟩
     rw[aa,ed]
    by_cases ch:fH k<=(n:Int)
    ·rw[Gn (GZ ch)];refine⟨aV,_,_,_,rfl,rfl,sV H1,ah,?_⟩;exact⟨.inl (by decide),_,_,rfl,rfl,fin _ (by rw[Gn ch])⟩
    ·rw[Gj (by rw[GJ ch];exact Gx)]
     exact fin _ (by rw[Gj ch])
   ·rw[Gj cl] at q;rw[Gn (by lia)]
    exact q _ _ k1 rfl
theorem mP(u:_root_.Fin 2):u=0\/u=1:=by revert u;decide
theorem yg(u:_root_.Fin 3):u=0\/u=1\/u=2:=by revert u;decide
theorem AA{b:Nat}(h:b<8):b=0\/b=1\/b=2\/b=3\/b=4\/b=5\/b=6\/b=7:=by lia
theorem Dd{l:List α}(h:l.length=8):∃a b c d e f g i,l=[a,b,c,d,e,f,g,i]:=by
 rcases l with _|⟨a,_|⟨b,_|⟨c,_|⟨d,_|⟨e,_|⟨f,_|⟨g,_|⟨i,_|⟨j,l⟩⟩⟩⟩⟩⟩⟩⟩⟩<;>first|exact⟨_,_,_,_,_,_,_,_,rfl⟩ | (exfalso;revert h;simp)
inductive Row where
 |put (b n:Nat)|two (w:Fin 3) (a b:Nat)|one (w:Fin 2) (b:Nat)|jump (g:Nat)|zero (b g:Nat)|halt
 deriving DecidableEq
noncomputable def bU(i:Nat):Str:=⟨#[97+i]⟩
noncomputable def w2:Fin 3->Str
 |0=>"add"
 |1=>"sub"
 |2=>"copy"
noncomputable def w1:Fin 2->Str
 |0=>"tell"
 |1=>"hear"
inductive EG where
 |s (z:Str)|n (k:Nat)
noncomputable def Row.ps:Row->List EG
 |.put b n=>[.s "put",.s (bU b),.n n]
 |.two w a b=>[.s (w2 w),.s (bU a),.s (bU b)]
 |.one w b=>[.s (w1 w),.s (bU b)]
 |.jump g=>[.s "jump",.n g]
 |.zero b g=>[.s "zero",.s (bU b),.n g]
 |.halt=>[.s "halt"]
noncomputable def Row.Ok(size:Nat):Row->Prop
 |.put b n=>b<8/\n<65536
 |.two _ a b=>a<8/\b<8
 |.one _ b=>b<8
 |.jump g=>g<=size
 |.zero b g=>b<8/\g<=size
 |.halt=>True
theorem Row.Ok.mono{a b:Nat}{r:Row}(h:r.Ok a)(hm:a<=b):r.Ok b:=by
 cases r<;>simp only[Row.Ok] at h ⊢<;>lia
theorem lZ{k:Int}(h0:0<=k)(h1:k<8):bV (Str.ofString "abcdefgh").cps.toList k=some (97+k.toNat):=by
 have e:(Str.ofString "abcdefgh").cps.toList=[97,98,99,100,101,102,103,104]:=by decide +kernel
 rw[e];obtain⟨n,rfl⟩:∃n:Nat,k=n:=⟨k.toNat,by lia⟩
 unfold bV mf;have hn:n<8:=by lia
 rw[Gn (by lia),Gn (by simp;lia)]
 show [97,98,99,100,101,102,103,104][((n:Nat):Int).toNat]?=some (97+((n:Nat):Int).toNat);rw[GW];rcases AA hn with rfl|rfl|rfl|rfl|rfl|rfl|rfl|rfl<;>rfl
noncomputable def aT(ls:List Int)(t:Nat):Nat:=(ls.getD t 0).toNat
noncomputable def aI(ls:List Int):List Nat:=iH ls (List.range ls.length)
noncomputable def wordsOf(nx:List Nat->Nat->List Nat)(ls:List Int):List (List Nat):=(Cw.along nx (aT ls) (aI ls) (none,List.replicate ls.length [])).2
noncomputable def eY(ls:List Int)(done:List Nat):Option (List Nat)×List (List Nat):=Cw.along Cw.dJ (aT ls) done (none,List.replicate ls.length [])
theorem r8{v:List Nat}{n:Nat}(hv:v.length<=40)(hn:n<=40):(Cw.dJ v n).length<=40:=by
 have h1:((v.reverse.dropWhile (· == 49)).reverse.dropLast).length<=39:=by
  rw[JV,IG];have:=(Jw (· == 49) (l:=v.reverse)).length_le;rw[IG] at this;lia
 unfold Cw.dJ Cw.pad;rw[Gk,GB,Gk,IV];lia
theorem gS(h:t∈aI ls):t<ls.length:=HK.mp ((iS (by rw[He])).mem_iff.mp h)
theorem AG(ls:List Int)(done:List Nat):(eY ls done).2.length=ls.length:=by
 unfold eY;rw[Cw.fT,GB]
namespace Cw
noncomputable def Dv(a b:List Nat):Prop:=∃u,u++[48] <+: a/\u++[49] <+: b
theorem oz{u v:List Nat}{c d:Nat}(h1:u++[c] <+: b)(h2:v++[d] <+: b)(hl:u.length<v.length):u++[c] <+: v:=by
 have h3:v <+: b:=(Kl v [d]).trans h2;exact II h1 h3 (by rw[Gk];exact hl)
theorem Dv.trans{c:List Nat}(h:Dv a b)(g:Dv b c):Dv a c:=by
 obtain⟨u,h1,h2⟩:=h;obtain⟨v,g1,g2⟩:=g;rcases Nat.lt_trichotomy u.length v.length with e|e|e
 ·exact⟨u,h1,(oz h2 g1 e).trans ((Kl v [49]).trans g2)⟩
 ·have p1:(u++[49]).length=(v++[48]).length:=by rw[Gk,Gk,e];rfl
  have p2:u++[49]=v++[48]:=(II h2 g1 (by lia)).eq_of_length p1
  have p3:[49]=[48]:=(List.append_inj' p2 rfl).2;exact absurd p3 (by decide)
 ·exact⟨v,(oz g1 h2 e).trans ((Kl u [48]).trans h1),g2⟩
theorem Dv.not(h:Dv a b):¬ a <+: b/\¬ b <+: a:=by
 obtain⟨u,h1,h2⟩:=h;have key:∀c,u++[48] <+: c->u++[49] <+: c->False:=λc p q=>by
  have e:u++[48]=u++[49]:=(II p q (by simp)).eq_of_length (by simp)
  exact absurd (List.append_cancel_left e) (by decide)
 exact⟨λp=>key b (h1.trans p) h2,λp=>key a h1 (h2.trans p)⟩
theorem Dv.lt(h:Dv a b):a<b:=by
 obtain⟨u,⟨x,rfl⟩,⟨y,rfl⟩⟩:=h
 induction u with
 |nil=>exact List.Lex.rel (by decide)
 |cons c u ih=>exact List.Lex.cons ih
theorem yn{w:List Nat}{n:Nat}(hb:∀c∈w,c=48\/c=49)(h:w.all (· == 49)=false):Dv w (eJ w n):=by
 obtain⟨p,k,rfl⟩:=parts hb h;unfold eJ pad;rw[fU];exact⟨p,⟨List.replicate k 49,by simp⟩,⟨List.replicate k 48++List.replicate (n-(p++49::List.replicate k 48).length) 48,by simp⟩⟩
noncomputable def jP(ln:Nat->Nat)(a:Option (List Nat))(t:Nat):List Nat:=match a with
 |none=>List.replicate (ln t) 48
 |some v=>dJ v (ln t)
noncomputable def iX(ln:Nat->Nat):Option (List Nat)->List Nat->List (List Nat)
 |_,[]=>[]
 |a,t::r=>jP ln a t::iX ln (some (jP ln a t)) r
theorem wj:∀(order done:List Nat) (a:Option (List Nat)),(order.Pairwise λi j=>ln i<=ln j)->(∀t∈order,ln t<=40)->(∀v,a=some v->gm done v/\∀t∈order,v.length<=ln t)->(a=none->done=[])->Kr.ks 40 (done++order.map ln)<=2^40 ->
  (∀v,a=some v->∀x∈iX ln a order,Dv v x)/\(iX ln a order).Pairwise Dv/\∀(i t:Nat),order[i]?=some t->∃w,(iX ln a order)[i]?=some w/\w.length=ln t
 |[],_,_,_,_,_,_,_=>⟨λ_ _ x hx=>(by cases hx),List.Pairwise.nil,λi t e=>(by cases e)⟩
 |t::r,done,a,hp,h40,ha,hn,hk=>by
  obtain⟨p1,p2⟩:=G_.mp hp;have ht:=h40 t GD;have hk':Kr.ks 40 ((done++[ln t])++r.map ln)<=2^40:=by rw[GV];exact hk
  have fin:∀w:List Nat,w=jP ln a t->gm (done++[ln t]) w->w.length=ln t->(∀v,a=some v->Dv v w) ->
    (∀v,a=some v->∀x∈iX ln a (t::r),Dv v x)/\(iX ln a (t::r)).Pairwise Dv/\∀(i s:Nat),(t::r)[i]?=some s->∃w,(iX ln a (t::r))[i]?=some w/\w.length=ln s:=λw ew hH hl hd=>by
   obtain⟨q1,q2,q3⟩:=wj r (done++[ln t]) (some w) p2 (λx hx=>h40 x (GC _ hx)) (λv e=>by cases e;exact⟨hH,λx hx=>by rw[hl];exact p1 x hx⟩) (λe=>by cases e) hk'
   have es:iX ln a (t::r)=w::iX ln (some w) r:=by rw[ew];rfl
   rw[es];refine⟨λv e x hx=>?_,G_.mpr ⟨λx hx=>q1 w rfl x hx,q2⟩,λi s e=>?_⟩
   ·rcases Gs.mp hx with rfl|hx
    ·exact hd v e
    ·exact (hd v e).trans (q1 w rfl x hx)
   ·cases i with
    |zero=>cases e;exact⟨w,rfl,hl⟩
    |succ i=>exact q3 i s (by simpa using e)
  cases a with
  |none =>
   have:=hn rfl;subst this;exact fin _ rfl (gm.first ht) (show (List.replicate (ln t) 48).length=ln t by rw[GB]) (λv e=>by cases e)
  |some v =>
   obtain⟨hv,hl⟩:=ha v rfl;have hvl:=hl t GD;have hk2:Kr.ks 40 done+2^(40-ln t)<=2^40:=by
    rw[Kr.cH,Kr.cH] at hk';simp[Kr.ks] at hk'
    omega
   have z:=hv.zero (rest:=[]) hk2;have e:=kE hv.bits z hvl;refine fin _ rfl ?_ ?_ ?_
   ·show gm _ (dJ v (ln t));rw[e];exact hv.next hvl ht hk2
   ·show (dJ v (ln t)).length=_;rw[e];exact dN hvl
   ·intro u eu;cases eu;show Dv v (dJ v (ln t));rw[e];exact yn hv.bits z
theorem nU:∀(order:List Nat) (a:Option (List Nat)) (ws:List (List Nat)),order.Nodup->(∀t∈order,t<ws.length)->(∀(i t:Nat),order[i]?=some t->(along dJ ln order (a,ws)).2[t]?=(iX ln a order)[i]?)/\∀t,t∉order->(along dJ ln order (a,ws)).2[t]?=ws[t]?
 |[],_,_,_,_=>⟨λi t e=>(by cases e),λ_ _=>rfl⟩
 |t::r,a,ws,hn,hl=>by
  obtain⟨n1,n2⟩:=IM.mp hn;have ht:=hl t GD;have ea:along dJ ln (t::r) (a,ws)=along dJ ln r (some (jP ln a t),ws.set t (jP ln a t)):=by cases a<;>rfl
  rw[ea];obtain⟨q1,q2⟩:=nU r (some (jP ln a t)) (ws.set t (jP ln a t)) n2 (λx hx=>by rw[HE];exact hl x (GC _ hx))
  refine⟨λi s e=>?_,λs hs=>?_⟩
  ·cases i with
   |zero =>
    cases e;exact (q2 t n1).trans (by rw[IS ht];rfl)
   |succ i=>exact q1 i s (by simpa using e)
  ·have h1:s≠t:=λz=>hs (by rw[z];exact GD)
   have h2:s∉r:=λz=>hs (GC _ z);exact (q2 s h2).trans (by rw[JJ (HB h1)])
noncomputable def Lx(p q:Int×Nat):Prop:=p.1<q.1\/(p.1=q.1/\p.2<q.2)
theorem uE{p:Int×Nat}:∀{l:List (Int×Nat)},l.Pairwise Lx->(∀q∈l,p.2<q.2)->(gM p l).Pairwise Lx
 |[],_,_=>KO _ _
 |q::r,h,hp=>by
  obtain⟨h1,h2⟩:=G_.mp h;have hq:=hp q GD;unfold gM;split
  ·rename_i c;refine G_.mpr ⟨λz hz=>?_,h⟩;have hz2:=hp z hz;have:q.1<=z.1:=by
    rcases Gs.mp hz with rfl|hz
    ·exact Lc _
    ·have:=h1 z hz;unfold Lx at this;omega
   unfold Lx;omega
  ·rename_i c;refine G_.mpr ⟨λz hz=>?_,uE h2 λz hz=>hp z (GC _ hz)⟩;rcases Gs.mp ((fN p r).mem_iff.mp hz) with rfl|hz
   ·unfold Lx;omega
   ·exact h1 z hz
theorem rm:∀{l:List (Int×Nat)},(l.Pairwise λp q=>p.2<q.2)->(dQ l).Pairwise Lx
 |[],_=>.nil
 |p::r,h=>by
  obtain⟨h1,h2⟩:=G_.mp h;exact uE (rm h2) λq hq=>h1 q ((dC r).mem_iff.mp hq)
end Cw
structure Canon (ls:List Int) (W:List (List Nat)):Prop where
 len:W.length=ls.length
 Ez:∀t,t<ls.length->(W.getD t []).length=aT ls t
 part:∀s t,s<ls.length->t<ls.length->(ls.getD s 0<ls.getD t 0\/(ls.getD s 0=ls.getD t 0/\s<t))->Cw.Dv (W.getD s []) (W.getD t [])
theorem kq(ls:List Int):ls.zip (List.range ls.length)=(List.range ls.length).map λt=>(ls.getD t 0,t):=by
 apply ID
 ·simp
 ·intro i h1 h2;simp at h1;simp[h1]
theorem canon(hL:jK ls)(hk:KS ls<=2^40):Canon ls (wordsOf Cw.dJ ls):=by
 have hS:(Cw.Lx · ·)=(Cw.Lx · ·):=rfl;have hlx:(dQ (ls.zip (List.range ls.length))).Pairwise Cw.Lx:=by
  refine Cw.rm ?_;rw[kq];exact Iy.mpr Jv
 have hmem:∀p∈dQ (ls.zip (List.range ls.length)),p.1=ls.getD p.2 0/\p.2<ls.length:=λp hp=>by
  have:=(dC _).mem_iff.mp hp;rw[kq] at this;obtain⟨t,ht,rfl⟩:=HS.mp this;exact⟨rfl,HK.mp ht⟩
 have hord:(aI ls).Pairwise λs t=>ls.getD s 0<ls.getD t 0\/(ls.getD s 0=ls.getD t 0/\s<t):=by
  unfold aI iH;refine Iy.mpr (hlx.imp_of_mem λ{p q} hp hq h=>?_);rw[<- (hmem p hp).1,<- (hmem q hq).1];exact h
 have hperm:(aI ls).Perm (List.range ls.length):=iS (by rw[He])
 have hnd:(aI ls).Nodup:=hperm.nodup_iff.mpr List.nodup_range;have hb:∀t,t<ls.length->1<=ls.getD t 0/\ls.getD t 0<=40:=λt ht=>by
  rw[Gv,Gi ht];have:=hL.2.2 _ (GS ht);show 1<=ls[t]/\ls[t]<=40;lia
 have hmm:∀t∈aI ls,t<ls.length:=λt ht=>gS ht;have hks:Kr.ks 40 ([]++(aI ls).map (aT ls))<=2^40:=by
  rw[HF,Kr.gZ (hperm.map (aT ls))];have e:(List.range ls.length).map (aT ls)=ls.map Int.toNat:=by
   apply ID
   ·simp
   ·intro i h1 h2;simp at h1;simp[aT,h1]
  rw[e];exact hk
 obtain⟨_,q2,q3⟩:=Cw.wj (ln:=aT ls) (aI ls) [] none (hord.imp_of_mem λ{s t} hs ht h=>by
  have:=hb s (hmm s hs);have:=hb t (hmm t ht);unfold aT;omega) (λt ht=>by have:=hb t (hmm t ht);unfold aT;omega) (λv e=>by cases e) (λ_=>rfl) hks
 obtain⟨a1,_⟩:=Cw.nU (ln:=aT ls) (aI ls) none (List.replicate ls.length []) hnd (λt ht=>by rw[GB];exact hmm t ht)
 have hat:∀t,t<ls.length->∃i w,(aI ls)[i]?=some t/\(Cw.iX (aT ls) none (aI ls))[i]?=some w/\w.length=aT ls t/\(wordsOf Cw.dJ ls).getD t []=w:=λt ht=>by
  obtain⟨i,hi⟩:=JG.mp (hperm.mem_iff.mpr (HK.mpr ht));obtain⟨w,hw,hl⟩:=q3 i t hi;refine⟨i,w,hi,hw,hl,?_⟩;unfold wordsOf;rw[Gv,a1 i t hi,hw];rfl
 refine⟨?_,λt ht=>?_,λs t hs ht h=>?_⟩
 ·unfold wordsOf;rw[Cw.fT,GB]
 ·obtain⟨i,w,_,_,hl,e⟩:=hat t ht;rw[e];exact hl
 ·obtain⟨i,w,h1,h2,_,e⟩:=hat s hs;obtain⟨j,v,g1,g2,_,e'⟩:=hat t ht;rw[e,e'];obtain⟨hi,rfl⟩:=Gm.mp h2;obtain⟨hj,rfl⟩:=Gm.mp g2;obtain⟨hi',ei⟩:=Gm.mp h1;obtain⟨hj',ej⟩:=Gm.mp g1;have hij:i<j:=by
   rcases Nat.lt_trichotomy i j with c|c|c
   ·exact c
   ·subst c;have est:s=t:=ei.symm.trans ej;subst est
    exfalso;omega
   ·have:=H_.mp hord j i hj' hi' c;rw[ei,ej] at this
    exfalso;omega
  exact H_.mp q2 i j hi hj hij
noncomputable def dg(n:Int):Nat:=48+(n % 2).toNat
noncomputable def dB:Int->Nat->List Nat->List Nat
 |_,0,acc=>acc
 |n,k+1,acc=>dB (n / 2) k (dg n::acc)
theorem fQ:∀(k:Nat) (n:Int) (acc:List Nat),(dB n k acc).length=k+acc.length
 |0,_,_=>by rw[dB,Lz]
 |k+1,n,acc=>by rw[dB,fQ k,GF];lia
theorem Bb(n:Int):dg n=48\/dg n=49:=by
 unfold dg;have:n % 2=0\/n % 2=1:=by lia
 rcases this with e|e<;>rw[e]
 ·exact .inl rfl
 ·exact .inr rfl
theorem gq:∀(k:Nat) (n:Int) (acc:List Nat),(∀c∈acc,c=48\/c=49)->∀c∈dB n k acc,c=48\/c=49
 |0,_,_,h=>h
 |k+1,n,acc,h=>gq k (n / 2) (dg n::acc) λc hc=>by
  rcases Gs.mp hc with rfl|hc
  ·exact Bb n
  ·exact h c hc
theorem DT(n:Int):bV (Str.ofString "01").cps.toList (n % 2)=some (dg n):=by
 have:n % 2=0\/n % 2=1:=by lia
 unfold dg;rcases this with e|e<;>rw[e]
 ·exact (by decide +kernel)
 ·exact (by decide +kernel)
theorem ee(a b:List Nat):wd a++wd b=wd (a++b):=by
 apply qI;show (a.toArray++b.toArray).toList=_;simp
theorem jH:Str.ofString ""=wd []:=by decide +kernel
noncomputable def fm(n:Nat):Nat:=Builtin.Int.intBits (n:Int)
noncomputable def jE(n:Nat):List Nat:=dB (n:Int) (fm n) []
theorem lJ{n:Nat}(h:n<65536):fm n<17:=by
 unfold fm Builtin.Int.intBits;split
 ·decide
 ·rename_i hz;have h0:n≠0:=λz=>hz (by rw[z];rfl)
  show (n:Int).natAbs.log2+1<17;rw[Int.natAbs_natCast];have:=(Nat.log2_lt (n:=n) (k:=16) h0).mpr (by lia)
  lia
noncomputable def Row.wi:Row->Nat
 |.put _ _=>0
 |.two u _ _=>1+u
 |.one u _=>4+u
 |.jump _=>6
 |.zero _ _=>7
 |.halt=>8
theorem Row.xy(r:Row):r.wi<9:=by
 cases r with
 |two u a b=>exact (by decide:∀u:_root_.Fin 3,1+(u:Nat)<9) u
 |one u b=>exact (by decide:∀u:_root_.Fin 2,4+(u:Nat)<9) u
 |put b n=>exact (by decide:0<9)
 |jump g=>exact (by decide:6<9)
 |zero b g=>exact (by decide:7<9)
 |halt=>exact (by decide:8<9)
inductive Pk where
 |box (b:Nat)|num (n:Nat)|goal (g:Nat)
noncomputable def Pk.kd:Pk->Str
 |.box _=>"box"
 |.num _=>"number"
 |.goal _=>"goal"
noncomputable def Pk.Ok:Pk->Prop
 |.box b=>b<8
 |.num n=>n<65536
 |.goal _=>True
noncomputable def Pk.EY:Pk->List (Nat×Nat)
 |.box b=>[(2,b)]
 |.num n=>[(1,fm n)]
 |.goal _=>[]
noncomputable def Row.wd:Row->Str
 |.put _ _=>"put"
 |.two u _ _=>w2 u
 |.one u _=>w1 u
 |.jump _=>"jump"
 |.zero _ _=>"zero"
 |.halt=>"halt"
noncomputable def Row.gz:Row->List Pk
 |.put b n=>[.box b,.num n]
 |.two _ a b=>[.box a,.box b]
 |.one _ b=>[.box b]
 |.jump g=>[.goal g]
 |.zero b g=>[.box b,.goal g]
 |.halt=>[]
theorem Row.uR{r:Row}{k:Nat}(h:r.Ok k):∀p∈r.gz,p.Ok:=by
 cases r with
 |put b n=>simp only[Row.gz,Gs,GI,Hn];exactλp z=>z.elim (λe=>e ▸ h.1) λe=>e ▸ h.2
 |two u a b=>simp only[Row.gz,Gs,GI,Hn];exactλp z=>z.elim (λe=>e ▸ h.1) λe=>e ▸ h.2
 |one u b=>simp only[Row.gz,Gs,GI,Hn];rintro p rfl;exact h
 |jump g=>simp only[Row.gz,Gs,GI,Hn];rintro p rfl;exact trivial
 |zero b g=>simp only[Row.gz,Gs,GI,Hn];exactλp z=>z.elim (λe=>e ▸ h.1) λe=>e ▸ trivial
 |halt=>simp[Row.gz]
noncomputable def nE(r:Row):List (Nat×Nat):=(0,r.wi)::r.gz.flatMap Pk.EY
noncomputable def bu:List Str:=["put","add","sub","copy","tell","hear","jump","zero","halt"]
theorem E2:∀k,k<9->∀m,m<k->bu[m]?≠bu[k]?:=by decide +kernel
theorem z_(r:Row):bu[r.wi]?=some r.wd/\∀m,m<r.wi->bu[m]?≠some r.wd:=by
 have h1:bu[r.wi]?=some r.wd:=by
  cases r with
  |two u a b=>exact (by decide +kernel:∀u:_root_.Fin 3,bu[1+(u:Nat)]?=some (w2 u)) u
  |one u b=>exact (by decide +kernel:∀u:_root_.Fin 2,bu[4+(u:Nat)]?=some (w1 u)) u
  |put b n=>rfl
  |jump g=>rfl
  |zero b g=>rfl
  |halt=>rfl
 exact⟨h1,λm hm=>by rw[<- h1];exact E2 _ r.xy m hm⟩
theorem rP{b:Nat}(h:b<8):Builtin.Str.occurrences (Str.ofString "abcdefgh") (bU b) 0 (Str.ofString "abcdefgh").length 1=[b]:=by
 rcases AA h with rfl|rfl|rfl|rfl|rfl|rfl|rfl|rfl<;>decide +kernel
noncomputable def dh:List (Str×List Str):=[("put",["box","number"]),("add",["box","box"]),("sub",["box","box"]),("copy",["box","box"]),("tell",["box"]),("hear",["box"]),("jump",["goal"]),("zero",["box","goal"]),("halt",[])]
noncomputable def Ej:List Str:=["a","b","c","d","e","f","g","h"]
theorem BM{b:Nat}(h:b<8):Ej[b]?=some (bU b)/\∀m,m<b->Ej[m]?≠some (bU b):=(by decide +kernel:∀b,b<8->Ej[b]?=some (bU b)/\∀m,m<b->Ej[m]?≠some (bU b)) b h
theorem jg:∀(o:List Nat) (a:Option (List Nat)) (ws:List (List Nat)),(∀t∈o,ln t<=40)->(∀v,a=some v->v.length<=40)->(∀x∈ws,x.length<=40)->∀x∈(Cw.along Cw.dJ ln o (a,ws)).2,x.length<=40
 |[],_,_,_,_,h=>h
 |t::o,a,ws,ho,ha,hw=>by
  have ht:=ho t GD;have h2:=λt h=>ho t (GC _ h)
  cases a with
  |none =>
   refine jg o (some (List.replicate (ln t) 48)) _ h2 (λv e=>by cases e;rw[GB];exact ht) λx hx=>?_
   rcases HG hx with z|z
   ·exact hw x z
   ·rw[z,GB];exact ht
  |some v =>
   have hv:=r8 (ha v rfl) ht;refine jg o (some (Cw.dJ v (ln t))) _ h2 (λv e=>by cases e;exact hv) λx hx=>?_
   rcases HG hx with z|z
   ·exact hw x z
   ·rw[z];exact hv
theorem vf(hL:jK ls):∀x∈wordsOf Cw.dJ ls,x.length<=40:=by
 refine jg _ _ _ (λt ht=>?_) (λv e=>by cases e) λx hx=>by rw[(HJ.mp hx).2];decide
 have h:=gS ht;have:=hL.2.2 _ (GS h);unfold aT;rw[Gv,Gi h];show ls[t].toNat<=40;lia
theorem fP(ls:List Int):(wordsOf Cw.dJ ls).length=ls.length:=(Cw.fT _ _).trans (GB ..)
structure Cd (cd:List (List (List Nat))):Prop where
 ex:∃a b c,cd=[a,b,c]/\a.length=9/\b.length=17/\c.length=8
 le:∀ws∈cd,∀x∈ws,x.length<=40
noncomputable def fb(cd:List (List (List Nat)))(p:Nat×Nat):List Nat:=(cd.getD p.1 []).getD p.2 []
noncomputable def wm:Row->List Nat
 |.put _ n=>(jE n).tail
 |_=>[]
noncomputable def fA(cd:List (List (List Nat)))(r:Row):List Nat:=(nE r).flatMap (fb cd)++wm r
noncomputable def Bk(bk:List (List Int)):Prop:=∃a b c,bk=[a,b,c]/\a.length=9/\b.length=17/\c.length=8/\∀l∈bk,jK l/\m4 l=true
noncomputable def fI(bk:List (List Int)):List (List (List Nat)):=bk.map (wordsOf Cw.dJ)
theorem Bk.cd{bk:List (List Int)}(h:Bk bk):Cd (fI bk):=by
 obtain⟨a,b,c,rfl,h1,h2,h3,h4⟩:=h;refine⟨⟨_,_,_,rfl,by rw[fP,h1],by rw[fP,h2],by rw[fP,h3]⟩,λws hw=>?_⟩
 obtain⟨l,hl,rfl⟩:=HS.mp hw;exact vf (h4 l hl).1
theorem Ct{r:Row}{k:Nat}(h:r.Ok k):∀p∈nE r,(p.1=0/\p.2<9)\/(p.1=1/\p.2<17)\/(p.1=2/\p.2<8):=by
 intro p hp;unfold nE at hp;rcases Gs.mp hp with rfl|hp
 ·exact .inl ⟨rfl,r.xy⟩
 ·obtain⟨q,hq,hp⟩:=List.mem_flatMap.mp hp;have:=Row.uR h q hq
  cases q with
  |box b=>rw[GA.mp hp];exact .inr (.inr ⟨rfl,this⟩)
  |num n=>rw[GA.mp hp];exact .inr (.inl ⟨rfl,lJ this⟩)
  |goal n=>cases hp
theorem Cd.at{cd:List (List (List Nat))}(h:Cd cd){p:Nat×Nat}(hp:(p.1=0/\p.2<9)\/(p.1=1/\p.2<17)\/(p.1=2/\p.2<8)):cd[p.1]?=some (cd.getD p.1 [])/\(cd.getD p.1 [])[p.2]?=some (fb cd p)/\(fb cd p).length<=40:=by
 obtain⟨a,b,c,rfl,h1,h2,h3⟩:=h.ex;have key:∀(l:List (List Nat)) (i:Nat),i<l.length->l[i]?=some (l.getD i [])/\l.getD i []∈l:=λl i hi=>by
  rw[Gv,Gi hi];exact⟨rfl,GS hi⟩
 obtain⟨x,y⟩:=p;rcases hp with ⟨rfl,hy⟩|⟨rfl,hy⟩|⟨rfl,hy⟩
 ·have:=key a y (by rw[h1];exact hy)
  exact⟨rfl,this.1,h.le a (by simp) _ this.2⟩
 ·have:=key b y (by rw[h2];exact hy)
  exact⟨rfl,this.1,h.le b (by simp) _ this.2⟩
 ·have:=key c y (by rw[h3];exact hy)
  exact⟨rfl,this.1,h.le c (by simp) _ this.2⟩
theorem zu(r:Row):(nE r).length<=3:=by cases r<;>simp[nE,Row.gz,Pk.EY]
theorem vw{cd:List (List (List Nat))}{r:Row}{k:Nat}(hC:Cd cd)(h:r.Ok k):((nE r).flatMap (fb cd)).length<=120/\(wm r).length<=16:=by
 refine⟨?_,?_⟩
 ·have:∀l:List (Nat×Nat),(∀p∈l,(fb cd p).length<=40)->(l.flatMap (fb cd)).length<=40*l.length:=λl=>by
   induction l with
   |nil=>exactλ_=>Gp _
   |cons p l ih =>
    intro h;have h1:=h p GD;have h2:=ih λq hq=>h q (GC _ hq);rw[Js,Gk,GF];lia
  have h1:=this (nE r) λp hp=>(hC.at (Ct h p hp)).2.2;have h2:=zu r;lia
 ·cases r with
  |put b n =>
   have:=lJ (n:=n) h.2;show (jE n).tail.length<=16;rw[List.length_tail];unfold jE;rw[fQ];simp only[Hu];lia
  |_=>exact GH _
noncomputable def nZ(l:List Nat):List Int:=l.map λk:Nat=>(k:Int)
theorem ie(l:List Nat):(nZ l).length=l.length:=Gu ..
theorem AO{l:List Nat}(h:Kr.ks 40 l<=2^40):m4 (nZ l)=true:=by
 unfold m4 KS nZ;rw[L0,show (Int.toNat ∘ λk:Nat=>(k:Int))=id from funext λk=>GW k,List.map_id];exact GZ h
structure Pt (l:List Nat):Prop where
 ks:Kr.ks 40 l=2^40
 le:∀x∈l,x+1<=l.length
 one:l=[0]\/∀x∈l,1<=x
theorem Pt.pos{l:List Nat}(h:Pt l):1<=l.length:=by
 cases l with
 |nil=>have:=h.ks;simp[Kr.ks] at this
 |cons=>simp
theorem Pt.next{l l3:List Nat}{a:Nat}(h:Pt l)(ha:a<l.length)(hl:l.length<=17)(hp:l3.Perm ((l[a]+1)::(l[a]+1)::l.eraseIdx a)):Pt l3/\l3.length=l.length+1:=by
 have hpm:(l[a]::l.eraseIdx a).Perm l:=by
  rw[JI]
  conv=>rhs;rw[<- IW a l,<- List.getElem_cons_drop ha]
  exact KC.symm
 have hle:=l.length_eraseIdx_of_lt ha;have hx:=h.le _ (GS ha);have h3:l3.length=l.length+1:=by
  rw[hp.length_eq,GF,GF,hle];lia
 have mem:∀y∈l3,y=l[a]+1\/y∈l.eraseIdx a:=λy hy=>by
  rcases Gs.mp (hp.mem_iff.mp hy) with z|z
  ·exact .inl z
  ·rcases Gs.mp z with z|z
   ·exact .inl z
   ·exact .inr z
 have mem2:∀y∈l.eraseIdx a,y∈l:=λy hy=>hpm.mem_iff.mp (GC _ hy);refine⟨⟨?_,λy hy=>?_,.inr λy hy=>?_⟩,h3⟩
 ·have e1:=Kr.gZ (L:=40) hpm;rw[h.ks,Kr.ks] at e1;rw[Kr.gZ hp,Kr.ks,Kr.ks];have e2:2^(40-l[a])=2*2^(40-(l[a]+1)):=by rw[show 40-l[a]=(40-(l[a]+1))+1 by lia,L8];lia
  lia
 ·rw[h3];rcases mem y hy with rfl|z
  ·lia
  ·have:=h.le y (mem2 y z);lia
 ·rcases mem y hy with rfl|z
  ·lia
  ·rcases h.one with e|e
   ·subst e;have ha0:a=0:=by simpa using ha
    subst ha0;cases z
   ·exact e y (mem2 y z)
theorem xS(l:List α)(n:Nat)(x:α):(hU l n x).length=l.length+1:=by
 unfold hU;rw[Gk,GF,GQ,Hf];lia
theorem mY(l:List α)(n:Nat)(x:α):(hU l n x).Perm (x::l):=by
 unfold hU;refine KC.trans ?_;rw[IW]
theorem vp:∀{l:List Nat} {a z:Nat} (ha:a<l.length),l[a]<=z->Kr.ks 40 (l.set a z)<=Kr.ks 40 l
 |[],_,_,ha,_=>(nomatch ha)
 |x::l,0,z,_,h=>by
  have:2^(40-z)<=2^(40-x):=JT (by decide) (by have:x<=z:=h;lia)
  simp only[List.set_cons_zero,Kr.ks];lia
 |x::l,a+1,z,ha,h=>by
  have:=vp (l:=l) (a:=a) (z:=z) (by simpa using ha) (by simpa using h)
  simp only[List.set_cons_succ,Kr.ks];lia
theorem uY{β:Type}{f:α->β}{o m:List β}(h:o.Perm m):∀l:List α,l.map f=m->∃k:List α,k.map f=o/\k.Perm l:=by
 induction h with
 |nil =>
  intro l e
  cases l with
  |nil=>exact⟨[],rfl,.nil⟩
  |cons=>cases e
 |cons x p ih =>
  intro l e
  cases l with
  |nil=>cases e
  |cons a l =>
   obtain⟨rfl,e2⟩:=List.cons.inj e;obtain⟨k,e3,p3⟩:=ih l e2;exact⟨a::k,by rw[Hd,e3],p3.cons a⟩
 |swap x y l0 =>
  intro l e;rcases l with _|⟨a,_|⟨b,l⟩⟩
  ·cases e
  ·cases e
  ·obtain⟨rfl,e2⟩:=List.cons.inj e;obtain⟨rfl,e3⟩:=List.cons.inj e2;exact⟨b::a::l,by rw[<- e3];rfl,.swap ..⟩
 |trans p q ih1 ih2 =>
  intro l e;obtain⟨k,e1,p1⟩:=ih2 l e;obtain⟨k',e2,p2⟩:=ih1 k e1;exact⟨k',e2,p2.trans p1⟩
theorem yt{p:List Nat}(hp:p.Perm (List.range ls.length))(hr:p.Pairwise (SP.R λi=>ls.getD i 0)):aI ls=p:=by
 have ez:(List.range ls.length).map (λi=>(ls.getD i 0,i))=ls.zip (List.range ls.length):=by
  apply ID
  ·rw[Gu,He,JS,He,KD]
  ·intro i h1 h2;rw[Gu,He] at h1;rw[List.getElem_map,List.getElem_range,List.getElem_zip];simp[h1]
 have e1:p.map (λi=>(ls.getD i 0,i))=dQ (ls.zip (List.range ls.length)):=by
  refine mM ?_ λa=>?_
  ·exact Iy.mpr (hr.imp λh=>h.le)
  ·have fl:∀l:List Nat,atK a (l.map λi=>(ls.getD i 0,i))=(l.filter λi=>decide (ls.getD i 0=a)).map λi=>(ls.getD i 0,i):=λl=>by
    unfold atK;rw[List.filter_map];rfl
   rw[<- ez,fl,fl];congr 1;refine KH (le:=(· < ·)) (λa b _ _ h g=>absurd h (Nat.lt_asymm g)) ?_ (Jv.filter _) (hp.filter _);rw[List.pairwise_filter];refine hr.imp λ{i j} h hi hj=>?_;have hi:=Ht hi;have hj:=Ht hj;rcases h with h|h
   ·exfalso;have h':ls.getD i 0<ls.getD j 0:=h;lia
   ·exact h.2
 unfold aI iH;rw[<- e1,L0];exact List.map_id _
noncomputable def m5(ls:List Int)(i:Nat):Int×Int:=(ls.getD i 0,(i:Int))
theorem sT{out:List (Int×Int)}(hp:out.Perm ((List.range ls.length).map (m5 ls)))(hu:EH out):out=(aI ls).map (m5 ls)/\(aI ls).Pairwise (SP.R λi=>ls.getD i 0):=by
 obtain⟨p,rfl,pp⟩:=uY hp (List.range ls.length) rfl;have hr:p.Pairwise (SP.R λi=>ls.getD i 0):=by
  have nd:p.Nodup:=pp.nodup_iff.mpr List.nodup_range;unfold EH at hu;rw[Iy] at hu;refine (hu.and nd).imp λ{i j} h=>?_;have h1:¬ ((m5 ls j).1<(m5 ls i).1\/((m5 ls j).1=(m5 ls i).1/\(m5 ls j).2<(m5 ls i).2)):=of_decide_eq_false h.1;have h1':¬ (ls.getD j 0<ls.getD i 0\/(ls.getD j 0=ls.getD i 0/\(j:Int)<(i:Int))):=h1;show ls.getD i 0<ls.getD j 0\/(ls.getD i 0=ls.getD j 0/\i<j);have:=h.2;lia
 rw[yt pp hr];exact⟨rfl,hr⟩
theorem C4(h:(aI ls).Pairwise (SP.R λi=>ls.getD i 0)):(aI ls).Pairwise λi j=>aT ls i<=aT ls j:=h.imp λ{i j} h=>by
 have h':ls.getD i 0<=ls.getD j 0:=h.le;unfold aT;lia
theorem sA:∀(k:Nat) (w acc:List Nat),w.length=k->(∀c∈w,c=48\/c=49)->dB (Cw.val w:Int) k acc=w++acc:=by
 intro k
 induction k with
 |zero=>intro w acc h _;rw[KN.mp h];rfl
 |succ k ih =>
  intro w acc h hb;obtain⟨v,c,rfl⟩:∃v c,w=v++[c]:=by
   rcases Lk w with e|⟨v,c,e⟩
   ·rw[e] at h;cases h
   ·exact⟨v,c,by rw[e,List.concat_eq_append]⟩
  have hc:=hb c (by simp)
  have ev:Cw.val (v++[c])=2*Cw.val v+(c-48):=by
   rw[Cw.gE];rcases hc with rfl|rfl
   ·simp[Cw.val];lia
   ·simp[Cw.val];lia
  rw[dB];have e1:((Cw.val (v++[c]):Nat):Int) / 2=(Cw.val v:Int):=by rw[ev];lia
  have e2:dg ((Cw.val (v++[c]):Nat):Int)=c:=by
   unfold dg;rw[ev];rcases hc with rfl|rfl
   ·have:((2*Cw.val v+(48-48):Nat):Int) % 2=0:=by lia
    rw[this];rfl
   ·have:((2*Cw.val v+(49-48):Nat):Int) % 2=1:=by lia
    rw[this];rfl
  rw[e1,e2,ih v (c::acc) (by rw[Gk,IV] at h;lia) (λx hx=>hb x (by simp[hx])),GV]
  rfl
theorem x8(ls:List Int):Kr.ks 40 ((aI ls).map (aT ls))=KS ls:=by
 unfold KS;refine Kr.gZ ?_;have e:ls.map Int.toNat=(List.range ls.length).map (aT ls):=by
  apply ID
  ·simp
  ·intro i h1 h2;have hi:i<ls.length:=by simpa using h1
   simp[aT,hi]
 rw[e];exact (iS (by rw[He])).map _
structure At (ls:List Int) (done todo:List Nat) (a:Option (List Nat)) (n h:Int):Prop where
 all:done++todo=aI ls
 st:(a=none/\done=[]/\n=-1/\h=0)\/∃w,a=some w/\n=(Cw.val w:Int)/\h=(w.length:Int)/\Cw.gm (done.map (aT ls)) w/\∀t∈todo,w.length<=aT ls t
noncomputable def jP(a:Option (List Nat))(l:Nat):List Nat:=match a with|none=>List.replicate l 48|some v=>Cw.eJ v l
theorem At.next{ls:List Int}{todo:List Nat}{a:Option (List Nat)}{n h:Int}{t:Nat}(x:At ls done (t::todo) a n h)(hL:jK ls)(ho:m4 ls=true)(hu:(aI ls).Pairwise λi j=>aT ls i<=aT ls j):
  ∃d:Nat,(aT ls t:Int)-h=d/\d<=aT ls t/\(n+1)*2^d=(Cw.val (jP a (aT ls t)):Int)/\(jP a (aT ls t)).length=aT ls t/\(∀c∈jP a (aT ls t),c=48\/c=49)/\At ls (done++[t]) todo (some (jP a (aT ls t))) (Cw.val (jP a (aT ls t)):Int) (aT ls t:Int):=by
 have hall:(done++[t])++todo=aI ls:=by rw[GV];exact x.all
 have htl:aT ls t<=40:=by
  have h:=gS (ls:=ls) (t:=t) (by rw[<- x.all];simp)
  have:=hL.2.2 _ (GS h);unfold aT;rw[Gv,Gi h];show ls[t].toNat<=40;lia
 have hk:Kr.ks 40 ((done++[t]++todo).map (aT ls))<=2^40:=by rw[hall,x8];exact Ht ho
 rw[GU,GU,Kr.cH,Kr.cH] at hk;have hle:∀u∈todo,aT ls t<=aT ls u:=λu hu'=>by
  rw[<- x.all] at hu;exact (G_.mp (HA.mp hu).2.1).1 u hu'
 rcases x.st with ⟨rfl,rfl,rfl,rfl⟩|⟨w,rfl,rfl,rfl,hH,hw⟩
 ·refine⟨aT ls t,by lia,Gp _,?_,GB ..,λc hc=>.inl (HJ.mp hc).2,hall,.inr ⟨_,rfl,rfl,by rw[show jP none (aT ls t)=List.replicate (aT ls t) 48 from rfl,GB],Cw.gm.first htl,λu hu'=>by rw[show jP none (aT ls t)=List.replicate (aT ls t) 48 from rfl,GB];exact hle u hu'⟩⟩
  rw[show jP none (aT ls t)=List.replicate (aT ls t) 48 from rfl,Cw.eG];simp
 ·have hwt:=hw t GD;have hk2:Kr.ks 40 (done.map (aT ls))+2^(40-aT ls t)<=2^40:=by
   simp only[Hd,JL,Kr.ks] at hk;lia
  have hz:=hH.zero (rest:=[]) hk2;have hN:=hH.next hwt htl hk2;refine⟨aT ls t-w.length,by lia,Nat.sub_le _ _,?_,Cw.dN hwt,Cw.ko hH.bits,hall,.inr ⟨_,rfl,rfl,by rw[show jP (some w) (aT ls t)=Cw.eJ w (aT ls t) from rfl,Cw.dN hwt],by rw[GU];exact hN,λu hu'=>by rw[show jP (some w) (aT ls t)=Cw.eJ w (aT ls t) from rfl,Cw.dN hwt];exact hle u hu'⟩⟩
  rw[show jP (some w) (aT ls t)=Cw.eJ w (aT ls t) from rfl,Cw.nT hH.bits hz];simp
theorem xg(n:Nat):∀c∈jE n,c=48\/c=49:=gq _ _ _ λc hc=>by cases hc
theorem ym(n:Nat):(jE n).length=fm n:=by unfold jE;rw[fQ];rfl
inductive Kd where
 |box|num|go
noncomputable def Kd.s:Kd->Str
 |.box=>Str.ofString "box"
 |.num=>Str.ofString "number"
 |.go=>Str.ofString "goal"
inductive PV where
 |box (b:Nat)|num (n:Nat)|go (d:Int)
noncomputable def sL(cd:List (List (List Nat)))(z:List Nat)(p:Nat):Kd->Option (PV×Nat)
 |.box=>(hG (cd.getD 2 []) z p).map λx=>(.box x.1,x.2)
 |.num=>(u5 (cd.getD 1 []) z p).map λx=>(.num x.1,x.2)
 |.go=>(gA z p).map λx=>(.go x.1,x.2)
structure xB (cd:List (List (List Nat))):Prop where
 g9:Cd cd
 pf:∀w∈cd,Pf w
noncomputable def uK(i:Nat):List Kd:=[[Kd.box,.num],[.box,.box],[.box,.box],[.box,.box],[.box],[.box],[.go],[.box,.go],[]].getD i []
noncomputable def i3(cd:List (List (List Nat)))(z:List Nat):List Kd->Nat->Option (List (PV×Nat)×Nat)
 |[],p=>some ([],p)
 |k::ks,p=>(sL cd z p k).bind λx=>(i3 cd z ks x.2).map λy=>(x::y.1,y.2)
structure RW where
 wi:Nat
 vs:List (PV×Nat)
noncomputable def Cu(cd:List (List (List Nat)))(z:List Nat)(p:Nat):Option (RW×Nat):=(hG (cd.getD 0 []) z p).bind λx=>(i3 cd z (uK x.1) x.2).map λy=>(⟨x.1,y.1⟩,y.2)
noncomputable def jD(cd:List (List (List Nat)))(z:List Nat)(p:Int):Option (RW×Nat):=if p<0 then none else Cu cd z p.toNat
theorem rh(cd:List (List (List Nat)))(z:List Nat)(p:Nat):jD cd z (p:Int)=Cu cd z p:=by
 unfold jD;rw[Gj (by lia),GW]
theorem yu(h:i<9):KTD.datumAt (bu.getD i (Str.ofString "")) dh=some ((uK i).map Kd.s):=by
 have:i=0\/i=1\/i=2\/i=3\/i=4\/i=5\/i=6\/i=7\/i=8:=by lia
 rcases this with rfl|rfl|rfl|rfl|rfl|rfl|rfl|rfl|rfl<;>decide +kernel
theorem uD(h:wd a=wd b):a=b:=Hj (λs:Str=>s.cps.toList) h
theorem Pf.nd(h:Pf ws):ws.Nodup:=by
 unfold List.Nodup;rw[H_];intro i j hi hj hij e;exact h.pre i j hi hj (GG hij) (by rw[e];exact List.prefix_refl _)
theorem sJ(a:List Nat)(c:Nat):eB (a++[c])=eB a*2+(c-48):=by
 unfold eB;rw[List.foldl_append];rfl
theorem C_{c:Nat}(h:c=48\/c=49):Builtin.Str.occurrences (Str.ofString "01") ⟨#[c]⟩ 0 (Str.ofString "01").length 1=[c-48]:=by
 rcases h with rfl|rfl<;>decide +kernel
theorem iN(z:List Nat)(a b:Nat)(h:a<=b):Y.fF (wd z) (some (a:Int)) (some (b:Int))=wd ((z.drop a).take (b-a)):=by
 unfold Y.fF wd;congr 2;show Y.jt z (some (a:Int)) (some (b:Int))=_;unfold Y.jt;rw[HT.dX,HT.dX];rcases Nat.le_total z.length a with c|c
 ·rw[KI c,KI (Gr c h),Je,List.drop_of_length_le c,List.take_nil,List.take_nil]
 ·rw[JW c];rcases Nat.le_total z.length b with d|d
  ·rw[KI d,Hs (by rw[Hf];exact Gp _),Hs (by rw[Hf];lia)]
  ·rw[JW d]
theorem pre_take{y:List Nat}:y <+: z ↔ z.take y.length=y:=by
 rw[Jp];exact eq_comm
theorem find3{n:Nat}(h:n<3):(List.range' n (3-n)).find? (λi=>decide (m3.getD i [] <+: z.drop p))=if cE n <+: z.drop p then some n else (List.range' (n+1) (3-(n+1))).find? λi=>decide (m3.getD i [] <+: z.drop p):=by
 rw[show 3-n=(3-(n+1))+1 by lia,IA,Ib,vx h]
 by_cases c:cE n <+: z.drop p
 ·rw[GZ c,Gn c]
 ·rw[GJ c,Gj c]
noncomputable def PV.n:PV->Int
 |.box b=>(b:Int)
 |.num n=>(n:Int)
 |.go d=>d
noncomputable def Kd.c:Kd->Nat
 |.box=>98
 |.num=>110
 |.go=>103
structure EW (cd:List (List (List Nat))):Prop extends xB cd where
 BQ:∀ws∈cd,∀w∈ws,w.length<=20
theorem v_{x:Nat×Nat}(hne:∀w∈ws,w≠[])(h:u5 ws z p=some x):p<x.2/\x.2<=z.length:=by
 unfold u5 at h
 cases c:hG ws z p with
 |none=>rw[c] at h;cases h
 |some y =>
  rw[c] at h;obtain⟨_,_,h3,h4⟩:=eA hne c;dsimp only at h
  split at h
  ·cases h;exact⟨h3,h4⟩
  ·split at h
   ·rename_i hl;cases h;exact⟨by show p<y.2+_;lia,hl⟩
   ·cases h
theorem Ao{x:Int×Nat}(h:gA z p=some x):p<x.2/\x.2<=z.length:=by
 unfold gA at h
 cases c:hG m3 z p with
 |none=>rw[c] at h;cases h
 |some y =>
  rw[c] at h;obtain⟨_,_,h3,h4⟩:=eA p8 c;dsimp only at h
  split at h
  ·rename_i hl;cases h;exact⟨by show p<y.2+_;lia,hl⟩
  ·cases h
theorem lX{cd:List (List (List Nat))}{k:Kd}{x:PV×Nat}(hR:xB cd)(h:sL cd z p k=some x):p<x.2/\x.2<=z.length/\(∀b,x.1=.box b->b<8):=by
 obtain⟨c0,c1,c2,rfl,l0,l1,l2⟩:=hR.g9.ex;have n1:=(hR.pf c1 (by simp)).ne
 have n2:=(hR.pf c2 (by simp)).ne
 cases k with
 |box =>
  replace h:(hG c2 z p).map (λx=>(PV.box x.1,x.2))=some x:=h
  cases c:hG c2 z p with
  |none=>rw[c] at h;cases h
  |some y=>rw[c] at h;cases h;obtain⟨h1,_,h3,h4⟩:=eA n2 c;exact⟨h3,h4,λb e=>by cases e;lia⟩
 |num =>
  replace h:(u5 c1 z p).map (λx=>(PV.num x.1,x.2))=some x:=h
  cases c:u5 c1 z p with
  |none=>rw[c] at h;cases h
  |some y=>rw[c] at h;cases h;exact⟨(v_ n1 c).1,(v_ n1 c).2,λb e=>by cases e⟩
 |go =>
  replace h:(gA z p).map (λx=>(PV.go x.1,x.2))=some x:=h
  cases c:gA z p with
  |none=>rw[c] at h;cases h
  |some y=>rw[c] at h;cases h;exact⟨(Ao c).1,(Ao c).2,λb e=>by cases e⟩
theorem dw.app{x y:List Nat}(hx:dw x)(hy:dw y):dw (x++y):=λc hc=>(Hm.mp hc).elim (hx c) (hy c)
theorem dw.rep(n:Nat){v:Nat}(h:v=48\/v=49):dw (List.replicate n v):=λc hc=>by rw[(HJ.mp hc).2];exact h
theorem zh{w:List Nat}{n:Nat}(h:dw w):dw (Cw.dJ w n):=by
 unfold Cw.dJ Cw.pad;refine dw.app (dw.app (λc hc=>h c ?_) λc hc=>.inr (GA.mp hc)) (dw.rep _ (.inl rfl));have h1:=Ik.mp (List.dropLast_subset _ hc);exact Ik.mp ((Jw _).subset h1)
theorem tQ{o:List Nat}:∀{a:Option (List Nat)} {ws:List (List Nat)},(∀v,a=some v->dw v)->(∀x∈ws,dw x)->∀x∈(Cw.along Cw.dJ ln o (a,ws)).2,dw x:=by
 induction o with
 |nil=>exactλ_ h=>h
 |cons t o ih =>
  intro a ws ha hw
  cases a with
  |none =>
   refine ih (a:=some (List.replicate (ln t) 48)) (λv e=>by cases e;exact dw.rep _ (.inl rfl)) λx hx=>?_
   rcases HG hx with z|z
   ·exact hw x z
   ·rw[z];exact dw.rep _ (.inl rfl)
  |some v =>
   have hv:=zh (n:=ln t) (ha v rfl);refine ih (a:=some (Cw.dJ v (ln t))) (λv e=>by cases e;exact hv) λx hx=>?_
   rcases HG hx with z|z
   ·exact hw x z
   ·rw[z];exact hv
theorem tN(ls:List Int):∀x∈wordsOf Cw.dJ ls,dw x:=tQ (λv e=>by cases e) λx hx=>by rw[(HJ.mp hx).2];exactλc hc=>by cases hc
theorem m6{cd:List (List (List Nat))}(h:∀ws∈cd,∀w∈ws,dw w)(r:Row):dw (fA cd r):=by
 have at2:∀p,dw (fb cd p):=λp=>by
  unfold fb;rw[Gv,Gv]
  cases e:cd[p.1]? with
  |none=>exactλc hc=>by cases hc
  |some ws =>
   show dw (ws[p.2]?.getD [])
   cases e2:ws[p.2]? with
   |none=>exactλc hc=>by cases hc
   |some w=>exact h ws (Hx e) w (Hx e2)
 unfold fA;refine dw.app (λc hc=>?_) ?_
 ·obtain⟨p,_,hp⟩:=List.mem_flatMap.mp hc;exact at2 p c hp
 ·cases r with
  |put b n=>exactλc hc=>xg n c (List.mem_of_mem_tail hc)
  |two=>exactλc hc=>by cases hc
  |one=>exactλc hc=>by cases hc
  |jump=>exactλc hc=>by cases hc
  |zero=>exactλc hc=>by cases hc
  |halt=>exactλc hc=>by cases hc
theorem Cr(bk:List (List Int)):∀ws∈fI bk,∀w∈ws,dw w:=λws hw=>by
 obtain⟨l,_,rfl⟩:=HS.mp hw;exact tN l
theorem mQ{cd:List (List (List Nat))}(hC:Cd cd){r:Row}{k:Nat}(hr:r.Ok k):(fA cd r).length<=136:=by
 have:=vw hC hr;unfold fA;rw[Gk];lia
inductive bC where
 |put (b n:Nat)|two (w:Fin 3) (a b:Nat)|one (w:Fin 2) (b:Nat)|jump (g:Int)|zero (b:Nat) (g:Int)|halt
inductive zy where
 |s (z:Str)|n (k:Int)
noncomputable def bC.ps:bC->List zy
 |.put b n=>[.s "put",.s (bU b),.n (n:Nat)]
 |.two w a b=>[.s (w2 w),.s (bU a),.s (bU b)]
 |.one w b=>[.s (w1 w),.s (bU b)]
 |.jump g=>[.s "jump",.n g]
 |.zero b g=>[.s "zero",.s (bU b),.n g]
 |.halt=>[.s "halt"]
noncomputable def bC.Ok:bC->Prop
 |.put b _=>b<8
 |.two _ a b=>a<8/\b<8
 |.one _ b=>b<8
 |.jump _=>True
 |.zero b _=>b<8
 |.halt=>True
noncomputable def bC.rel(e:Int):bC->bC
 |.jump g=>.jump (g-e)
 |.zero b g=>.zero b (g-e)
 |r=>r
noncomputable def tX(x:RW×Nat):bC:=match x.1.vs with
 |[(.box b,_)]=>.one (if x.1.wi=4 then 0 else 1) b
 |[(.go d,e)]=>.jump ((e:Int)+d)
 |[(.box a,_),(.box b,_)]=>.two (if x.1.wi=1 then 0 else if x.1.wi=2 then 1 else 2) a b
 |[(.box b,_),(.num n,_)]=>.put b n
 |[(.box b,_),(.go d,e)]=>.zero b ((e:Int)+d)
 |_=>.halt
theorem E7{cd:List (List (List Nat))}{k:Kd}{y:List (PV×Nat)×Nat}(h:i3 cd z [k] p=some y):∃x,sL cd z p k=some x/\y=([x],x.2):=by
 obtain⟨x,hx,h⟩:=IK.mp h;cases h;exact⟨x,hx,rfl⟩
theorem E3{cd:List (List (List Nat))}{k l:Kd}{y:List (PV×Nat)×Nat}(h:i3 cd z [k,l] p=some y):∃x x',sL cd z p k=some x/\sL cd z x.2 l=some x'/\y=([x,x'],x'.2):=by
 obtain⟨x,hx,h⟩:=IK.mp h;obtain⟨y',hy,rfl⟩:=GO.mp h;obtain⟨x',hx',rfl⟩:=E7 hy;exact⟨x,x',hx,hx',rfl⟩
theorem e8{cd:List (List (List Nat))}{x:PV×Nat}(hR:xB cd)(h:sL cd z p .box=some x):∃b e,x=(.box b,e)/\b<8:=by
 have h8:=(lX hR h).2.2;obtain⟨v,_,rfl⟩:=GO.mp h;exact⟨_,_,rfl,h8 _ rfl⟩
theorem Be{cd:List (List (List Nat))}{x:PV×Nat}(h:sL cd z p .num=some x):∃n e,x=(.num n,e):=by
 obtain⟨v,_,rfl⟩:=GO.mp h;exact⟨_,_,rfl⟩
theorem Av{cd:List (List (List Nat))}{x:PV×Nat}(h:sL cd z p .go=some x):∃d e,x=(.go d,e):=by
 obtain⟨v,_,rfl⟩:=GO.mp h;exact⟨_,_,rfl⟩
theorem BC{cd:List (List (List Nat))}{ks:List Kd}{y:List (PV×Nat)×Nat}(hR:xB cd)(h:i3 cd z ks p=some y):p<=y.2/\(p<=z.length->y.2<=z.length):=by
 induction ks generalizing p y with
 |nil=>cases h;exact⟨Gp _,id⟩
 |cons k ks ih =>
  rw[i3] at h;obtain⟨x,hx,h⟩:=IK.mp h;obtain⟨y',hy,rfl⟩:=GO.mp h;obtain⟨i1,i2⟩:=ih hy;obtain⟨j1,j2,_⟩:=lX hR hx;exact⟨by show p<=y'.2;lia,λ_=>i2 j2⟩
theorem v7(hL:jK ls)(ho:m4 ls=true):Pf (wordsOf Cw.dJ ls):=by
 have hc:=canon hL (Ht ho);have hg:∀(i:Nat) (h:i<(wordsOf Cw.dJ ls).length),(wordsOf Cw.dJ ls)[i]=(wordsOf Cw.dJ ls).getD i []:=λi h=>by
  rw[Gv,Gi h];rfl
 refine⟨λw hw e=>?_,λi j hi hj hne hp=>?_⟩
 ·obtain⟨i,hi,rfl⟩:=Jf.mp hw;have hi':i<ls.length:=by rw[<- hc.len];exact hi
  have h1:=hc.Ez i hi';rw[<- hg i hi,e,Hu] at h1;unfold aT at h1;rw[Gv,Gi hi'] at h1;have h2:=hL.2.2 _ (GS hi');have h1':0=(ls[i]).toNat:=h1;lia
 ·have hi':i<ls.length:=by rw[<- hc.len];exact hi
  have hj':j<ls.length:=by rw[<- hc.len];exact hj
  rw[hg i hi,hg j hj] at hp;have:(ls.getD i 0<ls.getD j 0\/(ls.getD i 0=ls.getD j 0/\i<j))\/(ls.getD j 0<ls.getD i 0\/(ls.getD j 0=ls.getD i 0/\j<i)):=by lia
  rcases this with h|h
  ·exact (hc.part i j hi' hj' h).not.1 hp
  ·exact (hc.part j i hj' hi' h).not.2 hp
theorem xR{bk:List (List Int)}(h:Bk bk):∀ws∈fI bk,Pf ws:=λws hw=>by
 obtain⟨l,hl,rfl⟩:=HS.mp hw;obtain⟨a,b,c,e,_,_,_,h4⟩:=h;exact v7 (h4 l hl).1 (h4 l hl).2
theorem uC{bk:List (List Int)}(h:Bk bk):EW (fI bk):=by
 refine⟨⟨h.cd,xR h⟩,λws hw w hw2=>?_⟩;obtain⟨l,hl,rfl⟩:=HS.mp hw;obtain⟨a,b,c,e,_,_,_,h4⟩:=h;have hc:=canon (h4 l hl).1 (Ht (h4 l hl).2);obtain⟨i,hi,rfl⟩:=Jf.mp hw2;have hi':i<l.length:=by rw[<- hc.len];exact hi
 have h1:=hc.Ez i hi';rw[Gv,Gi hi] at h1;unfold aT at h1;rw[Gv,Gi hi'] at h1;have h2:=(h4 l hl).1.2.2 _ (GS hi');have h3:((wordsOf Cw.dJ l)[i]).length=(l[i]).toNat:=h1;lia
noncomputable def EG.v:EG->V
 |.s z=>.str z
 |.n k=>.int (k:Nat)
noncomputable def Row.vs(r:Row):List V:=r.ps.map EG.v
noncomputable def Pk.v:Pk->V
 |.box b=>.str (bU b)
 |.num n=>.int (n:Nat)
 |.goal g=>.int (g:Nat)
theorem Row.Es(r:Row):r.vs=.str r.wd::r.gz.map Pk.v:=by cases r<;>rfl
noncomputable def PV.v(behind:Nat):PV->V
 |.box b=>.str (bU b)
 |.num n=>.int (n:Int)
 |.go d=>.int ((behind:Int)+d)
noncomputable def PV.l:PV->V
 |.box b=>.str (bU b)
 |.num n=>.int (n:Int)
 |.go d=>.int d
noncomputable def RW.v(r:RW):List V:=.str (bu.getD r.wi (Str.ofString ""))::r.vs.map λx=>x.1.v x.2
noncomputable def RW.l(r:RW):List V:=.str (bu.getD r.wi (Str.ofString ""))::r.vs.map λx=>x.1.l
noncomputable def zy.v:zy->V
 |.s z=>.str z
 |.n k=>.int k
noncomputable def bC.vs(r:bC):List V:=r.ps.map zy.v
theorem AR{cd:List (List (List Nat))}{x:RW×Nat}(hR:xB cd)(h:Cu cd z p=some x):(tX x).Ok/\x.1.v=(tX x).vs/\x.1.l=((tX x).rel x.2).vs/\p<x.2/\x.2<=z.length:=by
 obtain⟨c0,c1,c2,rfl,l0,l1,l2⟩:=hR.g9.ex;obtain⟨v,hv,h⟩:=IK.mp h;obtain⟨y,hy,rfl⟩:=GO.mp h;obtain⟨w1,_,w3,w4⟩:=eA (hR.pf c0 (by simp)).ne hv
 obtain⟨i1,i2⟩:=BC hR hy;obtain⟨wi,e⟩:=v;dsimp only at *;refine and_assoc.mp (and_assoc.mp ⟨?_,by show p<y.2;lia,i2 w4⟩)
 have far:∀(e:Nat) (d:Int),(e:Int)+d-(e:Int)=d:=λe d=>by lia
 have:wi=0\/wi=1\/wi=2\/wi=3\/wi=4\/wi=5\/wi=6\/wi=7\/wi=8:=by lia
 rcases this with rfl|rfl|rfl|rfl|rfl|rfl|rfl|rfl|rfl
 ·obtain⟨x,x',hx,hx',rfl⟩:=E3 hy;obtain⟨b,e,rfl,hb⟩:=e8 hR hx;obtain⟨n,e',rfl⟩:=Be hx';exact⟨⟨hb,rfl⟩,rfl⟩
 ·obtain⟨x,x',hx,hx',rfl⟩:=E3 hy;obtain⟨b,e,rfl,hb⟩:=e8 hR hx;obtain⟨n,e',rfl,hb'⟩:=e8 hR hx';exact⟨⟨⟨hb,hb'⟩,rfl⟩,rfl⟩
 ·obtain⟨x,x',hx,hx',rfl⟩:=E3 hy;obtain⟨b,e,rfl,hb⟩:=e8 hR hx;obtain⟨n,e',rfl,hb'⟩:=e8 hR hx';exact⟨⟨⟨hb,hb'⟩,rfl⟩,rfl⟩
 ·obtain⟨x,x',hx,hx',rfl⟩:=E3 hy;obtain⟨b,e,rfl,hb⟩:=e8 hR hx;obtain⟨n,e',rfl,hb'⟩:=e8 hR hx';exact⟨⟨⟨hb,hb'⟩,rfl⟩,rfl⟩
 ·obtain⟨x,hx,rfl⟩:=E7 hy;obtain⟨b,e,rfl,hb⟩:=e8 hR hx;exact⟨⟨hb,rfl⟩,rfl⟩
 ·obtain⟨x,hx,rfl⟩:=E7 hy;obtain⟨b,e,rfl,hb⟩:=e8 hR hx;exact⟨⟨hb,rfl⟩,rfl⟩
 ·obtain⟨x,hx,rfl⟩:=E7 hy;obtain⟨d,e,rfl⟩:=Av hx;refine⟨⟨trivial,rfl⟩,?_⟩;show [_,V.int d]=[_,.int ((e:Int)+d-(e:Int))];rw[far];rfl
 ·obtain⟨x,x',hx,hx',rfl⟩:=E3 hy;obtain⟨b,e,rfl,hb⟩:=e8 hR hx;obtain⟨d,e',rfl⟩:=Av hx';refine⟨⟨hb,rfl⟩,?_⟩;show [_,_,V.int d]=[_,_,.int ((e':Int)+d-(e':Int))];rw[far];rfl
 ·cases hy;exact⟨⟨trivial,rfl⟩,rfl⟩
noncomputable def tV(H:Hp)(ca:Addr)(cd:List (List (List Nat))):Prop:=∃a0 a1 a2,H ca=some (.lst [.ref a0,.ref a1,.ref a2])/\H a0=some (.tup (wV (cd.getD 0 [])))/\H a1=some (.tup (wV (cd.getD 1 [])))/\H a2=some (.tup (wV (cd.getD 2 [])))
theorem tV.keep{ca:Addr}{cd:List (List (List Nat))}(h:tV H ca cd)(k:KB ex H H')(n:ca∉ex)(hx:∀b∈ex,∀xs,H b≠some (.tup xs)):tV H' ca cd:=by
 obtain⟨a0,a1,a2,h1,h2,h3,h4⟩:=h;exact⟨a0,a1,a2,k _ _ h1 n,k _ _ h2 λz=>hx _ z _ h2,k _ _ h3 λz=>hx _ z _ h3,k _ _ h4 λz=>hx _ z _ h4⟩
theorem tV.kb{ca:Addr}{cd:List (List (List Nat))}(h:tV H ca cd)(k:KB [] H H'):tV H' ca cd:=h.keep k (by simp) (by simp)
noncomputable def EN(H:Hp)(v:V):Option (PV×Nat)->Prop
 |none=>v=.aP
 |some x=>∃t,v=.ref t/\H t=some (.tup [x.1.v x.2,.int (x.2:Nat)])
theorem DK{b:Nat}(h:b<8):bV [V.str "a",.str "b",.str "c",.str "d",.str "e",.str "f",.str "g",.str "h"] (b:Int)=some (.str (bU b)):=by
 show bV (Ej.map V.str) (b:Int)=_;exact bM (by rw[G0,(BM h).1];rfl)
noncomputable def mJ(K:LA):Sp:=λvs H Q _=>∃(ca:Addr) (cd:List (List (List Nat))) (z:List Nat) (p:Nat) (k:Kd),vs=[.str k.s,.ref ca,.str (wd z),.int (p:Nat)]/\tV H ca cd/\xB cd/\dw z/\z.length<=1000000/\∀v H',KB [] H H'->EN H' v (sL cd z p k)->Q v H'
theorem sj(T:Txt K mg)(F:HasFn K mg "part_at" fS ["kind","codes","bits","place"])(hcoded_at:aq P w K mg base bc 2 "coded_at" ["code","bits","place"] (gX K))(hnumber_at:aq P w K mg base bc 3 "number_at" ["code","bits","place"] (qZ K))(hgoal_at:aq P w K mg base bc 3 "goal_at" ["bits","place"] (oA K)):aq P w K mg base bc 4 "part_at" ["kind","codes","bits","place"] (mJ K):=by
 obtain⟨u1,hg_OF_CLASSES,hr_OF_CLASSES⟩:=T.lp;obtain⟨u2,hg_OF_BOXES,hr_OF_BOXES⟩:=T.p7;obtain⟨aB,hg_BOXES,sB⟩:=T.lI;have hr_BOXES:RelV (.ref aB) (.ref aB):=rfl;refine F.fW iY (λvs H Q E h=>?_) (λf cdv A outer s H vs Q E hr h=>?_)
 ·obtain⟨ca,cd,z,p,k,rfl,_⟩:=h;rfl
 ·have hu:=a_ hr;obtain⟨ca,cd,z,p,k,rfl,hc,hR,hb,hz,q⟩:=h;refine⟨_,(Z.ag (Z.cG (Z.aS aQ (Z.v 0) Z.str) (Z.ar (Z.ret (Z.fn hnumber_at (hr.mono (by decide)) rfl aA (Z.cons (Z.ix (Z.ay K rfl hu) (Z.v 1) (Z.glob rfl hg_OF_CLASSES hr_OF_CLASSES)) (Z.cons (Z.v 2) (Z.cons (Z.v 3) Z.nil)))))) Z.bp)
   (Z.ag (Z.cG (Z.aS aQ (Z.v 0) Z.str) (Z.ar (Z.ret (Z.fn hgoal_at (hr.mono (by decide)) rfl aA (Z.cons (Z.v 2) (Z.cons (Z.v 3) Z.nil))))) Z.bp)
   (Z.ag (Z.set (i:=4) iY.nd rfl (by right) (Z.fn hcoded_at (hr.mono (by decide)) rfl aA (Z.cons (Z.ix (Z.ay K rfl hu) (Z.v 1) (Z.glob rfl hg_OF_BOXES hr_OF_BOXES)) (Z.cons (Z.v 2) (Z.cons (Z.v 3) Z.nil)))))
   (Z.ar (Z.ret (Z.CN (Z.aS cF (Z.v 4) Z.aP) Z.aP (Z.tup (Z.cons (Z.ix (Z.nq K rfl) (Z.glob rfl hg_BOXES hr_BOXES) (Z.ix (Z.ay K rfl hu) (Z.v 4) Z.int)) (Z.cons (Z.ix (Z.ay K rfl hu) (Z.v 4) Z.int) Z.nil))))))))),?_⟩
  obtain⟨c0,c1,c2,rfl,l0,l1,l2⟩:=hR.g9.ex;have n1:=(hR.pf c1 (by simp)).ne
  have n2:=(hR.pf c2 (by simp)).ne
  obtain⟨a0,a1,a2,g,g0,g1,g2⟩:=hc;have sg:=aC g;refine ao λN hN=>?_
  cases k with
  |box =>
   replace q:∀v H',KB [] H H'->EN H' v ((hG c2 z p).map λx=>(.box x.1,x.2))->Q v H':=q
   exists Gj (by decide +kernel:¬ Kd.s .box=Str.ofString "number")
   rw[hN];clear hN N;refine ao λN hN=>?_;exists Gj (by decide +kernel:¬ Kd.s .box=Str.ofString "goal")
   rw[hN];clear hN N;refine ao λN hN=>?_;exists sg;refine⟨a2,c2,z,p,rfl,bz.of g2,n2,by lia,hz,λv H1 k1 o1=>?_⟩
   rw[hN];clear hN N
   cases c:hG c2 z p with
   |none =>
    rw[c] at q o1;obtain rfl:v=.aP:=o1;walk_at "rz";exact q _ _ k1 rfl
   |some x =>
    rw[c] at q o1;have hb:=(eA n2 c).1;obtain⟨t,rfl,ht⟩:=o1;exists Gj (show ¬ V.ref t=V.aP from V.noConfusion),aH ht;refine⟨aB,_,_,_,rfl,rfl,sB H1,DK (show x.1<8 by lia),?_⟩
    exists aH ht;exact⟨by decide,λb2 hb2=>q _ _ (k1.trans (KB.new hb2)) ⟨b2,rfl,aa⟩⟩
  |num =>
   replace q:∀v H',KB [] H H'->EN H' v ((u5 c1 z p).map λx=>(.num x.1,x.2))->Q v H':=q
   exists Gn (show Kd.s .num=Str.ofString "number" from rfl),sg;refine⟨a1,c1,z,p,rfl,bz.of g1,n1,by lia,hb,hz,λv H1 k1 o1=>q v H1 k1 ?_⟩
   cases c:u5 c1 z p with
   |none=>rw[c] at o1;exact o1
   |some x=>rw[c] at o1;exact o1
  |go =>
   replace q:∀v H',KB [] H H'->EN H' v ((gA z p).map λx=>(.go x.1,x.2))->Q v H':=q
   exists Gj (by decide +kernel:¬ Kd.s .go=Str.ofString "number")
   rw[hN];clear hN N;refine ao λN hN=>?_;exists Gn (show Kd.s .go=Str.ofString "goal" from rfl);refine⟨z,p,rfl,hb,hz,λv H1 k1 o1=>q v H1 k1 ?_⟩
   cases c:gA z p with
   |none=>rw[c] at o1;exact o1
   |some x=>rw[c] at o1;exact o1
noncomputable def DZ(H:Hp)(v:V):Option (RW×Nat)->Prop
 |none=>v=.aP
 |some x=>∃t r,v=.ref t/\H t=some (.tup [.ref r,.int (x.2:Nat)])/\H r=some (.tup x.1.v)
noncomputable def qo(K:LA):Sp:=λvs H Q _=>∃(ca:Addr) (cd:List (List (List Nat))) (z:List Nat) (p:Int),vs=[.ref ca,.str (wd z),.int p]/\tV H ca cd/\xB cd/\dw z/\z.length<=1000000/\∀v H',KB [] H H'->DZ H' v (jD cd z p)->Q v H'
noncomputable def dF:=dh
theorem uU(T:Txt K mg)(F:HasFn K mg "row_at" gU ["codes","bits","place"])(hcoded_at:aq P w K mg base bc 2 "coded_at" ["code","bits","place"] (gX K))(hpart_at:aq P w K mg base bc 4 "part_at" ["kind","codes","bits","place"] (mJ K)):aq P w K mg base bc 5 "row_at" ["codes","bits","place"] (qo K):=by
 obtain⟨u1,hg_OF_WORDS,hr_OF_WORDS⟩:=T.pX;obtain⟨dS,hg_SHAPES,hd0⟩:=T.mO;have hd_SHAPES:jV K dS dF:=hd0;have hr_SHAPES:RelV (.ref dS) (.ref dS):=rfl;clear hd0;refine F.fW cI (λvs H Q E h=>?_) (λf cdv A outer s H vs Q E hr h=>?_)
 ·obtain⟨ca,cd,z,p,rfl,_⟩:=h;rfl
 ·have hu:=a_ hr;obtain⟨ca,cd,z,p,rfl,hc,hR,hb,hz,q⟩:=h;refine⟨_,(Z.ag (Z.cG (Z.aS gB (Z.v 2) Z.int) (Z.ar (Z.ret Z.aP)) Z.bp)
   (Z.ag (Z.set (i:=3) cI.nd rfl (by right) (Z.fn hcoded_at (hr.mono (by decide)) rfl aA (Z.cons (Z.ix (Z.ay K rfl hu) (Z.v 0) (Z.glob rfl hg_OF_WORDS hr_OF_WORDS)) (Z.cons (Z.v 1) (Z.cons (Z.v 2) Z.nil)))))
   (Z.ag (Z.cG (Z.aS cF (Z.v 3) Z.aP) (Z.ar (Z.ret Z.aP)) Z.bp)
   (Z.ag (Z.set (i:=4) cI.nd rfl (by right) (Z.ix (Z.ay K rfl hu) (Z.ct (qa (D:=dF) K rfl rfl) rfl T.u7 (by decide +kernel) (Z.cons (Z.glob rfl hg_SHAPES hr_SHAPES) Z.nil)) (Z.ix (Z.ay K rfl hu) (Z.v 3) Z.int)))
   (Z.ag (Z.set (i:=5) cI.nd rfl (by right) (Z.lst (Z.cons (Z.v 4) Z.nil)))
   (Z.ag (Z.set (i:=6) cI.nd rfl (by right) (Z.ix (Z.ay K rfl hu) (Z.v 3) Z.int))
   (Z.ag (Z.eF GP rfl (Z.seq K rfl (Z.FI K rfl rfl hg_SHAPES hd_SHAPES (Z.v 4))) (Z.ba (i:=7) cI.nd rfl (by right)) (Z.ag (Z.set (i:=8) cI.nd rfl (by right) (Z.fn hpart_at (hr.mono (by decide)) rfl aA (Z.cons (Z.v 7) (Z.cons (Z.v 0) (Z.cons (Z.v 1) (Z.cons (Z.v 6) Z.nil))))))
   (Z.ag (Z.cG (Z.aS cF (Z.v 8) Z.aP) (Z.ar (Z.ret Z.aP)) Z.bp)
   (Z.ag (Z.expr (Z.bm K rfl PySem.F.plainAttrs_list PySem.F.slot_list_append PySem.F.type_list_append cV (Z.v 5) (Z.cons (Z.ix (Z.ay K rfl hu) (Z.v 8) Z.int) Z.nil)))
   (Z.ar (Z.set (i:=6) cI.nd rfl (by right) (Z.ix (Z.ay K rfl hu) (Z.v 8) Z.int)))))))
   (Z.ar (Z.ret (Z.tup (Z.cons (Z.ct (Z.c_ K rfl) rfl T.cB (by decide +kernel) (Z.cons (Z.v 5) Z.nil)) (Z.cons (Z.v 6) Z.nil)))))))))))),?_⟩
  refine ao λN hN=>?_;by_cases hp:p<0
  ·unfold jD at q;rw[Gn hp] at q;exists Gn hp;exact q _ _ (KB.refl _ _) rfl
  obtain⟨p,rfl⟩:∃p':Nat,p=(p':Int):=⟨p.toNat,by lia⟩
  rw[rh] at q;exists Gj hp;rw[hN];clear hN N;refine ao λN hN=>?_;obtain⟨c0,c1,c2,rfl,l0,l1,l2⟩:=hR.g9.ex;have n0:=(hR.pf c0 (by simp)).ne
  have hc':=hc;obtain⟨a0,a1,a2,g,g0,g1,g2⟩:=hc';exists aC g;refine⟨a0,c0,z,p,rfl,bz.of g0,n0,by lia,hz,λv H1 k1 o1=>?_⟩
  rw[hN];clear hN N;refine ao λN hN=>?_;unfold Cu at q
  replace q:∀v H',KB [] H H'->DZ H' v ((hG c0 z p).bind λx=>(i3 [c0,c1,c2] z (uK x.1) x.2).map λy=>(⟨x.1,y.1⟩,y.2))->Q v H':=q
  cases c:hG c0 z p with
  |none =>
   rw[c] at q o1;obtain rfl:v=.aP:=o1;walk_at "rz";exact q _ _ k1 rfl
  |some x =>
   rw[c] at q o1;obtain⟨wi,e⟩:=x;have h9:wi<9:=by have:=(eA n0 c).1;dsimp only at this;lia
   replace q:∀v H',KB [] H H'->DZ H' v ((i3 [c0,c1,c2] z (uK wi) e).map λy=>(⟨wi,y.1⟩,y.2))->Q v H':=q
   obtain⟨t,rfl,ht⟩:=o1;dsimp only at ht;exists if_neg (show ¬ V.ref t=V.aP from V.noConfusion);rw[hN];clear hN N;refine ao λN hN=>?_;have ak:bV (dF.map λp=>V.str p.1) (wi:Int)=some (.str (bu.getD wi (Str.ofString ""))):=bM (by
    show (bu.map V.str)[wi]?=_;rw[G0,Gv,Gi (show wi<bu.length from h9)];rfl)
   walk_at "rz";refine⟨dS,rfl,hd_SHAPES,by decide,λl hl=>?_⟩
   have k2:KB [] H1 (upd H1 l (.lst (dF.map λp=>V.str p.1))):=KB.new hl;have s2:upd H1 l (.lst (dF.map λp=>V.str p.1)) l=some (.lst (dF.map λp=>V.str p.1)):=aa;generalize upd H1 l (.lst (dF.map λp=>V.str p.1))=H2 at *;have ht2:=k2 _ _ ht (by simp)
   exists aH ht2,aC s2,ak;have h02:KB [] H H2:=k1.trans k2;clear k1 k2 s2 hl ht ak;rw[hN];clear hN N;have hlen:(uK wi).length<=2:=by
    have:wi=0\/wi=1\/wi=2\/wi=3\/wi=4\/wi=5\/wi=6\/wi=7\/wi=8:=by lia
    rcases this with rfl|rfl|rfl|rfl|rfl|rfl|rfl|rfl|rfl<;>decide
   have e1:=yu h9;generalize hps:uK wi=ks0 at *;generalize hw9:bu.getD wi (Str.ofString "")=W at *;refine ao λN hN=>?_;walk_at "rz";refine⟨by decide,λrl hrl=>?_⟩
   have k3:KB [] H2 (upd H2 rl (.lst [.str W])):=KB.new hrl;have s3:upd H2 rl (.lst [.str W]) rl=some (.lst [.str W]):=aa;generalize upd H2 rl (.lst [.str W])=H3 at *;have hrl0:H rl=none:=h02.free (by simp) hrl
   have h03:KB [] H H3:=h02.trans k3;have ht3:=k3 _ _ ht2 (by simp)
   rw[hN];clear hN N;refine ao λN hN=>?_;exists aH ht3;rw[hN];clear hN N;refine ao λN hN=>?_;walk_at "rz";refine⟨W,_,rfl,e1,λpk kt=>?_⟩;have st:∀H,bz K H pk ((ks0.map Kd.s).map V.str):=λH=>.inr kt;refine .inr ⟨⟨_,st H3⟩,?_⟩;have kL:∀{H4 H5:Hp},KB [rl] H4 H5->KB [rl] H H4->KB [] H H5:=λa b c o e _=>a _ _ (b _ _ e (by simpa using ai e hrl0)) (by simpa using ai e hrl0)
   refine jG (xs:=(ks0.map Kd.s).map V.str) (λi σ H'=>∃(acc:List (PV×Nat)) (a:Nat) (o7 o8:Option V),i<=ks0.length/\(i3 [c0,c1,c2] z ks0 e=(i3 [c0,c1,c2] z (ks0.drop i) a).map λy=>(acc++y.1,y.2))/\acc.length=i/\H' rl=some (.lst (.str W::acc.map λx=>x.1.v x.2))/\KB [] H H'/\σ=[some (.ref ca),some (.str (wd z)),some (.int (p:Nat)),some (.ref t),some (.str W),some (.ref rl),some (.int (a:Nat)),o7,o8]) ⟨[],e,none,none,GH _,by rw[HL];cases i3 [c0,c1,c2] z ks0 e<;>rfl,rfl,s3,h03,rfl⟩ (λi σ H' _ _=>st H') ?_ ?_
   ·rintro i x σ H' hx ⟨acc,a,o7,o8,hi,ep,hacc,hrl',h0',rfl⟩;have hi2:i<ks0.length:=by have:=(Gm.mp hx).1;rw[Gu,Gu] at this;exact this
    obtain rfl:x=.str (ks0[i]).s:=by
     rw[G0,G0,Gi hi2] at hx;exact (Option.some.inj hx).symm
    rw[HZ hi2,i3] at ep;generalize ks0[i]=k at *;unfold bj;refine ao λM hM=>?_;walk_at "rz";refine⟨ca,[c0,c1,c2],z,a,k,rfl,hc.kb h0',hR,hb,hz,λv H5 k5 o5=>?_⟩;rw[hM];clear hM M;have h05:=h0'.trans k5
    cases c3:sL [c0,c1,c2] z a k with
    |none =>
     rw[c3] at ep o5;obtain rfl:v=.aP:=o5;have ep':i3 [c0,c1,c2] z ks0 e=none:=ep;rw[ep'] at q;refine ao λM hM=>?_;walk_at "rz";exact q _ _ h05 rfl
    |some x =>
     rw[c3] at ep o5;obtain⟨t5,rfl,ht5⟩:=o5;refine ao λM hM=>?_;exists Gj (show ¬ V.ref t5=V.aP from V.noConfusion);rw[hM];clear hM M;refine ao λM hM=>?_;exists aH ht5;have hr5:=k5 _ _ hrl' (by simp)
     refine⟨.inl ⟨rfl,_,bY.of hr5⟩,rl,_,_,rfl,rfl,hr5,GK (show _<4 by rw[GF,Gu];lia) (by decide),?_⟩
     rw[hM];clear hM M;have nt:t5≠rl:=λz=>by rw[z,hr5] at ht5;cases ht5
     have e6:(V.str W::acc.map λx=>x.1.v x.2)++[x.1.v x.2]=.str W::(acc++[x]).map λx=>x.1.v x.2:=by rw[GU];rfl
     rw[e6];have s6:upd H5 rl (.lst (.str W::(acc++[x]).map λx=>x.1.v x.2)) rl=_:=aa;have ht6:=(ae (o:=HO.lst (.str W::(acc++[x]).map λx=>x.1.v x.2)) (H:=H5) nt).trans ht5;have h06:KB [] H (upd H5 rl (.lst (.str W::(acc++[x]).map λx=>x.1.v x.2))):=λc o e _=>by rw[ae (ai e hrl0)];exact h05 _ _ e (by simp)
     generalize upd H5 rl (.lst (.str W::(acc++[x]).map λx=>x.1.v x.2))=H6 at *;dsimp only;refine jN λM hM=>?_;exists aH ht6;rw[hM];refine⟨acc++[x],x.2,some _,some _,hi2,?_,by rw[List.length_append,hacc];rfl,s6,h06,rfl⟩
     rw[ep,Option.bind_some]
     cases i3 [c0,c1,c2] z (ks0.drop (i+1)) x.2 with
     |none=>rfl
     |some y=>show some (acc++(x::y.1),y.2)=some ((acc++[x])++y.1,y.2);rw[GV];rfl
   ·rintro σ H' ⟨acc,a,o7,o8,_,ep,_,hrl',h0',rfl⟩;rw[Gu,Gu,Je] at ep;have ep':i3 [c0,c1,c2] z ks0 e=some (acc,a):=by rw[ep];show some (acc++[],a)=_;rw[Ia]
    rw[ep'] at q;show N _ _;rw[hN];clear hN N;exists aC hrl';intro rt hrt;have k7:KB [] H' (upd H' rt (.tup (.str W::acc.map λx=>x.1.v x.2))):=KB.new hrt;have s7:upd H' rt (.tup (.str W::acc.map λx=>x.1.v x.2)) rt=_:=aa;generalize upd H' rt (.tup (.str W::acc.map λx=>x.1.v x.2))=H7 at *;refine⟨by decide,λtt htt=>q _ _ ((h0'.trans k7).trans (KB.new htt)) ⟨tt,rt,rfl,aa,?_⟩⟩
    rw[ae (ai s7 htt),s7];show some (HO.tup (V.str W::_))=some (.tup (RW.v ⟨wi,acc⟩));unfold RW.v;rw[hw9]
noncomputable def An(K:LA):Sp:=λvs H Q _=>∃(a:Addr) (ls:List Int),vs=[.ref a]/\H a=some (.tup (iV ls))/\jK ls/\∀H',KB [] H H'->Q (.bl (m4 ls)) H'
theorem Ba(T:Txt K mg)(F:HasFn K mg "can_be" gC ["lengths"]):aq P w K mg base bc 1 "can_be" ["lengths"] (An K):=by
 refine F.fW cu (λvs H Q E h=>?_) (λf cdv A outer s H vs Q E hr h=>?_)
 ·obtain⟨a,ls,rfl,_⟩:=h;rfl
 ·have hu:=a_ hr;obtain⟨a,ls,rfl,ha,hL,q⟩:=h;refine⟨_,(Z.ag (Z.set (i:=1) cu.nd rfl (by right) Z.int)
   (Z.ag (Z.set (i:=2) cu.nd rfl (by right) Z.int)
   (Z.ag (Z.set (i:=3) cu.nd rfl (by right) (Z.cb (Z.bB K rfl) rfl T.b8 (by decide +kernel) (Z.cons (Z.v 0) Z.nil)))
   (Z.ag (Z.eF GP rfl (Z.any K rfl (Z.cb (Y.tq K rfl) rfl T.jm (by decide +kernel) (Z.cons (Z.v 0) Z.nil))) (Z.ba (i:=4) cu.nd rfl (by right)) (Z.ag (Z.cG (Z.aS aQ (Z.v 1) Z.int) (Z.ar (Z.ret Z.bl)) Z.bp)
   (Z.ag (Z.pA GP (Z.tw (Z.se (Z.aS gB (Z.v 2) (Z.v 4)) (Z.kr (Z.aS gB (Z.v 1) (Z.v 3))))) (Z.ag (Z.set (i:=1) cu.nd rfl (by right) (Z.op cp (Z.v 1) Z.int))
   (Z.ar (Z.set (i:=2) cu.nd rfl (by right) (Z.op (Z.aN K rfl) (Z.v 2) Z.int)))))
   (Z.ag (Z.cG (Z.aS r9 (Z.v 1) (Z.v 3)) (Z.ar (Z.ret Z.bl)) Z.bp)
   (Z.ag (Z.set (i:=1) cu.nd rfl (by right) (Z.op bZ (Z.v 1) Z.int))
   (Z.ar (Z.set (i:=3) cu.nd rfl (by right) (Z.op bZ (Z.v 3) Z.int))))))))
   (Z.ar (Z.ret Z.bl)))))),?_⟩
  refine ao λN hN=>?_;walk_at "rz";rw[hN];clear hN N;refine ao λN hN=>?_;walk_at "rz";rw[hN];clear hN N;refine ao λN hN=>?_;exists aH ha;rw[hN];clear hN N;refine ao λN hN=>?_;walk_at "rz";refine⟨a,ls,rfl,bz.of ha,by have:=hL.2.1;lia,λrs hp hs l hl=>?_⟩
  have k1:KB [] H (upd H l (.lst (rs.map V.int))):=KB.new hl;have s1:upd H l (.lst (rs.map V.int)) l=some (.lst (iV rs)):=aa;generalize upd H l (.lst (rs.map V.int))=H1 at *;simp only[aC s1];refine eM (xs:=iV rs) (λi σ H'=>∃(f d n:Int) (s4:Option V),H1=H'/\(∀x∈rs.drop i,1<=x/\x<=40/\d<=x)/\0<=f/\0<=d/\n=(rs.drop i).length/\(m4 ls=true ↔ Kr.fit ((rs.drop i).map Int.toNat) f.toNat d.toNat 40)/\σ=[some (.ref a),some (.int f),some (.int d),some (.int n),s4]) ⟨1,0,_,none,rfl,λx hx=>by have:=hL.2.2 x (hp.mem_iff.mp hx);lia,by decide,by decide,by rw[HL,hp.length_eq,bR],?_,rfl⟩ ?_ ?_ ?_
  ·unfold m4 KS Kr.fit;rw[IU,HL,Kr.gZ (hp.map Int.toNat),show (1:Int).toNat*2^(40-(0:Int).toNat)=2^40 from rfl]
  ·rintro i σ H' _ ⟨f,d,n,s4,rfl,_⟩;exact bY.of s1
  ·rintro i x σ H' hx ⟨f,d,n,s4,rfl,hb,f0,d0,hn,hi,rfl⟩;obtain⟨hir,rfl⟩:=jL hx;have ed:=HZ hir;have hs2:(rs.drop i).Pairwise (·<=·):=List.Pairwise.drop hs;rw[ed] at hb hn hi hs2;generalize rs[i]=l at *;generalize rs.drop (i+1)=r at *;obtain⟨hl1,hl2,hl3⟩:=hb l (by simp)
   have hle:∀x∈r,l<=x:=(G_.mp hs2).1;unfold bj;refine ao λM hM=>?_;by_cases hf:f=0
   ·exists Gn hf;have:m4 ls=false:=by
     cases c:m4 ls with
     |false=>rfl
     |true=>have:=hi.mp c;rw[hf] at this;exact absurd this Kr.wq
    rw[this] at q;exact q _ k1
   ·exists Gj hf;rw[hM];clear hM M;refine ao λM hM=>?_;refine⟨λm σ H'=>H1=H'/\∃f d:Int,0<f/\0<=d/\d<=l/\m=(l-d).toNat/\(m4 ls=true ↔ Kr.fit ((l::r).map Int.toNat) f.toNat d.toNat 40)/\σ=[some (.ref a),some (.int f),some (.int d),some (.int n),some (.int l)],⟨_,rfl,f,d,by lia,d0,hl3,rfl,hi,rfl⟩,?_⟩
    rintro m σ H' ⟨rfl,f,d,f0,d0,dl,rfl,hi,rfl⟩;have after:(d=l\/n<=f)->M [some (.ref a),some (.int f),some (.int d),some (.int n),some (.int l)] H1:=λhc=>by
     rw[hM];clear hM M;refine ao λM hM=>?_;by_cases h3:n<=f
     ·exists Gn h3;have:m4 ls=true:=hi.mpr (Kr.oN (λx hx=>by
       obtain⟨y,hy,rfl⟩:=HS.mp hx;rcases Gs.mp hy with rfl|hy
       ·lia
       ·have:=hle y hy;lia) (by rw[Gu];lia))
      rw[this] at q;exact q _ k1
     ·exists Gj h3;rw[hM];clear hM M;refine ao λM hM=>?_;walk_at "rz";rw[hM];clear hM M;refine jN λM hM=>?_;walk_at "rz";rw[hM];have hd:d=l:=hc.resolve_right h3;subst hd;refine⟨f-1,d,n-1,some _,rfl,λx hx'=>⟨(hb x (by simp[hx'])).1,(hb x (by simp[hx'])).2.1,hle x hx'⟩,by lia,d0,by rw[hn,GF];lia,?_,rfl⟩
      rw[hi,Hd,Kr.uW (by lia),show (f-1).toNat=f.toNat-1 by lia]
    by_cases c1:d<l
    ·by_cases c2:f<n
     ·exists Gn c1,Gn c2;refine⟨λσ' H'=>∃m',m'<(l-d).toNat/\(H1=H'/\∃f d:Int,0<f/\0<=d/\d<=l/\m'=(l-d).toNat/\(m4 ls=true ↔ Kr.fit ((l::r).map Int.toNat) f.toNat d.toNat 40)/\σ'=[some (.ref a),some (.int f),some (.int d),some (.int n),some (.int l)]),λ_ _ h=>h,?_⟩;refine⟨.inr (by decide),?_⟩
      refine⟨_,?_,rfl,f*2,d+1,by lia,by lia,by lia,rfl,?_,rfl⟩
      ·lia
      ·rw[hi,Kr.oM (l:=l.toNat) (by lia) (by lia),show (f*2).toNat=f.toNat*2 by lia,show (d+1).toNat=d.toNat+1 by lia]
     ·exists Gn c1,Gj c2;exact after (.inr (by lia))
    ·exists Gj c1;exact after (.inl (by lia))
  ·rintro σ H' ⟨f,d,n,s4,rfl,_,_,_,_,hi,rfl⟩;rw[bR,Je] at hi;show N _ _;rw[hN];clear hN N;walk_at "rz";have:m4 ls=true:=hi.mpr (GH _);rw[this] at q;exact q _ k1
noncomputable def FH:Option (List Nat)->V
 |none=>.aP
 |some w=>.str (wd w)
theorem lG(ws:List (List Nat)):(wV ws).length=ws.length:=Gu ..
noncomputable def wC(K:LA):Sp:=λvs H Q _=>∃(a:Addr) (ls:List Int),vs=[.ref a]/\H a=some (.tup (iV ls))/\jK ls/\m4 ls=true/\∀b H',KB [] H H'->H' b=some (.tup (wV (wordsOf Cw.dJ ls)))->Q (.ref b) H'
theorem zR(T:Txt K mg)(F:HasFn K mg "code_of" cK ["lengths"])(hcan_be:aq P w K mg base bc 1 "can_be" ["lengths"] (An K))(hword_behind:aq P w K mg base bc 1 "word_behind" ["ahead","length"] CS):aq P w K mg base bc 4 "code_of" ["lengths"] (wC K):=by
 obtain⟨c,Pt,htab,hcc⟩:=T.o9.ex;refine F.Fg dO (λvs H Q E h=>?_) (λf cdv A outer s H vs Q E hr hm g9 h=>?_)
 ·obtain⟨a,ls,rfl,_⟩:=h;rfl
 ·have:=hcc _ _ ⟨hm,g9⟩;subst this;have hu:=a_ hr;obtain⟨a,ls,rfl,ha,hL,ho,q⟩:=h;refine⟨_,(Z.ag (Z.cG (Z.vm (Z.mx K rfl (Z.fn hcan_be (hr.mono (by decide)) rfl aA (Z.cons (Z.v 0) Z.nil)))) (Z.ar Z.FW) Z.bp)
   (Z.ag (Z.setC (j:=1) dO.nd rfl (by right) (osc:=af cK) (ON:=["lengths","words","ahead","thing"]) (own:=["length"]) (N:=["length","lengths","words","ahead","thing"]) ⟨rfl,by decide +kernel,rfl,by decide +kernel,by decide +kernel,by decide +kernel,by decide +kernel,by decide +kernel⟩ rfl rfl rfl (Z.any K rfl (Z.v 0)) (λ_ _ _ _=>(Z.ba (i:=0) (show List.Nodup (["length","lengths","words","ahead","thing"]:List Str) by decide +kernel) rfl (by right))) (λ_ _ _ _=>Z.zr) (λ_ _ _ _=>Z.str))
   (Z.ag (Z.set (i:=2) dO.nd rfl (by right) Z.aP)
   (Z.ag (Z.eF GP rfl (Z.any K rfl (Z.Dp (k:=0) (j:=0) K rfl (by decide) htab rfl rfl rfl rfl rfl T.jm (Z.cons (Z.ct Y.oo rfl T.cZ (by decide +kernel) (Z.cons (Z.cb (Z.bB K rfl) rfl T.b8 (by decide +kernel) (Z.cons (Z.v 0) Z.nil)) Z.nil)) Z.nil) (hr.mono (by decide)) rfl (by decide) rfl rfl rfl rfl rfl rfl rfl (λ_ _ _ _=>rfl))) (Z.ba (i:=3) dO.nd rfl (by right)) (Z.ag (Z.asg (Z.fn hword_behind (hr.mono (by decide)) rfl aA (Z.cons (Z.v 2) (Z.cons (Z.ix (Z.ay K rfl hu) (Z.v 0) (Z.v 3)) Z.nil))) (Z.lu (Z.v 1) (Z.v 3)))
   (Z.ar (Z.set (i:=2) dO.nd rfl (by right) (Z.ix (Z.ay K rfl hu) (Z.v 1) (Z.v 3))))))
   (Z.ar (Z.ret (Z.ct (Z.c_ K rfl) rfl T.cB (by decide +kernel) (Z.cons (Z.v 1) Z.nil)))))))),?_⟩
  refine ao λN hN=>?_;walk_at "rz";refine⟨a,ls,rfl,ha,hL,λH1 k1=>?_⟩;exists ho,Bool.not_true;rw[Gj (λz=>Bool.noConfusion z),hN];clear hN N;have ha1:=k1 _ _ ha (by simp)
  refine ao λN hN=>?_;exists aH ha1;refine d9 (xs:=iV ls) (Gr (show _<=20 by rw[bR];exact hL.2.1) (by decide)) (λD i ys H'=>H' D=some (.lst ys)/\ys=wV (List.replicate i [])/\KB [] H1 H'/\H1 D=none) (λD hD=>⟨aa,rfl,KB.new hD,hD⟩) (λD i ys H' h=>⟨h.1,by rw[h.2.1,lG,GB]⟩) (λD i ys H' h=>bz.of (h.2.2.1 _ _ ha1 (by simp))) ?_ ?_
  ·rintro D i ys H' x R hx ⟨g1,rfl,g3,g4⟩ kk;walk_at "rz";refine kk _ _ g1 ⟨aa,?_,λb o e _=>?_,g4⟩
   ·rw[List.replicate_succ',wV,wV,GU];rfl
   ·rw[ae (ai e g4)];exact g3 b o e (by simp)
  rintro D ys H2 ⟨g1,rfl,g3,g4⟩;rw[bR] at g1;show N _ _;rw[hN];clear hN N;refine ao λN hN=>?_;walk_at "rz";rw[hN];clear hN N;have h02:=k1.trans g3;have D0:H D=none:=k1.free (by simp) g4
  have ha2:=h02 _ _ ha (by simp)
  refine ao λN hN=>?_;exists aH ha2;refine .inl ⟨_,rfl,λr hr0=>?_⟩;have k3:KB [] H2 (upd H2 r (.m_ 0 ((iV ls).length:Nat))):=KB.new hr0;have s3:upd H2 r (.m_ 0 ((iV ls).length:Nat)) r=some (.m_ 0 (ls.length:Nat)):=by rw[aa,bR]
  generalize upd H2 r (.m_ 0 ((iV ls).length:Nat))=H3 at *;have le:(jk ls.length).length=ls.length:=by rw[Gu,He]
  have ha3:=k3 _ _ ha2 (by simp)
  refine⟨r,jk ls.length,ls,rfl,⟨ls.length,s3,rfl⟩,le.symm,by rw[le];have:=hL.2.1;lia,λi v k e1 e2 H' g=>?_,λH4 l g hl=>?_⟩
  ·have hi:i<ls.length:=(Gm.mp e2).1;have e3:(jk ls.length)[i]?=some (.int (i:Int)):=by simp[hi]
   rw[e3] at e1;cases e1;exact⟨_,a,iV ls,rfl,rfl,bz.of (g.same _ _ ha3),bM (by unfold iV;rw[G0,e2];rfl)⟩
  have eo:iH ls (jk ls.length)=(aI ls).map λk=>V.int ((k:Nat):Int):=xG ..;rw[eo];have k4:KB [] H3 (upd H4 l (.lst ((aI ls).map λk=>V.int ((k:Nat):Int)))):=λb o e _=>by rw[ae (ai (g.same _ _ e) hl)];exact g.same _ _ e
  have s4:upd H4 l (.lst ((aI ls).map λk=>V.int ((k:Nat):Int))) l=_:=aa;have gD4:=k4 _ _ (k3 _ _ g1 (by simp)) (by simp)
  have lD:l≠D:=λz=>by
   have:=g.same _ _ (k3 _ _ g1 (by simp))
   rw[<- z,hl] at this;cases this
  generalize upd H4 l (.lst ((aI ls).map λk=>V.int ((k:Nat):Int)))=H5 at *;have h05:KB [] H H5:=h02.trans (k3.trans k4);have a5:a≠D:=λz=>by rw[z,D0] at ha;cases ha
  clear k3 k4 g hl hr0 s3 ha3 le eo g1 h02 ha2 g3 g4 ha1 k1;refine eM (xs:=(aI ls).map λk=>V.int ((k:Nat):Int)) (λi σ H'=>∃o:Option V,i<=(aI ls).length/\(∀v,(eY ls ((aI ls).take i)).1=some v->v.length<=40)/\H' D=some (.lst (wV (eY ls ((aI ls).take i)).2))/\H' l=some (.lst ((aI ls).map λk=>V.int ((k:Nat):Int)))/\KB [] H H'/\σ=[some (.ref a),some (.ref D),some (FH (eY ls ((aI ls).take i)).1),o]) ⟨none,GH _,(λv z=>by cases z),gD4,s4,h05,rfl⟩ (λi σ H' _ h=>by obtain⟨o,_,_,_,h,_⟩:=h;exact bY.of h) ?_ ?_
  ·rintro i x σ H' hx ⟨o,hi,hw,gD,gl,h0,rfl⟩;have hio:i<(aI ls).length:=by have:=(Gm.mp hx).1;rw[Gu] at this;exact this
   obtain rfl:x=.int (((aI ls)[i]:Nat):Int):=by
    rw[G0,Gi hio] at hx;exact (Option.some.inj hx).symm
   have hth:(aI ls)[i]<ls.length:=gS (GS hio);have eT:(aI ls).take (i+1)=(aI ls).take i++[(aI ls)[i]]:=by rw[Kf,Gi hio];rfl
   rw[eT];generalize (aI ls)[i]=th at *;generalize (aI ls).take i=done at *;have ex:bV (iV ls) (th:Int)=some (.int ls[th]):=zV hth;have hlt:=hL.2.2 _ (GS hth);have en:ls[th]=((aT ls th:Nat):Int):=by
    unfold aT;rw[Gv,Gi hth];simp;lia
   have hn20:aT ls th<=40:=by lia
   have eD:eY ls (done++[th])=Cw.along Cw.dJ (aT ls) [th] (eY ls done):=Cw.eU _ _ _;have hwl:(eY ls done).2.length=ls.length:=AG ls done;have gt:=aH (h0 _ _ ha (by simp))
   obtain⟨n,hn⟩:∃n,aT ls th=n:=⟨_,rfl⟩;rw[hn] at en hn20;have fin:∀y:List Nat,y.length<=40->eY ls (done++[th])=(some y,(eY ls done).2.set th y)->∀M,M=(λσ H'=>∃o:Option V,i+1<=(aI ls).length/\(∀v,(eY ls (done++[th])).1=some v->v.length<=40)/\H' D=some (.lst (wV (eY ls (done++[th])).2))/\H' l=some (.lst ((aI ls).map λk=>V.int ((k:Nat):Int)))/\KB [] H H'/\σ=[some (.ref a),some (.ref D),some (FH (eY ls (done++[th])).1),o])->M [some (.ref a),some (.ref D),some (.str (wd y)),some (.int (th:Nat))] (upd H' D (.lst ((wV (eY ls done).2).set th (.str (wd y))))):=λy hy e M hM=>by
    rw[hM,e];refine⟨some _,hio,λv z=>by cases z;exact hy,?_,by rw[ae lD];exact gl,λb u e _=>by rw[ae (ai e D0)];exact h0 _ _ e (by simp),rfl⟩
    rw[aa];unfold wV;rw[JU]
   have xk:mf (wV (eY ls done).2).length (th:Int)=some th:=by rw[jx (by lia) (by rw[lG,hwl];lia),GW]
   have setI:∀y:List Nat,bV ((wV (eY ls done).2).set th (.str (wd y))) (th:Int)=some (.str (wd y)):=λy=>bM (IS (by rw[lG,hwl];exact hth))
   unfold bj;refine ao λM hM=>?_;exists gt,ex
   cases hs:(eY ls done).1 with
   |none =>
    refine⟨n,hn20,.inl ⟨by rw[en];rfl,?_⟩⟩
    exists gD,xk;rw[hM];clear hM M;dsimp only;refine jN λM hM=>?_;exists setI;refine fin _ (by rw[List.length_replicate];exact hn20) ?_ M hM
    rw[eD];generalize eY ls done=st at *;obtain⟨x,ws⟩:=st;obtain rfl:x=none:=hs;subst hn;rfl
   |some v =>
    refine⟨n,hn20,.inr ⟨v,by rw[en];rfl,hw v hs,?_⟩⟩
    exists gD,xk;rw[hM];clear hM M;dsimp only;refine jN λM hM=>?_;exists setI;refine fin _ (r8 (hw v hs) hn20) ?_ M hM;rw[eD];generalize eY ls done=st at *;obtain⟨x,ws⟩:=st;obtain rfl:x=some v:=hs;subst hn;rfl
  ·rintro σ H' ⟨o,_,_,gD,_,h0,rfl⟩;rw[Gu,IB] at gD;show N _ _;rw[hN];clear hN N;exists aC gD;exactλb hb=>q b _ (h0.trans (KB.new hb)) aa
noncomputable def lV:Sp:=λvs H Q _=>vs=[]/\∀l,H l=none->Q (.ref l) (upd H l (.lst (bu.map V.str)))
theorem tS(F:HasFn K mg "_law_words" d8 []):aq P w K mg base bc 1 "_law_words" [] lV:=by
 refine F.fW jU (λvs H Q E h=>?_) (λf cdv A outer s H vs Q E hr h=>?_)
 ·obtain⟨rfl,_⟩:=h;rfl
 ·obtain⟨rfl,q⟩:=h;refine⟨_,(Z.ar (Z.ret (Z.lst (Z.consts rfl)))),?_⟩;walk_at "rz";exact⟨by decide,λp hp=>q p hp⟩
noncomputable def iP:Sp:=λvs H Q _=>∃(n:Int) (k:Nat),vs=[.int n,.int (k:Nat)]/\k<=40/\Q (.str (wd (dB n k []))) H
theorem vZ(T:Txt K mg)(F:HasFn K mg "_law_bits" dW ["number","many"]):aq P w K mg base bc 1 "_law_bits" ["number","many"] iP:=by
 refine F.fW cL (λvs H Q E h=>?_) (λf cdv A outer s H vs Q E hr h=>?_)
 ·obtain⟨n,k,rfl,_⟩:=h;rfl
 ·have hu:=a_ hr;obtain⟨n,k,rfl,hk,q⟩:=h;refine⟨_,(Z.ag (Z.set (i:=2) cL.nd rfl (by right) Z.str)
   (Z.ag (Z.eF GP rfl (Z.mV rfl T.cZ (Z.cons (Z.v 1) Z.nil)) (Z.ba (i:=3) cL.nd rfl (by right)) (Z.ag (Z.set (i:=2) cL.nd rfl (by right) (Z.op (Z.aN K rfl) (Z.ix (Z.ay K rfl hu) Z.str (Z.op cg (Z.v 0) Z.int)) (Z.v 2)))
   (Z.ar (Z.set (i:=0) cL.nd rfl (by right) (Z.op lB (Z.v 0) Z.int)))))
   (Z.ar (Z.ret (Z.v 2))))),?_⟩
  refine ao λN hN=>?_;walk_at "rz";rw[hN];clear hN N;refine ao λN hN=>?_;walk_at "rz";refine⟨by lia,by lia,?_⟩
  rw[GW];refine cf (λi σ H'=>∃(m:Int) (acc:List Nat) (o:Option V),H'=H/\i<=k/\dB m (k-i) acc=dB n k []/\acc.length=i/\σ=[some (.int m),some (.int (k:Nat)),some (.str (wd acc)),o]) ⟨n,[],none,rfl,GH _,rfl,rfl,by rw[jH]⟩ ?_ ?_
  ·rintro i σ H' hi ⟨m,acc,o,rfl,_,e,hl,rfl⟩;unfold bj;refine ao λM hM=>?_;exists DT;refine⟨by decide,by decide +kernel,?_⟩
   rw[show (⟨#[dg m]⟩:Str)=wd [dg m] from rfl,av,av,ee];refine⟨Gr (show _<=50 by simp;lia) (by decide),?_⟩
   rw[hM];clear hM M;refine jN λM hM=>?_;walk_at "rz";refine⟨⟨by decide,by decide⟩,?_⟩
   rw[hM];refine⟨m / 2,dg m::acc,some _,rfl,hi,?_,by rw[GF,hl],rfl⟩
   rw[<- e,show k-i=(k-(i+1))+1 by lia]
   rfl
  ·rintro σ H' ⟨m,acc,o,rfl,_,e,_,rfl⟩;rw[Ip] at e;show N _ _;rw[hN];clear hN N;walk_at "rz";rw[<- e] at q;exact q
noncomputable def bK(H:Hp)(p dq:Addr)(n:Nat):Prop:=∃(cells:List Int) (i t z:Int),H p=some (.lst [.ref dq,.int i,.int t,.int z])/\H dq=some (.lst (iV cells))/\(∀c∈cells,0<=c)/\0<=i/\i<=cells.length/\cells.length<=63/\0<=t/\t<=n
theorem bK.mono{p:Addr}{n m:Nat}(h:bK H p dq n)(hm:n<=m):bK H p dq m:=by
 obtain⟨cells,i,t,z,h1,h2,h3,h4,h5,h6,h7,h8⟩:=h;exact⟨cells,i,t,z,h1,h2,h3,h4,h5,h6,h7,by lia⟩
theorem bK.keep{p:Addr}{n:Nat}(h:bK H p dq n)(k:KB ex H H')(n1:p∉ex)(n2:dq∉ex):bK H' p dq n:=by
 obtain⟨cells,i,t,z,h1,h2,h3⟩:=h;exact⟨cells,i,t,z,k _ _ h1 n1,k _ _ h2 n2,h3⟩
theorem bK.kb{p:Addr}{n:Nat}(h:bK H p dq n)(k:KB [] H H'):bK H' p dq n:=h.keep k (by simp) (by simp)
theorem bK.lst{p:Addr}{n:Nat}(h:bK H p dq n):∀b∈[p,dq],∃ys,H b=some (.lst ys):=by
 obtain⟨cells,i,t,z,h1,h2,h3⟩:=h;intro b hb;simp only[Gs,GI,Hn] at hb;rcases hb with rfl|rfl
 ·exact⟨_,h1⟩
 ·exact⟨_,h2⟩
theorem bK.new{p l:Addr}{n:Nat}(h:bK H p dq n)(hl:H l=none):l∉[p,dq]:=λz=>by
 obtain⟨ys,e⟩:=h.lst l z;rw[hl] at e;cases e
theorem bK.tup{p a:Addr}{n:Nat}{xs:List V}(h:bK H p dq n)(k:KB [p,dq] H H')(e:H a=some (.tup xs)):H' a=some (.tup xs):=B0 k h.lst e
noncomputable def zW:Sp:=λvs H Q _=>∃c k:Int,vs=[.int c,.int k]/\0<=k/\k<2^60/\∀v:Int,Q (.int v) H
theorem Bu(F:HasFn K mg "_law_mix" eO ["number","turn"]):aq P w K mg base bc 1 "_law_mix" ["number","turn"] zW:=by
 refine F.fW fD (λvs H Q E h=>?_) (λf cdv A outer s H vs Q E hr h=>?_)
 ·obtain⟨c,k,rfl,_⟩:=h;rfl
 ·obtain⟨c,k,rfl,h0,h1,q⟩:=h;have hu:=a_ hr;refine⟨_,(Z.ag (Z.set (i:=2) fD.nd rfl (by right) (Z.op cg (Z.op (Z.aN K rfl) (Z.op (Z.aN K rfl) (Z.op (Z.aN K rfl) (Z.op cg (Z.v 0) Z.int) (Z.op cp (Z.op cp Z.int (Z.v 1)) (Z.v 1))) (Z.op cp Z.int (Z.v 1))) Z.int) Z.int))
   (Z.ag (Z.set (i:=2) fD.nd rfl (by right) (Z.op cg (Z.op cp (Z.v 2) (Z.v 2)) Z.int))
   (Z.ar (Z.ret (Z.op lB (Z.op cg (Z.op (Z.aN K rfl) (Z.op cp (Z.v 2) Z.int) (Z.v 1)) Z.int) Z.int))))),?_⟩
  refine ao λN hN=>?_;walk_at "rz";refine⟨by decide,.inl (by decide),.inr ⟨by lia,by lia⟩,.inl (by decide),by decide,?_⟩
  rw[hN];clear hN N;generalize hx:(c % 1999999927+7001*k*k+40009*k+17) % 2147483629=x;have hx1:0<=x/\x<2147483629:=by rw[<- hx];exact⟨KZ _ (by decide),Km _ (by decide)⟩
  refine ao λN hN=>?_;walk_at "rz";refine⟨.inl ⟨by lia,by lia⟩,by decide,?_⟩
  rw[hN];clear hN N;generalize hy:x*x % 2147483587=y;have hy1:0<=y/\y<2147483587:=by rw[<- hy];exact⟨KZ _ (by decide),Km _ (by decide)⟩
  walk_at "rz";exact⟨.inr (by decide),by decide,⟨by decide,by decide⟩,q _⟩
noncomputable def uj(K:LA):Sp:=λvs H Q _=>∃(a:Addr) (ns:List Int),vs=[.ref a]/\bY K H a (ns.map V.int)/\∀p dq H',bK H' p dq 0->KB [] H H'->Q (.ref p) H'
theorem y_(T:Txt K mg)(F:HasFn K mg "_law_deck" dj ["script"]):aq P w K mg base bc 1 "_law_deck" ["script"] (uj K):=by
 refine F.fW lh (λvs H Q E h=>?_) (λf cdv A outer s H vs Q E hr h=>?_)
 ·obtain⟨a,ns,rfl,_⟩:=h;rfl
 ·obtain⟨a,ns,rfl,hS,q⟩:=h;have hu:=a_ hr;refine⟨_,(Z.ar (Z.ret (Z.lst (Z.cons (Z.comp (osc:=af dj) (ON:=["script"]) (own:=["cell"]) (N:=["cell","script"]) ⟨rfl,by decide +kernel,rfl,by decide +kernel,by decide +kernel,by decide +kernel,by decide +kernel,by decide +kernel⟩ rfl rfl rfl (Z.any K rfl (Z.slice (Z.Ay K rfl) (Z.v 0) Z.AI (Z.ll Z.int))) (λ_ _ _ _=>(Z.ba (i:=0) (show List.Nodup (["cell","script"]:List Str) by decide +kernel) rfl (by right))) (λ_ _ _ _=>Z.zr) (λ_ _ _ _=>(Z.cb uV rfl T.CY (by decide +kernel) (Z.cons (Z.v 0) Z.nil)))) (Z.cons Z.int (Z.cons Z.int (Z.cons (Z.op cg (Z.op (Z.aN K rfl) (Z.cb (Z.Ew K rfl rfl) rfl T.Dc (by decide +kernel) (Z.cons (Z.slice (Z.Ay K rfl) (Z.v 0) Z.AI (Z.ll Z.int)) Z.nil)) (Z.op cp Z.int (Z.cb (Z.C3 K rfl) rfl T.b8 (by decide +kernel) (Z.cons (Z.v 0) Z.nil)))) Z.int) Z.nil))))))),?_⟩
  have ec:iE (ns.map V.int) none (some 63)=iV (ns.take 63):=by
   unfold iE iV;rw[HT.fC,show HT.b_ (ns.map V.int).length (ns.map V.int).length (some 63)=min 63 (ns.map V.int).length from HT.dX _ _ 63,Gu,K8,HL,<- Lq];congr 1;rw[List.take_eq_take_iff];lia
  have hm:(ns.take 63).length<=63:=by rw[GQ];lia
  generalize ns.take 63=ms at ec hm;walk_at "rz";refine⟨a,_,rfl,hS,λc hc=>?_⟩;rw[ec];have k1:KB [] H (upd H c (.lst (iV ms))):=KB.new hc;have s1:upd H c (.lst (iV ms)) c=some (.lst (iV ms)):=aa;generalize upd H c (.lst (iV ms))=H1 at *;simp only[aC s1];refine oT (xs:=iV ms) (Gr (show _<=63 by rw[bR];exact hm) (by decide)) (λD i ys H'=>H' D=some (.lst ys)/\KB [] H1 H'/\H1 D=none/\∃bs:List Int,ys=iV bs/\bs.length=i/\∀b∈bs,0<=b) (λD hD=>⟨aa,KB.new hD,hD,[],rfl,rfl,λb hb=>nomatch hb⟩) (λD i ys H' h=>⟨h.1,by obtain⟨_,_,_,bs,rfl,e,_⟩:=h;rw[bR,e]⟩) (λD i ys H' h=>bY.of (h.2.1 _ _ s1 (by simp))) ?_ ?_
  ·rintro D i ys H' x R hx ⟨g1,g2,g3,bs,rfl,g4,g5⟩ k;obtain⟨hi,rfl⟩:=jL hx;walk_at "rz";refine k _ _ g1 ⟨aa,λb o e _=>?_,g3,bs++[_],(mw bs [_]).symm,by rw[Gk,g4];rfl,λb hb=>?_⟩
   ·rw[ae (ai e g3)];exact g2 b o e (by simp)
   ·rcases Hm.mp hb with z|z
    ·exact g5 b z
    ·rw[GA.mp z];split<;>lia
  ·rintro D ys H' ⟨g1,g2,g3,bs,rfl,g4,g5⟩;rw[bR] at g4;refine⟨a,_,rfl,(k1.trans g2).DC (by simp) hS,λd hd=>?_⟩
   rw[ec];have k2:KB [] H' (upd H' d (.lst (iV ms))):=KB.new hd;have s2:upd H' d (.lst (iV ms)) d=some (.lst (iV ms)):=aa;generalize upd H' d (.lst (iV ms))=H2 at *;have kk:=(k1.trans g2).trans k2;refine⟨d,ms,rfl,bY.of s2,.ref a,_,rfl,.inl ⟨_,kk.DC (by simp) hS,rfl⟩,.inl (by decide),by decide,by decide,λp hp=>?_⟩
   have gD:=k2 _ _ g1 (by simp)
   exact q p D _ ⟨bs,0,0,_,aa,by rw[ae (ai gD hp)];exact gD,g5,by decide,by lia,by lia,by decide,by decide⟩ (kk.trans (KB.new hp))
noncomputable def gu:Sp:=λvs H Q _=>∃(p dq:Addr) (m:Int) (n:Nat),vs=[.ref p,.int m]/\bK H p dq n/\n<2^50/\0<m/\m<2^30/\∀(v:Nat) H',(v:Int)<m->bK H' p dq (n+1)->KB [p,dq] H H'->Q (.int (v:Nat)) H'
theorem yH(T:Txt K mg)(F:HasFn K mg "_law_draw" dU ["deck","most"])(h_law_mix:aq P w K mg base bc 1 "_law_mix" ["number","turn"] zW):aq P w K mg base bc 2 "_law_draw" ["deck","most"] gu:=by
 refine F.fW gW (λvs H Q E h=>?_) (λf cdv A outer s H vs Q E hr h=>?_)
 ·obtain⟨p,dq,m,n,rfl,_⟩:=h;rfl
 ·obtain⟨p,c,m,n,rfl,⟨cells,i,t,z,hp,hc,hn0,i0,i1,k63,t0,t1⟩,hn,hm0,hm1,q⟩:=h;have hu:=a_ hr;have hcp:c≠p:=by
   rintro rfl;rw[hp] at hc
   cases cells<;>cases hc
  have sp:=aC hp;have fin:∀(a:Int) (H':Hp),bK H' p c (n+1)->KB [p,c] H H'->Q (.int (a % m)) H':=λa H' D k=>by
   have h0:=KZ a (Int.ne_of_gt hm0);have h1:=Km a hm0;have:=q (a % m).toNat H' (by lia) D k
   rwa [Int.toNat_of_nonneg h0] at this
  refine⟨_,(Z.ag (Z.asg (Z.op (Z.aN K rfl) (Z.ix (Z.ay K rfl hu) (Z.v 0) Z.int) Z.int) (Z.lu (Z.v 0) Z.int))
   (Z.ag (Z.cG (Z.aS aQ (Z.ix (Z.ay K rfl hu) (Z.v 0) Z.int) (Z.cb (Z.bB K rfl) rfl T.b8 (by decide +kernel) (Z.cons (Z.ix (Z.ay K rfl hu) (Z.v 0) Z.int) Z.nil))) (Z.ar (Z.ret (Z.op cg (Z.fn h_law_mix (hr.mono (by decide)) rfl aA (Z.cons (Z.ix (Z.ay K rfl hu) (Z.v 0) Z.int) (Z.cons (Z.ix (Z.ay K rfl hu) (Z.v 0) Z.int) Z.nil))) (Z.v 1)))) Z.bp)
   (Z.ag (Z.set (i:=2) gW.nd rfl (by right) (Z.ix (Z.ay K rfl hu) (Z.ix (Z.ay K rfl hu) (Z.v 0) Z.int) (Z.ix (Z.ay K rfl hu) (Z.v 0) Z.int)))
   (Z.ag (Z.cG (Z.aS gB (Z.v 2) (Z.op Ck Z.int Z.int)) (Z.ag (Z.asg (Z.op (Z.aN K rfl) (Z.ix (Z.ay K rfl hu) (Z.v 0) Z.int) Z.int) (Z.lu (Z.v 0) Z.int))
   (Z.ar (Z.ret (Z.op cg (Z.fn h_law_mix (hr.mono (by decide)) rfl aA (Z.cons (Z.v 2) (Z.cons (Z.ix (Z.ay K rfl hu) (Z.v 0) Z.int) Z.nil))) (Z.v 1))))) Z.bp)
   (Z.ag (Z.asg (Z.op lB (Z.v 2) (Z.v 1)) (Z.lu (Z.ix (Z.ay K rfl hu) (Z.v 0) Z.int) (Z.ix (Z.ay K rfl hu) (Z.v 0) Z.int)))
   (Z.ar (Z.ret (Z.op cg (Z.v 2) (Z.v 1))))))))),?_⟩
  have x1:mf 4 1=some 1:=by decide
  have x2:mf 4 2=some 2:=by decide
  refine ao λN hN=>?_;exists sp,hp,x2;have k1:KB [p,c] H (upd H p (.lst [.ref c,.int i,.int (t+1),.int z])):=KB.set (by simp)
  have p1:upd H p (.lst [.ref c,.int i,.int (t+1),.int z]) p=_:=aa;have c1:upd H p (.lst [.ref c,.int i,.int (t+1),.int z]) c=some (.lst (iV cells)):=by rw[ae hcp];exact hc
  generalize upd H p (.lst [.ref c,.int i,.int (t+1),.int z])=H1 at *;have s1:=aC p1;have sc:=aC c1;rw[hN];clear hN N;refine ao λN hN=>?_;exists s1,sc,bR;by_cases e1:i=(cells.length:Nat)
  ·exists Gn e1,s1;refine⟨_,_,rfl,by lia,by lia,λv=>?_⟩
   walk_at "rz";exact⟨hm0,fin v H1 ⟨cells,i,t+1,z,p1,c1,hn0,i0,i1,k63,by lia,by lia⟩ k1⟩
  ·rw[Gj e1,hN];clear hN N;obtain⟨j,rfl⟩:∃j:Nat,i=(j:Int):=⟨i.toNat,by lia⟩
   have hj:j<cells.length:=by lia
   have aj:=zV hj;have hv0:=hn0 _ (GS hj);refine ao λN hN=>?_;exists s1,sc,aj;generalize cells[j]=v at *;rw[hN];clear hN N;refine ao λN hN=>?_;walk_at "rz";refine⟨⟨by decide,by decide,by decide⟩,?_⟩
   by_cases e2:v<10^(18:Int).toNat
   ·rw[Gn e2];exists s1,p1,x1;have k2:KB [p,c] H1 (upd H1 p (.lst [.ref c,.int ((j:Int)+1),.int (t+1),.int z])):=KB.set (by simp)
    have p2:upd H1 p (.lst [.ref c,.int ((j:Int)+1),.int (t+1),.int z]) p=_:=aa;have c2:upd H1 p (.lst [.ref c,.int ((j:Int)+1),.int (t+1),.int z]) c=some (.lst (iV cells)):=by rw[ae hcp];exact c1
    generalize upd H1 p (.lst [.ref c,.int ((j:Int)+1),.int (t+1),.int z])=H2 at *;refine⟨_,_,rfl,by lia,by lia,λv=>?_⟩
    walk_at "rz";exact⟨hm0,fin v H2 ⟨cells,(j:Int)+1,t+1,z,p2,c2,hn0,by lia,by lia,k63,by lia,by lia⟩ (k1.trans k2)⟩
   ·rw[Gj e2,hN];clear hN N;have xj:mf (iV cells).length (j:Int)=some j:=by rw[jx (by lia) (by rw[bR];lia)];simp
    refine ao λM hM=>?_;exists s1,c1,xj;refine⟨⟨hm0,by lia⟩,?_⟩
    rw[mh];have k2:KB [p,c] H1 (upd H1 c (.lst (iV (cells.set j (v / m))))):=KB.set (by simp)
    have c2:upd H1 c (.lst (iV (cells.set j (v / m)))) c=_:=aa;have p2:upd H1 c (.lst (iV (cells.set j (v / m)))) p=_:=(ae hcp.symm).trans p1;generalize upd H1 c (.lst (iV (cells.set j (v / m))))=H2 at *;rw[hM];clear hM M;walk_at "rz";refine⟨hm0,fin v H2 ⟨cells.set j (v / m),j,t+1,z,p2,c2,λx hx=>?_,by lia,by rw[HE];lia,by rw[HE];exact k63,by lia,by lia⟩ (k1.trans k2)⟩
    rcases HG hx with hx|rfl
    ·exact hn0 x hx
    ·exact Int.ediv_nonneg hv0 (by lia)
noncomputable def NT(ex:List Addr)(H:Hp):Prop:=∀b∈ex,∀xs,H b≠some (.tup xs)
theorem NT.nil(H:Hp):NT [] H:=λb hb=>nomatch hb
theorem bK.nt{p:Addr}{n:Nat}(h:bK H p dq n):NT [p,dq] H:=λb hb xs e=>by
 obtain⟨ys,e'⟩:=h.lst b hb;rw[e] at e';cases e'
noncomputable def tY(H:Hp)(b:Addr)(bk:List (List Int)):Prop:=∃as:List Addr,H b=some (.tup (as.map V.ref))/\as.length=bk.length/\∀(i:Nat) (a:Addr),as[i]?=some a->H a=some (.tup (iV (bk.getD i [])))
theorem tY.keep{b:Addr}{bk:List (List Int)}(h:tY H b bk)(k:KB ex H H')(hx:NT ex H):tY H' b bk:=by
 obtain⟨as,h1,h2,h3⟩:=h;exact⟨as,k _ _ h1 λz=>hx _ z _ h1,h2,λi a e=>k _ _ (h3 i a e) λz=>hx _ z _ (h3 i a e)⟩
theorem tY.kb{b:Addr}{bk:List (List Int)}(h:tY H b bk)(k:KB [] H H'):tY H' b bk:=h.keep k (NT.nil _)
theorem pW{l:List α}(h:l.length=3):∃a b c,l=[a,b,c]:=by
 rcases l with _|⟨a,_|⟨b,_|⟨c,_|⟨d,l⟩⟩⟩⟩<;>first|exact⟨_,_,_,rfl⟩ | (exfalso;revert h;simp)
noncomputable def rg(K:LA):Sp:=λvs H Q _=>∃(b:Addr) (bk:List (List Int)),vs=[.ref b]/\tY H b bk/\Bk bk/\∀ca H',H ca=none->KB [] H H'->tV H' ca (fI bk)->Q (.ref ca) H'
theorem uG(T:Txt K mg)(F:HasFn K mg "codes_of" dD ["book"])(hcode_of:aq P w K mg base bc 4 "code_of" ["lengths"] (wC K)):aq P w K mg base bc 6 "codes_of" ["book"] (rg K):=by
 refine F.fW nO (λvs H Q E h=>?_) (λf cdv A outer s H vs Q E hr h=>?_)
 ·obtain⟨b,bk,rfl,_⟩:=h;rfl
 ·have hu:=a_ hr;obtain⟨b,bk,rfl,hb,hB,q⟩:=h;obtain⟨as,hb1,hb2,hb3⟩:=hb;obtain⟨l0,l1,l2,rfl,_,_,_,hl⟩:=hB;refine⟨_,(Z.ar (Z.ret (Z.comp (osc:=af dD) (ON:=["book"]) (own:=["lengths"]) (N:=["lengths","book"]) ⟨rfl,by decide +kernel,rfl,by decide +kernel,by decide +kernel,by decide +kernel,by decide +kernel,by decide +kernel⟩ rfl rfl rfl (Z.any K rfl (Z.v 0)) (λ_ _ _ _=>(Z.ba (i:=0) (show List.Nodup (["lengths","book"]:List Str) by decide +kernel) rfl (by right))) (λ_ _ _ _=>Z.zr) (λ_ _ _ _=>(Z.fn hcode_of (hr.mono (by decide)) rfl aA (Z.cons (Z.v 0) Z.nil)))))),?_⟩
  exists aH hb1;refine d9 (xs:=as.map V.ref) (Gr (show _<=3 by rw[Gu,hb2];exact Gp 3) (by decide)) (λD i ys H'=>H D=none/\H' D=some (.lst ys)/\KB [] H H'/\∃cs:List Addr,ys=cs.map V.ref/\cs.length=i/\∀(j:Nat) (c:Addr),cs[j]?=some c->H' c=some (.tup (wV (wordsOf Cw.dJ (List.getD [l0,l1,l2] j []))))) (λD hD=>⟨hD,aa,KB.new hD,[],rfl,rfl,λj c e=>nomatch e⟩) (λD i ys H' h=>⟨h.2.1,by obtain⟨_,_,_,cs,rfl,e,_⟩:=h;rw[Gu,e]⟩) (λD i ys H' h=>bz.of (h.2.2.1 _ _ hb1 (by simp))) ?_ ?_
  ·rintro D i ys H' x R hx ⟨g0,g1,g2,cs,rfl,g4,g5⟩ kk;obtain⟨a,ea,rfl⟩:∃a,as[i]?=some a/\x=.ref a:=by
    rw[G0] at hx;obtain⟨a,e,rfl⟩:=GO.mp hx;exact⟨a,e,rfl⟩
   have hi:i<3:=by have:=(Gm.mp ea).1;rw[hb2] at this;exact this
   have hm:List.getD [l0,l1,l2] i []∈[l0,l1,l2]:=by
    rcases pj hi with rfl|rfl|rfl<;>simp
   walk_at "rz";refine⟨a,_,rfl,g2 _ _ (hb3 i a ea) (by simp),(hl _ hm).1,(hl _ hm).2,λc H5 k5 e5=>?_⟩
   have gD:=k5 _ _ g1 (by simp)
   have cD:c≠D:=λz=>by rw[z,gD] at e5;cases e5
   refine kk _ _ gD ⟨g0,aa,λu o e _=>by rw[ae (ai e g0)];exact k5 _ _ (g2 _ _ e (by simp)) (by simp),cs++[c],by rw[GU];rfl,by rw[Gk,g4];rfl,λj d e=>?_⟩
   rcases Hr j cs.length with hj|hj
   ·rw[Hi hj] at e;have e6:=k5 _ _ (g5 j d e) (by simp)
    rw[ae (λz=>by rw[z,gD] at e6;cases e6)];exact e6
   ·rw[Ha hj] at e;obtain⟨hj2,rfl⟩:=Gm.mp e;have:j=i:=by simp at hj2;lia
    subst this;rw[ae (show _≠D by simpa using cD)]
    simpa using e5
  ·rintro D ys H' ⟨g0,g1,g2,cs,rfl,g4,g5⟩;rw[Gu,hb2] at g4;obtain⟨c0,c1,c2,rfl⟩:=pW g4;exact q D H' g0 g2 ⟨c0,c1,c2,g1,g5 0 c0 rfl,g5 1 c1 rfl,g5 2 c2 rfl⟩
theorem sM{β:Type}{R:α->β->Prop}{d:α}{e:β}{vs:List α}{ps:List β}(h:Paired R vs ps):∀i,i<ps.length->R (vs.getD i d) (ps.getD i e):=by
 induction h with
 |nil=>exactλi hi=>nomatch hi
 |cons h _ ih =>
  intro i hi
  cases i with
  |zero=>exact h
  |succ i=>exact ih i (Nat.lt_of_succ_lt_succ hi)
theorem map_getD:(List.range ((List.range ls.length).map (m5 ls)).length).map (λi=>((List.range ls.length).map (m5 ls)).getD i (0,0))=(List.range ls.length).map (m5 ls):=by
 refine Iw λi=>?_;rw[G0];rcases Hr i ls.length with c|c
 ·rw[IF (by simpa using c),G0,IF c];simp[c]
 ·rw[GX.mpr (by simpa using c),GX.mpr (by simpa using c)];rfl
noncomputable def lM(K:LA):Sp:=λvs H Q _=>∃(a:Addr) (ls:List Int),vs=[.ref a]/\H a=some (.tup (iV ls))/\jK ls/\m4 ls=true/\∀b H',H b=none->KB [] H H'->H' b=some (.lst (wV (wordsOf Cw.dJ ls)))->Q (.ref b) H'
theorem wb(T:Txt K mg)(F:HasFn K mg "_law_code" du ["lengths"])(h_law_bits:aq P w K mg base bc 1 "_law_bits" ["number","many"] iP):aq P w K mg base bc 2 "_law_code" ["lengths"] (lM K):=by
 refine F.fW bo (λvs H Q E h=>?_) (λf cdv A outer s H vs Q E hr h=>?_)
 ·obtain⟨a,ls,rfl,_⟩:=h;rfl
 ·have hu:=a_ hr;obtain⟨a,ls,rfl,ha,hL,ho,q⟩:=h;refine⟨_,(Z.ag (Z.set (i:=1) bo.nd rfl (by right) (Z.op cp (Z.lst (Z.cons Z.str Z.nil)) (Z.cb (Z.bB K rfl) rfl T.b8 (by decide +kernel) (Z.cons (Z.v 0) Z.nil))))
   (Z.ag (Z.set (i:=2) bo.nd rfl (by right) Z.int)
   (Z.ag (Z.set (i:=3) bo.nd rfl (by right) Z.int)
   (Z.ag (Z.eF GP rfl (Z.any K rfl (Z.cb (Y.oO K rfl) rfl T.jm (by decide +kernel) (Z.cons (Z.comp (osc:=af du) (ON:=["lengths","found","number","size","length","thing","k"]) (own:=["thing","length"]) (N:=["thing","length","lengths","found","number","size",".length",".thing","k"]) ⟨rfl,by decide +kernel,rfl,by decide +kernel,by decide +kernel,by decide +kernel,by decide +kernel,by decide +kernel⟩ rfl rfl rfl (Z.enum K rfl rfl T.fG (Z.cons (Z.v 0) Z.nil)) (λ_ _ _ _=>(Z.rJ (n:=2) K rfl rfl (Z.cC (Z.ba (i:=0) (show List.Nodup (["thing","length","lengths","found","number","size",".length",".thing","k"]:List Str) by decide +kernel) rfl (by right)) (Z.cC (Z.ba (i:=1) (show List.Nodup (["thing","length","lengths","found","number","size",".length",".thing","k"]:List Str) by decide +kernel) rfl (by right)) Z.jl)))) (λ_ _ _ _=>Z.zr) (λ_ _ _ _=>(Z.tup (Z.cons (Z.v 1) (Z.cons (Z.v 0) Z.nil))))) Z.nil))) (Z.rJ (n:=2) K rfl rfl (Z.cC (Z.ba (i:=4) bo.nd rfl (by right)) (Z.cC (Z.ba (i:=5) bo.nd rfl (by right)) Z.jl))) (Z.ag (Z.eF GP rfl (Z.mV rfl T.cZ (Z.cons (Z.op bZ (Z.v 4) (Z.v 3)) Z.nil)) (Z.ba (i:=6) bo.nd rfl (by right)) (Z.ar (Z.set (i:=2) bo.nd rfl (by right) (Z.op cp (Z.v 2) Z.int))))
   (Z.ag (Z.set (i:=3) bo.nd rfl (by right) (Z.v 4))
   (Z.ag (Z.asg (Z.fn h_law_bits (hr.mono (by decide)) rfl aA (Z.cons (Z.v 2) (Z.cons (Z.v 4) Z.nil))) (Z.lu (Z.v 1) (Z.v 5)))
   (Z.ar (Z.set (i:=2) bo.nd rfl (by right) (Z.op (Z.aN K rfl) (Z.v 2) Z.int)))))))
   (Z.ar (Z.ret (Z.v 1))))))),?_⟩
  have hl20:=hL.2.1;refine ao λN hN=>?_;walk_at "rz";refine⟨by decide,λp0 hp0=>?_⟩
  have k1:KB [] H (upd H p0 (.lst [.str (Str.ofString "")])):=KB.new hp0;have s1:upd H p0 (.lst [.str (Str.ofString "")]) p0=_:=aa;generalize upd H p0 (.lst [.str (Str.ofString "")])=H1 at *;have ha1:=k1 _ _ ha (by simp)
  exists aH ha1,bR;refine⟨p0,_,_,rfl,rfl,s1,by lia,by lia,Gr (show _<=20 by simp;lia) (by decide),λfd hfd=>?_⟩
  have er:(List.replicate ls.length [V.str (Str.ofString "")]).flatten=wV (List.replicate ls.length []):=by
   rw[jH];unfold wV;rw[Kk];generalize ls.length=n
   induction n with
   |zero=>rfl
   |succ n ih=>rw[Hh,Iv,ih];rfl
  rw[GW,er];have k2:KB [] H1 (upd H1 fd (.lst (wV (List.replicate ls.length [])))):=KB.new hfd;have s2:upd H1 fd (.lst (wV (List.replicate ls.length []))) fd=_:=aa;generalize upd H1 fd (.lst (wV (List.replicate ls.length [])))=H2 at *;have fd0:H fd=none:=k1.free (by simp) hfd
  have h02:=k1.trans k2;clear k1 s1 hp0 ha1 er k2 hfd;rw[hN];clear hN N H1;refine ao λN hN=>?_;walk_at "rz";rw[hN];clear hN N;refine ao λN hN=>?_;walk_at "rz";rw[hN];clear hN N;refine ao λN hN=>?_;walk_at "rz";have ha2:=h02 _ _ ha (by simp)
  refine⟨⟨_,bz.of ha2⟩,?_⟩;refine mS (xs:=iV ls) (Gr (show _<=20 by rw[bR];exact hl20) (by decide)) (λD i ys H'=>H2 D=none/\H' D=some (.lst ys)/\KB [] H2 H'/\i<=ls.length/\ys.length=i/\Paired (Y.Ds H') ys ((List.range i).map (m5 ls))) (λD hD=>⟨hD,aa,KB.new hD,GH _,rfl,.nil⟩) (λD i ys H' h=>⟨h.2.1,h.2.2.2.2.1⟩) (λD i ys H' h=>bz.of (h.2.2.1 _ _ ha2 (by simp))) ?_ ?_
  ·rintro D i ys H' x p R hx ⟨g0,g1,g2,g3,g4,g5⟩ hp kk;obtain⟨hi,rfl⟩:=jL hx;have k3:KB [] H' (upd H' p (.tup [.int (i:Nat),.int ls[i]])):=KB.new hp;generalize upd H' p (.tup [.int (i:Nat),.int ls[i]])=H3 at *;walk_at "rz";refine⟨by decide,λt ht=>?_⟩
   have k4:KB [] H3 (upd H3 t (.tup [.int ls[i],.int (i:Nat)])):=KB.new ht;have s4:upd H3 t (.tup [.int ls[i],.int (i:Nat)]) t=_:=aa;generalize upd H3 t (.tup [.int ls[i],.int (i:Nat)])=H4 at *;have k34:=k3.trans k4;have gD:=k34 _ _ g1 (by simp)
   have tD:t≠D:=λz=>by rw[z,gD] at s4;cases s4
   have up:∀{v:V} {q:Int×Int},Y.Ds H4 v q->Y.Ds (upd H4 D (.lst (ys++[.ref t]))) v q:=λ{v q} h=>by
    obtain⟨r,e1,e2⟩:=h;exact⟨r,e1,by rw[ae (λz=>by rw[z,gD] at e2;cases e2)];exact e2⟩
   refine kk _ _ gD ⟨g0,aa,λb o e _=>by rw[ae (ai e g0)];exact k34 _ _ (g2 _ _ e (by simp)) (by simp),hi,by rw[Gk,g4];rfl,?_⟩
   rw[JP,GU];refine Paired.snoc (Paired.wN g5 λ_ _ h=>up ?_) (up ⟨t,rfl,?_⟩)
   ·obtain⟨r,e1,e2⟩:=h;exact⟨r,e1,k34 _ _ e2 (by simp)⟩
   ·rw[s4];unfold m5;simp[hi]
  rintro D ys H3 ⟨g0,g1,g2,_,g4,g5⟩;rw[bR] at g4 g5;have hpl:((List.range ls.length).map (m5 ls)).length=ls.length:=by rw[Gu,He]
  refine⟨D,ys,_,rfl,bY.of g1,g5,by rw[hpl];lia,λix hix hup l hl=>?_⟩
  have hpm:=hix.map λi=>((List.range ls.length).map (m5 ls)).getD i (0,0);rw[map_getD] at hpm;obtain⟨eo,hR⟩:=sT hpm hup;have hup2:=C4 hR;have k4:KB [] H3 (upd H3 l (.lst (ix.map λi=>ys.getD i .aP))):=KB.new hl;have s4:upd H3 l (.lst (ix.map λi=>ys.getD i .aP)) l=_:=aa;have hit:∀(j:Nat) (x:V),(ix.map λi=>ys.getD i .aP)[j]?=some x->∃(hj:j<(aI ls).length) (r:Addr),x=.ref r/\H3 r=some (.tup [.int (ls.getD (aI ls)[j] 0),.int ((aI ls)[j]:Nat)]):=λj x hx=>by
   rw[G0] at hx;obtain⟨i,ei,rfl⟩:=GO.mp hx;have hi:i<((List.range ls.length).map (m5 ls)).length:=HK.mp (hix.mem_iff.mp (Hx ei));obtain⟨r,e1,e2⟩:=sM (d:=V.aP) (e:=(0,0)) g5 i hi;have e3:(ix.map λi=>((List.range ls.length).map (m5 ls)).getD i (0,0))[j]?=some (((List.range ls.length).map (m5 ls)).getD i (0,0)):=by rw[G0,ei];rfl
   rw[eo,G0] at e3;obtain⟨t,et,e4⟩:=GO.mp e3;obtain⟨hj,rfl⟩:=Gm.mp et;exact⟨hj,r,e1,by rw[e2,<- e4];rfl⟩
  have hxl:(ix.map λi=>ys.getD i .aP).length=(aI ls).length:=by
   have:=Hj List.length eo;rw[Gu,Gu] at this;rw[Gu,this]
  generalize (ix.map λi=>ys.getD i .aP)=xs at *;generalize upd H3 l (.lst xs)=H4 at *;have gF:=k4 _ _ (g2 _ _ s2 (by simp)) (by simp)
  have lF:l≠fd:=λz=>by
   have:=g2 _ _ s2 (by simp)
   rw[<- z,hl] at this;cases this
  have h04:KB [] H H4:=h02.trans (g2.trans k4);have hit4:∀(j:Nat) (x:V),xs[j]?=some x->∃(hj:j<(aI ls).length) (r:Addr),x=.ref r/\H4 r=some (.tup [.int (ls.getD (aI ls)[j] 0),.int ((aI ls)[j]:Nat)]):=λj x hx=>by
   obtain⟨hj,r,e1,e2⟩:=hit j x hx;exact⟨hj,r,e1,k4 _ _ e2 (by simp)⟩
  clear hit g0 g1 g2 g4 g5 hpl hix hup hl k4 hpm eo hR h02 ha2 s2;have h40:∀t∈aI ls,ls.getD t 0=(aT ls t:Int)/\aT ls t<=40/\t<ls.length:=λt ht=>by
   have h:=gS ht;have:=hL.2.2 _ (GS h);unfold aT;rw[Gv,Gi h];show ls[t]=((ls[t].toNat:Nat):Int)/\ls[t].toNat<=40/\_;exact⟨by lia,by lia,h⟩
  exists aC s4;refine eM (xs:=xs) (λi σ H'=>∃(a':Option (List Nat)) (ws:List (List Nat)) (n h:Int) (o4 o5 o6:Option V),At ls ((aI ls).take i) ((aI ls).drop i) a' n h/\Cw.along Cw.eJ (aT ls) ((aI ls).take i) (none,List.replicate ls.length [])=(a',ws)/\ws.length=ls.length/\KB [fd] H4 H'/\KB [] H H'/\H' fd=some (.lst (wV ws))/\σ=[some (.ref a),some (.ref fd),some (.int (n+1)),some (.int h),o4,o5,o6]) ⟨none,_,-1,0,none,none,none,⟨rfl,.inl ⟨rfl,rfl,rfl,rfl⟩⟩,rfl,GB ..,KB.refl _ _,h04,gF,rfl⟩ (λi σ H' _ h=>by obtain⟨_,_,_,_,_,_,_,_,_,_,kF,_⟩:=h;exact bY.of (kF _ _ s4 (by simpa using lF))) ?_ ?_
  ·rintro i x σ H' hx ⟨a',ws,n,h,o4,o5,o6,hA,hal,hwl,kF,h0',gF',rfl⟩;obtain⟨hj,r,rfl,er⟩:=hit4 i x hx;have rF:r≠fd:=λz=>by rw[z,gF] at er;cases er
   have er':=kF _ _ er (by simpa using rF)
   have ed:(aI ls).drop i=(aI ls)[i]::(aI ls).drop (i+1):=HZ hj;have eT:(aI ls).take (i+1)=(aI ls).take i++[(aI ls)[i]]:=by rw[Kf,Gi hj];rfl
   rw[ed] at hA;rw[eT];obtain⟨hx1,hx2,hx3⟩:=h40 _ (GS hj);obtain⟨d,e1,e0,e2,e3,e4,hA2⟩:=hA.next hL ho hup2;have hal2:Cw.along Cw.eJ (aT ls) ((aI ls).take i++[(aI ls)[i]]) (none,List.replicate ls.length [])=(some (jP a' (aT ls (aI ls)[i])),ws.set (aI ls)[i] (jP a' (aT ls (aI ls)[i]))):=by
    rw[Cw.eU,hal]
    cases a'<;>rfl
   rw[hx1] at er';generalize (aI ls)[i]=t at *;generalize aT ls t=l at *;generalize hw':jP a' l=w' at *;refine⟨r,_,rfl,bz.of er',rfl,_,_,rfl,_,_,rfl,rfl,?_⟩;refine ao λM hM=>?_;exists e1;refine⟨by lia,by lia,?_⟩
   rw[GW];refine cf (λj σ G=>G=H'/\∃o6:Option V,σ=[some (.ref a),some (.ref fd),some (.int ((n+1)*2^j)),some (.int h),some (.int (l:Nat)),some (.int (t:Nat)),o6]) ⟨rfl,o6,by rw[Int.pow_zero,Int.mul_one]⟩ ?_ ?_
   ·rintro j σ G hj ⟨rfl,o6,rfl⟩;unfold bj;refine jN λM hM=>?_;walk_at "rz";refine⟨.inr (by decide),?_⟩
    rw[hM];exact⟨rfl,some _,by rw[show (n+1)*2^j*2=(n+1)*2^(j+1) from by rw[Int.pow_succ,<- Int.mul_assoc]]⟩
   ·rintro σ G ⟨rfl,o6,rfl⟩;rw[e2];show M _ _;rw[hM];clear hM M;refine ao λM hM=>?_;walk_at "rz";rw[hM];clear hM M;refine ao λM hM=>?_;walk_at "rz";refine⟨_,l,rfl,hx2,?_⟩;rw[sA l w' [] e3 e4,Ia];have ixw:mf (wV ws).length (t:Int)=some t:=by rw[jx (by lia) (by rw[lG,hwl];lia)];simp
    have sw:(wV ws).set t (.str (wd w'))=wV (ws.set t w'):=by unfold wV;rw[JU]
    exists gF',ixw,sw;rw[hM];clear hM M;dsimp only;refine jN λM hM=>?_;walk_at "rz";rw[hM];refine⟨some w',ws.set t w',_,_,some _,some _,o6,hA2,hal2,by rw[List.length_set,hwl],λb o e z=>?_,λb o e _=>?_,aa,rfl⟩
    ·rw[ae (by simpa using z)];exact kF _ _ e z
    ·rw[ae (ai e fd0)];exact h0' _ _ e (by simp)
  ·rintro σ H' ⟨a',ws,n,h,o4,o5,o6,hA,hal,_,_,h0',gF',rfl⟩;rw[hxl,IB] at hal;have ew:wordsOf Cw.dJ ls=ws:=by
    unfold wordsOf;rw[Cw.gj (aI ls) [] none _ hup2 (λt ht=>(h40 t ht).2.1) (λv z=>by cases z) (λ_=>rfl) (by rw[HF,x8];exact Ht ho),hal]
   show N _ _;rw[hN];clear hN N;walk_at "rz";rw[ew] at q;exact q fd H' fd0 h0' gF'
theorem Dj(l:List Nat)(a:Nat):(iV (nZ l)).eraseIdx a=iV (nZ (l.eraseIdx a)):=by
 unfold iV nZ;simp only[JI,GU,Lq,List.map_drop]
theorem uX(l:List Nat)(n k:Nat):hU (iV (nZ l)) n (V.int (k:Int))=iV (nZ (hU l n k)):=by
 unfold hU iV nZ;simp only[GU,Lq,List.map_drop,Hd]
theorem eZ(l:List Nat):(iV (nZ l)).length=l.length:=by rw[bR,ie]
noncomputable def oR(K:LA):Sp:=λvs H Q _=>∃(p dq:Addr) (m n:Nat),vs=[.ref p,.int (m:Nat)]/\bK H p dq n/\n<2^40/\2<=m/\m<=17/\∀(ls:List Int) (a:Addr) H',bK H' p dq (n+60)->KB [p,dq] H H'->H' a=some (.tup (iV ls))->ls.length=m->jK ls->m4 ls=true->Q (.ref a) H'
theorem uF(T:Txt K mg)(F:HasFn K mg "_law_lengths" cN ["deck","many"])(h_law_draw:aq P w K mg base bc 2 "_law_draw" ["deck","most"] gu):aq P w K mg base bc 3 "_law_lengths" ["deck","many"] (oR K):=by
 refine F.fW bW (λvs H Q E h=>?_) (λf cdv A outer s H vs Q E hr h=>?_)
 ·obtain⟨p,dq,m,n,rfl,_⟩:=h;rfl
 ·have hu:=a_ hr;obtain⟨p,dq,m,n,rfl,hd,hn,hm2,hm,q⟩:=h;refine⟨_,(Z.ag (Z.set (i:=2) bW.nd rfl (by right) (Z.lst (Z.cons Z.int Z.nil)))
   (Z.ag (Z.eF GP rfl (Z.mV rfl T.cZ (Z.cons (Z.op bZ (Z.v 1) Z.int) Z.nil)) (Z.ba (i:=3) bW.nd rfl (by right)) (Z.ag (Z.set (i:=4) bW.nd rfl (by right) (Z.op (Z.aN K rfl) (Z.bm K rfl PySem.F.plainAttrs_list PySem.F.slot_list_pop PySem.F.type_list_pop mE (Z.v 2) (Z.cons (Z.fn h_law_draw (hr.mono (by decide)) rfl aA (Z.cons (Z.v 0) (Z.cons (Z.cb (Z.bB K rfl) rfl T.b8 (by decide +kernel) (Z.cons (Z.v 2) Z.nil)) Z.nil))) Z.nil)) Z.int))
   (Z.ag (Z.expr (Z.bm K rfl PySem.F.plainAttrs_list PySem.F.slot_list_insert PySem.F.type_list_insert kK (Z.v 2) (Z.cons (Z.fn h_law_draw (hr.mono (by decide)) rfl aA (Z.cons (Z.v 0) (Z.cons (Z.op (Z.aN K rfl) (Z.cb (Z.bB K rfl) rfl T.b8 (by decide +kernel) (Z.cons (Z.v 2) Z.nil)) Z.int) Z.nil))) (Z.cons (Z.v 4) Z.nil))))
   (Z.ar (Z.expr (Z.bm K rfl PySem.F.plainAttrs_list PySem.F.slot_list_insert PySem.F.type_list_insert kK (Z.v 2) (Z.cons (Z.fn h_law_draw (hr.mono (by decide)) rfl aA (Z.cons (Z.v 0) (Z.cons (Z.op (Z.aN K rfl) (Z.cb (Z.bB K rfl) rfl T.b8 (by decide +kernel) (Z.cons (Z.v 2) Z.nil)) Z.int) Z.nil))) (Z.cons (Z.v 4) Z.nil))))))))
   (Z.ag (Z.cG (Z.aS aQ (Z.fn h_law_draw (hr.mono (by decide)) rfl aA (Z.cons (Z.v 0) (Z.cons Z.int Z.nil))) Z.int) (Z.ag (Z.set (i:=5) bW.nd rfl (by right) (Z.fn h_law_draw (hr.mono (by decide)) rfl aA (Z.cons (Z.v 0) (Z.cons (Z.v 1) Z.nil))))
   (Z.ar (Z.asg (Z.cb (sm rfl) rfl T.El (by decide +kernel) (Z.cons Z.int (Z.cons (Z.op (Z.aN K rfl) (Z.op (Z.aN K rfl) (Z.ix (Z.ay K rfl hu) (Z.v 2) (Z.v 5)) Z.int) (Z.fn h_law_draw (hr.mono (by decide)) rfl aA (Z.cons (Z.v 0) (Z.cons Z.int Z.nil)))) Z.nil))) (Z.lu (Z.v 2) (Z.v 5))))) Z.bp)
   (Z.ar (Z.ret (Z.ct (Z.c_ K rfl) rfl T.cB (by decide +kernel) (Z.cons (Z.v 2) Z.nil))))))),?_⟩
  refine ao λN hN=>?_;walk_at "rz";refine⟨by decide,λd hd0=>?_⟩
  have k1:KB [] H (upd H d (.lst [.int 0])):=KB.new hd0;have s1:upd H d (.lst [.int 0]) d=some (.lst (iV (nZ [0]))):=aa;generalize upd H d (.lst [.int 0])=H1 at *;have nd:=hd.new hd0;have dp:p≠d:=λz=>nd (by simp[z])
  have ddq:dq≠d:=λz=>nd (by simp[z])
  rw[hN];clear hN N;refine ao λN hN=>?_;walk_at "rz";refine⟨by lia,by lia,?_⟩
  have setD:∀{G:Hp} {n:Nat} {o:HO},bK G p dq n->bK (upd G d o) p dq n:=λh=>h.keep (KB.set (ex:=[d]) (by simp)) (by simpa using dp) (by simpa using ddq)
  have keep:∀{G G':Hp},KB [p,dq] H G->KB [p,dq] G G'->KB [p,dq] H G':=λa b=>a.trans b;have keepD:∀{G:Hp} {o:HO},KB [p,dq] H G->KB [p,dq] H (upd G d o):=λa b o e z=>by rw[ae (ai e hd0)];exact a b o e z
  refine cf (λi σ H'=>∃(l:List Nat) (o3 o4:Option V),Pt l/\l.length=i+1/\bK H' p dq (n+3*i)/\KB [p,dq] H H'/\H' d=some (.lst (iV (nZ l)))/\σ=[some (.ref p),some (.int (m:Nat)),some (.ref d),o3,o4,none]) ⟨[0],none,none,⟨by decide,by simp,.inl rfl⟩,rfl,hd.kb k1,k1.all,s1,rfl⟩ ?_ ?_
  ·rintro i σ H' hi ⟨l,o3,o4,hl,hli,hD,hk,gd,rfl⟩;unfold bj;refine ao λM hM=>?_;exists aC gd,eZ;refine⟨.inl ⟨rfl,_,bY.of gd⟩,p,dq,_,_,rfl,hD,by lia,by lia,by lia,λa H2 ha D2 k2=>?_⟩
   have ha':a<l.length:=by lia
   have hle:=l.length_eraseIdx_of_lt ha';have gd2:=k2 _ _ gd nd;have six:seqIndex? (a:Int) (iV (nZ l)).length=some a:=by
    rw[eZ];unfold seqIndex?;simp;lia
   have enZ:(iV (nZ l))[a]?=some (.int ((l[a]:Nat):Int)):=by unfold iV nZ;rw[G0,G0,Gi ha'];rfl
   refine⟨d,_,_,a,_,rfl,rfl,gd2,by lia,by lia,six,enZ,?_⟩
   rw[Dj];have D3:=setD (o:=.lst (iV (nZ (l.eraseIdx a)))) D2;have K3:=keepD (o:=.lst (iV (nZ (l.eraseIdx a)))) (hk.trans k2);have g3:upd H2 d (.lst (iV (nZ (l.eraseIdx a)))) d=_:=aa;generalize upd H2 d (.lst (iV (nZ (l.eraseIdx a))))=H3 at *;walk_at "rz";rw[show ((l[a]:Nat):Int)+1=((l[a]+1:Nat):Int) from rfl,hM];clear hM M;refine ao λM hM=>?_;exists aC g3,eZ,hle;refine⟨.inl ⟨rfl,_,bY.of g3⟩,p,dq,_,_,rfl,D3,by lia,by lia,by lia,λv H4 hv D4 k4=>?_⟩
   have g4:=k4 _ _ g3 nd;refine⟨d,_,_,_,rfl,rfl,g4,by lia,by lia,Im (show _<=20 by rw[eZ];lia) (by decide),?_⟩
   rw[eZ,uX,hle];generalize hl2:hU (l.eraseIdx a) (min (v:Int).toNat (l.length-1)) (l[a]+1)=l2;have le2:l2.length=l.length:=by rw[<- hl2,xS,hle];lia
   have pe2:l2.Perm ((l[a]+1)::l.eraseIdx a):=by rw[<- hl2];exact mY ..
   clear hl2;have D5:=setD (o:=.lst (iV (nZ l2))) D4;have K5:=keepD (o:=.lst (iV (nZ l2))) (K3.trans k4);have g5:upd H4 d (.lst (iV (nZ l2))) d=_:=aa;generalize upd H4 d (.lst (iV (nZ l2)))=H5 at *;rw[hM];clear hM M;dsimp only;refine jN λM hM=>?_;exists aC g5,eZ;refine⟨.inl ⟨rfl,_,bY.of g5⟩,p,dq,_,_,rfl,D5,by lia,by lia,by lia,λv H6 hv D6 k6=>?_⟩
   have g6:=k6 _ _ g5 nd;refine⟨d,_,_,_,rfl,rfl,g6,by lia,by lia,Im (show _<=20 by rw[eZ];lia) (by decide),?_⟩
   rw[eZ,uX];obtain⟨hP3,hL3⟩:=hl.next ha' (by lia) ((mY l2 (min (v:Int).toNat l2.length) (l[a]+1)).trans (List.Perm.cons _ pe2))
   rw[hM];exact⟨_,some _,some _,hP3,by lia,(setD D6).mono (by lia),keepD (K5.trans k6),aa,rfl⟩
  ·rintro σ H' ⟨l,o3,o4,hl,hli,hD,hk,gd,rfl⟩;have hlm:l.length=m:=by lia
   show N _ _;rw[hN];clear hN N;have h1:∀x∈l,1<=x:=by
    rcases hl.one with e|e
    ·exfalso;rw[e] at hlm;simp at hlm;lia
    ·exact e
   have fin:∀(l:List Nat) (G:Hp),G d=some (.lst (iV (nZ l)))->KB [p,dq] H G->l.length=m->(∀x∈l,1<=x/\x<=20)->Kr.ks 40 l<=2^40->bK G p dq (n+60)->∀t,G t=none->Q (.ref t) (upd G t (.tup (iV (nZ l)))):=λl G hg hK a b c e t ht=>by
    refine q (nZ l) t _ (e.kb (KB.new ht)) (hK.trans (KB.new ht)) aa (by rw[ie];exact a) ⟨by rw[ie];lia,by rw[ie];lia,λx hx=>?_⟩ (AO c)
    obtain⟨y,hy,rfl⟩:=HS.mp hx;have:=b y hy;exact⟨by lia,by lia⟩
   refine ao λN hN=>?_;walk_at "rz";refine⟨p,dq,2,_,rfl,hD,by lia,by decide,by decide,λv H2 hv D2 k2=>?_⟩
   have g2:=k2 _ _ gd nd;by_cases c:(v:Int)=0
   ·exists Gn c;refine⟨p,dq,(m:Nat),_,rfl,D2,by lia,by lia,by lia,λa H3 ha D3 k3=>?_⟩
    have g3:=k3 _ _ g2 nd;have ha':a<l.length:=by lia
    have ea:bV (iV (nZ l)) (a:Int)=some (.int ((l[a]:Nat):Int)):=bM (by unfold iV nZ;rw[G0,G0,Gi ha'];rfl)
    exists aC g3,ea;refine⟨p,dq,5,_,rfl,D3,by lia,by decide,by decide,λv H4 hv D4 k4=>?_⟩
    have g4:=k4 _ _ g3 nd;obtain⟨nz,enz,hnz⟩:∃nz:Nat,(if ((l[a]:Nat):Int)+1+(v:Int)<20 then ((l[a]:Nat):Int)+1+(v:Int) else 20)=(nz:Int)/\l[a]<=nz/\nz<=20:=by
     have:=hl.le _ (GS ha');by_cases c:((l[a]:Nat):Int)+1+(v:Int)<20
     ·rw[Gn c];exact⟨l[a]+1+v,by lia,by lia,by lia⟩
     ·rw[Gj c];exact⟨20,rfl,by lia,by lia⟩
    have ei:mf (iV (nZ l)).length (a:Int)=some a:=by rw[eZ,jx (by lia) (by lia)];simp
    exists enz,g4,ei;have es:(iV (nZ l)).set a (.int (nz:Int))=iV (nZ (l.set a nz)):=by unfold iV nZ;rw[JU,JU]
    rw[es];have D5:=setD (o:=.lst (iV (nZ (l.set a nz)))) D4;have K5:=keepD (o:=.lst (iV (nZ (l.set a nz)))) ((hk.trans k2).trans (k3.trans k4));have g5:upd H4 d (.lst (iV (nZ (l.set a nz)))) d=_:=aa;generalize upd H4 d (.lst (iV (nZ (l.set a nz))))=H5 at *;rw[hN];clear hN N;exists aC g5;refine fin _ H5 g5 K5 (by rw[HE];exact hlm) (λx hx=>?_) (Gr (vp ha' hnz.1) (K1 hl.ks)) (D5.mono (by lia))
    rcases HG hx with hx|rfl
    ·exact⟨h1 x hx,by have:=hl.le x hx;lia⟩
    ·exact⟨by have:=h1 _ (GS ha');lia,hnz.2⟩
   ·exists Gj c;rw[hN];clear hN N;exists aC g2;exact fin l H2 g2 (hk.trans k2) hlm (λx hx=>⟨h1 x hx,by have:=hl.le x hx;lia⟩) (K1 hl.ks) (D2.mono (by lia))
noncomputable def xx(K:LA):Sp:=λvs H Q _=>∃(p dq:Addr) (n:Nat),vs=[.ref p]/\bK H p dq n/\n<2^38/\∀(bk:List (List Int)) (b:Addr) H',bK H' p dq (n+200)->KB [p,dq] H H'->tY H' b bk->Bk bk->Q (.ref b) H'
theorem zo(T:Txt K mg)(F:HasFn K mg "_law_book" dn ["deck"])(h_law_draw:aq P w K mg base bc 2 "_law_draw" ["deck","most"] gu)(h_law_lengths:aq P w K mg base bc 3 "_law_lengths" ["deck","many"] (oR K)):aq P w K mg base bc 4 "_law_book" ["deck"] (xx K):=by
 refine F.fW lK (λvs H Q E h=>?_) (λf cdv A outer s H vs Q E hr h=>?_)
 ·obtain⟨p,dq,n,rfl,_⟩:=h;rfl
 ·have hu:=a_ hr;obtain⟨p,dq,n,rfl,hd,hn,q⟩:=h;refine⟨_,(Z.ag (Z.cG (Z.aS aQ (Z.fn h_law_draw (hr.mono (by decide)) rfl aA (Z.cons (Z.v 0) (Z.cons Z.int Z.nil))) Z.int) (Z.ar (Z.ret (Z.tup (Z.cons (Z.op (Y.lT K rfl) (Z.tup (Z.cons Z.int Z.nil)) Z.int) (Z.cons (Z.op (Y.lT K rfl) (Z.tup (Z.cons Z.int Z.nil)) Z.int) (Z.cons (Z.op (Y.lT K rfl) (Z.tup (Z.cons Z.int Z.nil)) Z.int) Z.nil)))))) Z.bp)
   (Z.ar (Z.ret (Z.ct (Z.c_ K rfl) rfl T.cB (by decide +kernel) (Z.cons (Z.comp (osc:=af dn) (ON:=["deck"]) (own:=["many"]) (N:=["many","deck"]) ⟨rfl,by decide +kernel,rfl,by decide +kernel,by decide +kernel,by decide +kernel,by decide +kernel,by decide +kernel⟩ rfl rfl rfl (Z.any K rfl (Z.tup (Z.consts rfl))) (λ_ _ _ _=>(Z.ba (i:=0) (show List.Nodup (["many","deck"]:List Str) by decide +kernel) rfl (by right))) (λ_ _ _ _=>Z.zr) (λ_ _ _ _=>(Z.fn h_law_lengths (hr.mono (by decide)) rfl aA (Z.cons (Z.v 1) (Z.cons (Z.v 0) Z.nil))))) Z.nil))))),?_⟩
  refine ao λN hN=>?_;walk_at "rz";refine⟨p,dq,4,_,rfl,hd,by lia,by decide,by decide,λv H1 hv D1 k1=>?_⟩
  by_cases c:(v:Int)=0
  ·exists Gn c;have rep:∀(G:Hp) (j k:Int) (Q:VK),1<k->k<=20->(∀t u G',KB [] G G'->G t=none->u≠t->G' u=some (.tup (iV (List.replicate k.toNat j)))->Q (.ref u) G')->(0+1<=sizeLine/\∀t,G t=none->Y.Ad K (.ref t) (.int k) (upd G t (.tup [.int j])) Q):=λG j k Q h1 h2 q=>by
    refine⟨by decide,λt ht=>.inr ⟨t,k,_,rfl,rfl,bz.of aa,by simp,(show 1<=1000 by decide),h1,by lia,λu hu=>?_⟩⟩
    have e:(List.replicate k.toNat [V.int j]).flatten=iV (List.replicate k.toNat j):=by
     unfold iV;rw[Kk];generalize k.toNat=m
     induction m with
     |zero=>rfl
     |succ m ih=>rw[Hh,Iv,ih];rfl
    rw[e];have ut:u≠t:=λz=>by rw[z,aa] at hu;cases hu
    exact q t u _ ((KB.new ht).trans (KB.new hu)) ht ut aa
   refine rep H1 4 9 _ (by decide) (by decide) λt1 u1 G1 g1 _ _ e1=>?_
   refine rep G1 5 17 _ (by decide) (by decide) λt2 u2 G2 g2 _ _ e2=>?_
   refine rep G2 3 8 _ (by decide) (by decide) λt3 u3 G3 g3 _ _ e3=>⟨by decide,λb hb=>?_⟩
   have kk:KB [] H1 (upd G3 b (.tup [.ref u1,.ref u2,.ref u3])):=((g1.trans g2).trans g3).trans (KB.new hb);have up:∀{x:Addr} {o:HO},G3 x=some o->upd G3 b (.tup [.ref u1,.ref u2,.ref u3]) x=some o:=λe=>by rw[ae (ai e hb)];exact e
   refine q [List.replicate 9 4,List.replicate 17 5,List.replicate 8 3] b _ ((D1.kb kk).mono (by lia)) (k1.trans kk.all) ⟨[u1,u2,u3],aa,rfl,λi a e=>?_⟩ ⟨_,_,_,rfl,rfl,rfl,rfl,λl hl=>?_⟩
   ·have hi:i<3:=(Gm.mp e).1;rcases pj hi with rfl|rfl|rfl
    ·cases e;exact up (g3 _ _ (g2 _ _ e1 (by simp)) (by simp))
    ·cases e;exact up (g3 _ _ e2 (by simp))
    ·cases e;exact up e3
   have rr:∀(n:Nat) (k:Int),0<n->n<=20->1<=k->k<=20->jK (List.replicate n k):=λn k a b c d=>⟨by rw[GB];exact a,by rw[GB];exact b,λx hx=>by rw[(HJ.mp hx).2];lia⟩
   rcases Gs.mp hl with rfl|hl
   ·exact⟨rr 9 4 (by decide) (by decide) (by decide) (by decide),by decide +kernel⟩
   ·rcases Gs.mp hl with rfl|hl
    ·exact⟨rr 17 5 (by decide) (by decide) (by decide) (by decide),by decide +kernel⟩
    ·rw[GA.mp hl];exact⟨rr 8 3 (by decide) (by decide) (by decide) (by decide),by decide +kernel⟩
  ·exists Gj c;rw[hN];clear hN N;walk_at "rz";refine⟨by decide,λt ht=>?_⟩
   have k2:KB [] H1 (upd H1 t (.tup [.int 9,.int 17,.int 8])):=KB.new ht;have s2:upd H1 t (.tup [.int 9,.int 17,.int 8]) t=some (.tup (iV [9,17,8])):=aa;generalize upd H1 t (.tup [.int 9,.int 17,.int 8])=H2 at *;have D2:=D1.kb k2;refine d9 (xs:=iV [9,17,8]) (by decide) (λD i ys H'=>H2 D=none/\H' D=some (.lst ys)/\bK H' p dq (n+1+60*i)/\KB [p,dq] H2 H'/\∃(as:List Addr) (done:List (List Int)),ys=as.map V.ref/\as.length=i/\done.map List.length=[9,17,8].take i/\(∀l∈done,jK l/\m4 l=true)/\∀(j:Nat) (a:Addr),as[j]?=some a->H' a=some (.tup (iV (done.getD j [])))) (λD hD=>⟨hD,aa,D2.kb (KB.new hD),KB.new hD,[],[],rfl,rfl,rfl,(λl h=>nomatch h),λj a e=>nomatch e⟩) (λD i ys H' h=>⟨h.2.1,by obtain⟨_,_,_,_,as,_,rfl,e,_⟩:=h;rw[Gu,e]⟩) (λD i ys H' h=>bz.of (h.2.2.2.1 _ _ s2 λz=>D2.nt _ z _ s2)) ?_ ?_
   ·rintro D i ys H' x R hx ⟨g0,g1,gd,gk,as,done,rfl,ga,gl,gok,gat⟩ kk;obtain⟨hi,rfl⟩:=jL hx;have nD:=D2.new g0;have dl:done.length=i:=by
     have:=Hj List.length gl;rw[Gu,GQ] at this;have h3:([9,17,8]:List Nat).length=3:=rfl;have hi3:i<3:=hi;lia
    have key:∀m:Nat,2<=m->m<=17->([9,17,8]:List Nat).take (i+1)=([9,17,8]:List Nat).take i++[m]->oR K [.ref p,.int (m:Nat)] H' R E0:=λm m2 m17 em=>by
     refine⟨p,dq,m,_,rfl,gd,by have:i<3:=hi;lia,m2,m17,λls a H5 D5 k5 e5 l1 l2 l3=>?_⟩
     have gD:=k5 _ _ g1 nD;have aD:a≠D:=λz=>by rw[z,gD] at e5;cases e5
     have pD:p≠D:=λz=>nD (by simp[z])
     have qD:dq≠D:=λz=>nD (by simp[z])
     refine kk _ _ gD ⟨g0,aa,(D5.keep (KB.set (ex:=[D]) (by simp)) (by simpa using pD) (by simpa using qD)).mono (by lia),λu o e z=>by rw[ae (ai e g0)];exact k5 _ _ (gk _ _ e z) z,as++[a],done++[ls],by rw[GU];rfl,by rw[Gk,ga];rfl,by rw[GU,gl,em];rw[Hd,l1];rfl,λl hl=>?_,λj b e=>?_⟩
     ·rcases Hm.mp hl with hl|hl
      ·exact gok l hl
      ·rw[GA.mp hl];exact⟨l2,l3⟩
     ·rcases Hr j as.length with hj|hj
      ·rw[Hi hj] at e;have e6:=gd.tup k5 (gat j b e);rw[ae (λz=>by rw[z,gD] at e6;cases e6),e6,Gv,Gv,Hi (by lia)]
      ·rw[Ha hj] at e;obtain⟨hj2,rfl⟩:=Gm.mp e;have hj3:j=as.length:=by simp at hj2;lia
       subst hj3;simp only[Ip,Jx];rw[ae aD,e5,Gv,Ha (by lia),show as.length-done.length=0 by lia]
       rfl
    walk_at "rz";rcases pj (show i<3 from hi) with rfl|rfl|rfl
    ·exact key 9 (by decide) (by decide) rfl
    ·exact key 17 (by decide) (by decide) rfl
    ·exact key 8 (by decide) (by decide) rfl
   ·rintro D ys H' ⟨g0,g1,gd,gk,as,done,rfl,ga,gl,gok,gat⟩;exists aC g1;intro b hb;have gl':done.map List.length=[9,17,8]:=gl;have h3:done.length=3:=by have:=Hj List.length gl';rw[Gu] at this;exact this
    obtain⟨x,y,z,rfl⟩:=pW h3;simp only[Hd,JL,List.cons.injEq] at gl';refine q [x,y,z] b _ ((gd.kb (KB.new hb)).mono (by show n+1+60*3<=_;lia)) (k1.trans (k2.all.trans (gk.trans (KB.new hb)))) ⟨as,aa,by rw[ga];rfl,λj a e=>?_⟩ ⟨x,y,z,rfl,gl'.1,gl'.2.1,gl'.2.2.1,gok⟩
    have:=gat j a e;rw[ae (ai this hb)];exact this
noncomputable def nJ:Sp:=λvs H Q _=>∃(p dq:Addr) (n:Nat),vs=[.ref p]/\bK H p dq n/\n<2^40/\∀(v:Nat) H',bK H' p dq (n+2)->KB [p,dq] H H'->v<65536->Q (.int (v:Nat)) H'
theorem rL(T:Txt K mg)(F:HasFn K mg "_law_number" de ["deck"])(h_law_draw:aq P w K mg base bc 2 "_law_draw" ["deck","most"] gu):aq P w K mg base bc 3 "_law_number" ["deck"] nJ:=by
 refine F.fW dE (λvs H Q E h=>?_) (λf cdv A outer s H vs Q E hr h=>?_)
 ·obtain⟨p,dq,n,rfl,_⟩:=h;rfl
 ·have hu:=a_ hr;obtain⟨p,dq,n,rfl,hd,hn,q⟩:=h;refine⟨_,(Z.ag (Z.set (i:=1) dE.nd rfl (by right) (Z.fn h_law_draw (hr.mono (by decide)) rfl aA (Z.cons (Z.v 0) (Z.cons Z.int Z.nil))))
   (Z.ag (Z.cG (Z.aS aQ (Z.v 1) Z.int) (Z.ar (Z.ret Z.int)) Z.bp)
   (Z.ag (Z.set (i:=2) dE.nd rfl (by right) (Z.op Cs Z.int (Z.op bZ (Z.v 1) Z.int)))
   (Z.ar (Z.ret (Z.op (Z.aN K rfl) (Z.v 2) (Z.fn h_law_draw (hr.mono (by decide)) rfl aA (Z.cons (Z.v 0) (Z.cons (Z.v 2) Z.nil))))))))),?_⟩
  refine ao λN hN=>?_;walk_at "rz";refine⟨p,dq,17,n,rfl,hd,by lia,by decide,by decide,λz H1 hz D1 k1=>?_⟩
  rw[hN];clear hN N;refine ao λN hN=>?_;by_cases a0:(z:Int)=0
  ·exists Gn a0;exact q 0 H1 (D1.mono (by lia)) k1 (by decide)
  ·exists Gj a0;rw[hN];clear hN N;refine ao λN hN=>?_;walk_at "rz";refine⟨⟨by lia,by lia,by decide⟩,?_⟩
   rw[hN];clear hN N;obtain⟨j,ej,hj⟩:∃j:Nat,((z:Int)-1).toNat=j/\j<=15:=⟨_,rfl,by lia⟩
   rw[ej,Int.one_mul];have p1:(0:Int)<2^j:=Int.pow_pos (by decide)
   have p2:(2:Int)^j<=2^15:=by
    have:2^j<=2^15:=JT (by decide) hj
    exact_mod_cast this
   generalize (2:Int)^j=t at p1 p2;walk_at "rz";refine⟨p,dq,t,n+1,rfl,D1,by lia,p1,by lia,λv H2 hv D2 k2=>?_⟩
   walk_at "rz";obtain⟨k,ek⟩:∃k:Nat,t+(v:Int)=k:=⟨(t+(v:Int)).toNat,by lia⟩
   rw[ek];exact q k H2 D2 (k1.trans k2) (by lia)
noncomputable def FR(H:Hp)(ca:Addr)(cd:List (List (List Nat))):Prop:=∃a0 a1 a2,H ca=some (.lst [.ref a0,.ref a1,.ref a2])/\H a0=some (.lst (wV (cd.getD 0 [])))/\H a1=some (.lst (wV (cd.getD 1 [])))/\H a2=some (.lst (wV (cd.getD 2 [])))
noncomputable def mX(cd:List (List (List Nat))):Pk->List Nat
 |.box b=>fb cd (2,b)
 |.num n=>fb cd (1,fm n)++(jE n).tail
 |.goal _=>[]
noncomputable def Pk.of(w:Str):Pk->Prop
 |.box _=>True
 |.num _=>w=Str.ofString "put"
 |.goal _=>w≠Str.ofString "put"
theorem Bx(r:Row):∀p∈r.gz,p.of r.wd:=by
 cases r with
 |put b n=>intro p hp;simp only[Row.gz,Gs,GI,Hn] at hp;rcases hp with rfl|rfl;exact trivial;exact rfl
 |two u a b=>intro p hp;simp only[Row.gz,Gs,GI,Hn] at hp;rcases hp with rfl|rfl<;>exact trivial
 |one u b=>intro p hp;simp only[Row.gz,Gs,GI,Hn] at hp;subst hp;exact trivial
 |jump g=>intro p hp;simp only[Row.gz,Gs,GI,Hn] at hp;subst hp;show Str.ofString "jump"≠Str.ofString "put";decide +kernel
 |zero b g=>intro p hp;simp only[Row.gz,Gs,GI,Hn] at hp;rcases hp with rfl|rfl;exact trivial;show Str.ofString "zero"≠Str.ofString "put";decide +kernel
 |halt=>intro p hp;cases hp
theorem qm(cd:List (List (List Nat)))(r:Row):fA cd r=fb cd (0,r.wi)++r.gz.flatMap (mX cd):=by
 cases r<;>simp[fA,nE,Row.gz,Pk.EY,mX,wm]
theorem y9(l:List Nat):Y.fF (wd l) (some 1) none=wd l.tail:=by
 unfold Y.fF wd;congr 2;show Y.jt l (some 1) none=l.tail;unfold Y.jt;rw[HT.fC,show (some (1:Int))=some ((1:Nat):Int) from rfl,HT.dX]
 cases l with
 |nil=>rfl
 |cons x l=>simp
theorem sX(x:V)(xs:List V):iE (x::xs) (some 1) none=xs:=by
 unfold iE;rw[HT.fC,show (some (1:Int))=some ((1:Nat):Int) from rfl,HT.dX];simp
theorem qC{x:List Nat}(h:ws[i]?=some x):bV (wV ws) (i:Int)=some (.str (wd x)):=bM (by unfold wV;rw[G0,h];rfl)
noncomputable def qX(K:LA):Sp:=λvs H Q _=>∃(ra ca:Addr) (r:Row) (k:Nat) (cd:List (List (List Nat))),vs=[.ref ra,.ref ca]/\H ra=some (.tup r.vs)/\FR H ca cd/\r.Ok k/\Cd cd/\∀H',KB [] H H'->Q (.str (wd (fA cd r))) H'
theorem w_(T:Txt K mg)(F:HasFn K mg "_law_plain" d7 ["row","codes"])(h_law_words:aq P w K mg base bc 1 "_law_words" [] lV)(h_law_bits:aq P w K mg base bc 1 "_law_bits" ["number","many"] iP):aq P w K mg base bc 2 "_law_plain" ["row","codes"] (qX K):=by
 refine F.fW bX (λvs H Q E h=>?_) (λf cdv A outer s H vs Q E hr h=>?_)
 ·obtain⟨ra,ca,r,k,cd,rfl,_⟩:=h;rfl
 ·have hu:=a_ hr;obtain⟨ra,ca,r,k,cd,rfl,hra,hca,aU,hC,q⟩:=h;obtain⟨a0,a1,a2,g,g0,g1,g2⟩:=hca;rw[Row.Es] at hra;rw[qm] at q;refine⟨_,(Z.ag (Z.set (i:=2) bX.nd rfl (by right) (Z.ix (Z.ay K rfl hu) (Z.ix (Z.ay K rfl hu) (Z.v 1) Z.int) (Z.bm K rfl PySem.F.plainAttrs_list PySem.F.slot_list_index PySem.F.type_list_index Y.xQ (Z.FU h_law_words (hr.mono (by decide)) rfl aA) (Z.cons (Z.ix (Z.ay K rfl hu) (Z.v 0) Z.int) Z.nil))))
   (Z.ag (Z.eF GP rfl (Z.any K rfl (Z.slice (Z.Fd K rfl) (Z.v 0) (Z.ll Z.int) Z.AI)) (Z.ba (i:=3) bX.nd rfl (by right)) (Z.ar (Z.cG (Z.mx K rfl (Z.cb (Z.iR K rfl) rfl T.bT Hl (Z.cons (Z.v 3) (Z.cons (Z.BZ (T:="str") rfl T.u0 (by decide +kernel)) Z.nil)))) (Z.ar (Z.set (i:=2) bX.nd rfl (by right) (Z.op (Z.aN K rfl) (Z.v 2) (Z.ix (Z.ay K rfl hu) (Z.ix (Z.ay K rfl hu) (Z.v 1) Z.int) (Z.bm K rfl PySem.F.plainAttrs_str PySem.F.slot_str_index PySem.F.type_str_index Y.f9 Z.str (Z.cons (Z.v 3) Z.nil)))))) (Z.ar (Z.cG (Z.aS aQ (Z.ix (Z.ay K rfl hu) (Z.v 0) Z.int) Z.str) (Z.ag (Z.set (i:=4) bX.nd rfl (by right) (Z.Gb K rfl PySem.F.plainAttrs_int PySem.F.slot_int_bit_length PySem.F.type_int_bit_length Y.yc (Z.v 3)))
   (Z.ar (Z.set (i:=2) bX.nd rfl (by right) (Z.op (Z.aN K rfl) (Z.op (Z.aN K rfl) (Z.v 2) (Z.ix (Z.ay K rfl hu) (Z.ix (Z.ay K rfl hu) (Z.v 1) Z.int) (Z.v 4))) (Z.slice Y.dZ (Z.fn h_law_bits (hr.mono (by decide)) rfl aA (Z.cons (Z.v 3) (Z.cons (Z.v 4) Z.nil))) (Z.ll Z.int) Z.AI))))) Z.bp)))))
   (Z.ar (Z.ret (Z.v 2))))),?_⟩
  obtain⟨c0,c1,c2,rfl,l0,l1,l2⟩:=hC.ex;have w0:=hC.at (p:=(0,r.wi)) (.inl ⟨rfl,r.xy⟩);refine ao λN hN=>?_;exists aC g;refine⟨rfl,λl hl=>?_⟩;have k1:KB [] H (upd H l (.lst (bu.map V.str))):=KB.new hl;have s1:upd H l (.lst (bu.map V.str)) l=_:=aa;generalize upd H l (.lst (bu.map V.str))=H1 at *;exists aH (k1 _ _ hra (by simp))
  refine⟨.inl ⟨rfl,_,bY.of s1⟩,l,bu,r.wd,r.wi,rfl,s1,rfl,(z_ r).1,(z_ r).2,?_⟩;exists aC (k1 _ _ g0 (by simp)),qC w0.2.1
  rw[hN];clear hN N;refine ao λN hN=>?_;have hra1:=k1 _ _ hra (by simp)
  exists aH hra1;refine⟨ra,_,rfl,bz.of hra1,by rw[show (some (1:Int))=some ((1:Nat):Int) from rfl,HT.dX,GF];lia,λt ht=>?_⟩
  rw[sX];have k2:KB [] H1 (upd H1 t (.tup (r.gz.map Pk.v))):=KB.new ht;have s2:upd H1 t (.tup (r.gz.map Pk.v)) t=_:=aa;generalize upd H1 t (.tup (r.gz.map Pk.v))=H2 at *;have k02:=k1.trans k2;simp only[aH s2];have G:=k02 _ _ g (by simp)
  have G1:=k02 _ _ g1 (by simp)
  have G2:=k02 _ _ g2 (by simp)
  have GR:=k02 _ _ hra (by simp)
  refine jG (xs:=r.gz.map Pk.v) (λi σ H'=>H'=H2/\∃(x:List Nat) (o3 o4:Option V),x.length+60*(r.gz.drop i).length<=200/\fb [c0,c1,c2] (0,r.wi)++r.gz.flatMap (mX [c0,c1,c2])=x++(r.gz.drop i).flatMap (mX [c0,c1,c2])/\σ=[some (.ref ra),some (.ref ca),some (.str (wd x)),o3,o4]) ⟨rfl,_,none,none,?_,rfl,rfl⟩ (λi σ H' _ h=>by rw[h.1];exact bz.of s2) ?_ ?_
  ·have h1:r.gz.length<=2:=by cases r<;>simp[Row.gz]
   have h2:=w0.2.2;rw[HL];lia
  ·rintro i x σ H' hx ⟨rfl,y,o3,o4,hy,ea,rfl⟩;have hi:i<r.gz.length:=by have:=(Gm.mp hx).1;rw[Gu] at this;exact this
   obtain rfl:x=(r.gz[i]).v:=by
    rw[G0,Gi hi] at hx;exact (Option.some.inj hx).symm
   have hp0:=Row.uR aU _ (List.getElem_mem hi);have hp1:=Bx r _ (List.getElem_mem hi);rw[List.drop_eq_getElem_cons hi] at hy ea;rw[List.length_cons] at hy;generalize r.gz[i]=pk at *;unfold bj;dsimp only;refine jN λM hM=>?_
   cases pk with
   |box b =>
    have hb:b<8:=hp0;have w2:=hC.at (p:=(2,b)) (.inr (.inr ⟨rfl,hb⟩));show lL _ _ _ _ [_,_,_,some (V.str (bU b)),_] _;exists (show gL "str" "str"=true from by decide +kernel),aC G
    refine⟨by decide,rfl,_,_,b,[],rfl,rfl,rP hb,?_⟩
    exists aC G2,qC w2.2.1;rw[av,av,ee];refine⟨Gr (show _<=240 by have:=w2.2.2;lia) (by decide),?_⟩
    rw[hM];exact⟨rfl,y++fb [c0,c1,c2] (2,b),some _,o4,by rw[Gk];have:=w2.2.2;lia,by rw[ea,Js,GV];rfl,rfl⟩
   |num n =>
    have hn:n<65536:=hp0;have hb:=lJ hn;have w1:=hC.at (p:=(1,fm n)) (.inr (.inl ⟨rfl,hb⟩));show lL _ _ _ _ [_,_,_,some (V.int (n:Nat)),_] _;exists (show gL "int" "str"=false from by decide +kernel),aH GR,Gn (show r.wd=Str.ofString "put" from hp1)
    refine⟨by decide,rfl,(n:Int),rfl,rfl,?_⟩
    rw[show ((Builtin.Int.intBits (n:Int):Nat):Int)=(fm n:Int) from rfl];exists aC G,aC G1,qC w1.2.1;have fl:(jE n).length=fm n:=ym n;have ft:(jE n).tail.length<=16:=by rw[List.length_tail];lia
    have h3:=w1.2.2;refine⟨by rw[av,av];exact Gr (show _<=300 by lia) (by decide),(n:Int),fm n,rfl,by lia,?_⟩
    rw[show dB (n:Int) (fm n) []=jE n from rfl];refine⟨_,rfl,by rw[av];exact Gr (show _<=20 by lia) (by decide),?_⟩
    rw[y9,ee];exists av;rw[ee];refine⟨Gr (show _<=300 by rw[Gk];lia) (by decide),?_⟩
    rw[hM];exact⟨rfl,y++fb [c0,c1,c2] (1,fm n)++(jE n).tail,some _,some _,by rw[Gk,Gk];lia,by rw[ea,Js];simp[mX],rfl⟩
   |goal n =>
    show lL _ _ _ _ [_,_,_,some (V.int (n:Nat)),_] _;exists (show gL "int" "str"=false from by decide +kernel),aH GR,Gj (show r.wd≠Str.ofString "put" from hp1)
    refine⟨by decide,?_⟩
    rw[hM];exact⟨rfl,y,some _,o4,by lia,by rw[ea,Js];rfl,rfl⟩
  ·rintro σ H' ⟨rfl,x,o3,o4,_,ea,rfl⟩;rw[Gu,Je,List.flatMap_nil,Ia] at ea;show N _ _;rw[hN];clear hN N;walk_at "rz";rw[ea] at q;exact q _ k02
theorem Ac(h:a≠b):(Sum.inr (wd a):Key)≠.inr (wd b):=λe=>h (uD (Sum.inr.inj e))
structure Tb (kvs:List (Key×V)) (ws:List (List Nat)) (n:Nat):Prop where
 len:kvs.length=n
 yes:∀(t:Nat) (h:t<ws.length),t<n->cQ kvs (.inr (wd ws[t]))=some (.int (t:Nat))
 no:∀x,x∉ws.take n->cQ kvs (.inr (wd x))=none
theorem Tb.put{kvs:List (Key×V)}{n:Nat}(h:Tb kvs ws n)(hn:n<ws.length)(nd:ws.Nodup):Tb (putK kvs (.inr (wd ws[n])) (.int (n:Nat))) ws (n+1):=by
 have apart:∀t (ht:t<ws.length),t<n->ws[t]≠ws[n]:=λt ht h=>H_.mp nd t n ht hn h;have hno:ws[n]∉ws.take n:=λhm=>by
  obtain⟨i,hi,e⟩:=Jf.mp hm;rw[List.getElem_take] at e;have hi':i<n:=by rw[GQ] at hi;lia
  exact apart i (by lia) hi' e
 refine⟨by rw[m8 _ (h.no _ hno),Gk,h.len];rfl,λt ht htn=>?_,λx hx=>?_⟩
 ·rw[mK];rcases Hr t n with c|c
  ·rw[Gj (Ac (apart t ht c))];exact h.yes t ht c
  ·have:t=n:=by lia
   subst this;rw[Gn rfl]
 ·have e2:ws.take (n+1)=ws.take n++[ws[n]]:=by rw[Kf,Gi hn];rfl
  rw[e2] at hx;rw[mK,Gj (Ac λe=>hx (GL _ (by rw[e];exact List.mem_singleton_self _)))]
  exact h.no x λz=>hx (IX _ z)
noncomputable def sN(H:Hp)(a:Addr)(ws:List (List Nat)):Prop:=∃kvs,H a=some (.dK kvs)/\Tb kvs ws ws.length
noncomputable def xC(H:Hp)(a:Addr)(cd:List (List (List Nat))):Prop:=∃t0 t1 t2,H a=some (.lst [.ref t0,.ref t1,.ref t2])/\sN H t0 (cd.getD 0 [])/\sN H t1 (cd.getD 1 [])/\sN H t2 (cd.getD 2 [])
theorem sN.keep{a:Addr}(h:sN H a ws)(k:KB ex H H')(hx:∀b∈ex,∀kvs,H b≠some (.dK kvs)):sN H' a ws:=by
 obtain⟨kvs,e,h⟩:=h;exact⟨kvs,k _ _ e λz=>hx _ z _ e,h⟩
theorem xC.keep{a:Addr}{cd:List (List (List Nat))}(h:xC H a cd)(k:KB ex H H')(n:a∉ex)(hx:∀b∈ex,∀kvs,H b≠some (.dK kvs)):xC H' a cd:=by
 obtain⟨t0,t1,t2,e,h0,h1,h2⟩:=h;exact⟨t0,t1,t2,k _ _ e n,h0.keep k hx,h1.keep k hx,h2.keep k hx⟩
noncomputable def ou(K:LA):Sp:=λvs H Q _=>∃(b:Addr) (bk:List (List Int)),vs=[.ref b]/\tY H b bk/\Bk bk/\(∀ws∈fI bk,Pf ws)/\∀a H',H a=none->KB [] H H'->xC H' a (fI bk)->Q (.ref a) H'
theorem rS(T:Txt K mg)(F:HasFn K mg "_law_tables" dc ["book"])(h_law_code:aq P w K mg base bc 2 "_law_code" ["lengths"] (lM K)):aq P w K mg base bc 3 "_law_tables" ["book"] (ou K):=by
 refine F.fW bO (λvs H Q E h=>?_) (λf cdv A outer s H vs Q E hr h=>?_)
 ·obtain⟨b,bk,rfl,_⟩:=h;rfl
 ·have hu:=a_ hr;obtain⟨b,bk,rfl,hb,hB,hP,q⟩:=h;obtain⟨as,hb1,hb2,hb3⟩:=hb;obtain⟨l0,l1,l2,rfl,_,_,_,hl⟩:=hB;refine⟨_,(Z.ag (Z.set (i:=1) bO.nd rfl (by right) (Z.lst Z.nil))
   (Z.ag (Z.eF GP rfl (Z.any K rfl (Z.v 0)) (Z.ba (i:=2) bO.nd rfl (by right)) (Z.ag (Z.set (i:=3) bO.nd rfl (by right) Z.Dl)
   (Z.ag (Z.eF GP rfl (Z.Dx K rfl rfl T.fG (Z.cons (Z.fn h_law_code (hr.mono (by decide)) rfl aA (Z.cons (Z.v 2) Z.nil)) Z.nil)) (Z.rJ (n:=2) K rfl rfl (Z.cC (Z.ba (i:=4) bO.nd rfl (by right)) (Z.cC (Z.ba (i:=5) bO.nd rfl (by right)) Z.jl))) (Z.ar (Z.dput hu (Z.v 3) (Z.v 5) (Z.v 4))))
   (Z.ar (Z.expr (Z.bm K rfl PySem.F.plainAttrs_list PySem.F.slot_list_append PySem.F.type_list_append cV (Z.v 1) (Z.cons (Z.v 3) Z.nil)))))))
   (Z.ar (Z.ret (Z.v 1))))),?_⟩
  refine ao λN hN=>?_;walk_at "rz";refine⟨by decide,λfd hfd=>?_⟩
  have k1:KB [] H (upd H fd (.lst [])):=KB.new hfd;have s1:upd H fd (.lst []) fd=_:=aa;generalize upd H fd (.lst [])=H1 at *;rw[hN];clear hN N;have hb1':=k1 _ _ hb1 (by simp)
  refine ao λN hN=>?_;exists aH hb1';have kF:∀{G:Hp} {o:HO},KB [] H G->KB [] H (upd G fd o):=λa b o e _=>by rw[ae (ai e hfd)];exact a b o e (by simp)
  refine jG (xs:=as.map V.ref) (λi σ H'=>∃(cs:List Addr) (o2 o3 o4 o5:Option V),i<=3/\KB [] H H'/\H' fd=some (.lst (cs.map V.ref))/\cs.length=i/\(∀(j:Nat) (c:Addr),cs[j]?=some c->sN H' c (wordsOf Cw.dJ (List.getD [l0,l1,l2] j [])))/\σ=[some (.ref b),some (.ref fd),o2,o3,o4,o5]) ⟨[],none,none,none,none,by decide,k1,s1,rfl,(λj c e=>nomatch e),rfl⟩ (λi σ H' _ h=>by obtain⟨_,_,_,_,_,_,kk,_⟩:=h;exact bz.of (kk _ _ hb1 (by simp))) ?_ ?_
  ·rintro i x σ H' hx ⟨cs,o2,o3,o4,o5,hi3,h0,gf,gl,gt,rfl⟩;obtain⟨a,ea,rfl⟩:∃a,as[i]?=some a/\x=.ref a:=by
    rw[G0] at hx;obtain⟨a,e,rfl⟩:=GO.mp hx;exact⟨a,e,rfl⟩
   have hi:i<3:=by have:=(Gm.mp ea).1;rw[hb2] at this;exact this
   have hm:List.getD [l0,l1,l2] i []∈[l0,l1,l2]:=by rcases pj hi with rfl|rfl|rfl<;>simp
   have hpf:Pf (wordsOf Cw.dJ (List.getD [l0,l1,l2] i [])):=hP _ (List.mem_map_of_mem (f:=wordsOf Cw.dJ) hm);have hlm:=hl _ hm;have hwl:(wordsOf Cw.dJ (List.getD [l0,l1,l2] i [])).length<=40:=by rw[fP];have:=hlm.1.2.1;lia
   have hai:=hb3 i a ea;unfold bj;refine ao λM hM=>?_;walk_at "rz";intro tb htb;have k2:KB [] H' (upd H' tb (.dK [])):=KB.new htb;have s2:upd H' tb (.dK []) tb=_:=aa;generalize upd H' tb (.dK [])=H2 at *;have tb0:H tb=none:=h0.free (by simp) htb
   rw[hM];clear hM M;refine ao λM hM=>?_;walk_at "rz";refine⟨a,_,rfl,k2 _ _ (h0 _ _ hai (by simp)) (by simp),hlm.1,hlm.2,λwl H3 hwl0 k3 s3=>?_⟩
   generalize hws:wordsOf Cw.dJ (List.getD [l0,l1,l2] i [])=ws at *;refine⟨wl,rfl,⟨_,bY.of s3⟩,?_⟩;have s23:=k3 _ _ s2 (by simp)
   have h03:=h0.trans (k2.trans k3);have gf3:=(k2.trans k3) _ _ gf (by simp)
   have tf:tb≠fd:=λz=>by rw[z,gf3] at s23;cases s23
   have wt:wl≠tb:=λz=>by rw[z,s2] at hwl0;cases hwl0
   refine pS (xs:=wV ws) (λn σ G=>∃(kvs:List (Key×V)) (o4 o5:Option V),n<=ws.length/\KB [tb] H3 G/\G tb=some (.dK kvs)/\Tb kvs ws n/\σ=[some (.ref b),some (.ref fd),some (.ref a),some (.ref tb),o4,o5]) ⟨[],o4,o5,GH _,KB.refl _ _,s23,⟨rfl,λt h z=>(nomatch z),λx _=>rfl⟩,rfl⟩ (λn σ G _ h=>by obtain⟨_,_,_,_,kk,_⟩:=h;exact bY.of (kk _ _ s3 (by simpa using wt))) ?_ ?_
   ·rintro n x σ G p hx ⟨kvs,o4,o5,hn,kG,gG,hT,rfl⟩ hp;have hlt:n<ws.length:=by have:=(Gm.mp hx).1;unfold wV at this;rw[Gu] at this;exact this
    obtain rfl:x=.str (wd ws[n]):=by
     unfold wV at hx;rw[G0,Gi hlt] at hx;exact (Option.some.inj hx).symm
    refine⟨p,_,rfl,bz.of aa,rfl,_,_,rfl,_,_,rfl,rfl,?_⟩;have k5:KB [] G (upd G p (.tup [.int n,.str (wd ws[n])])):=KB.new hp;generalize upd G p (.tup [.int n,.str (wd ws[n])])=G1 at *;have gG1:=k5 _ _ gG (by simp)
    dsimp only;refine jN λM2 hM2=>?_;walk_at "rz";refine⟨tb,_,rfl,sd.k (k:=.inr (wd ws[n])) gG1 (Nat.lt_of_le_of_lt (show _<=40 by rw[hT.len];lia) (by decide)),?_⟩
    rw[hM2];exact⟨_,some _,some _,hlt,λc o e z=>by rw[ae (by simpa using z)];exact k5 _ _ (kG _ _ e z) (by simp),aa,hT.put hlt hpf.nd,rfl⟩
   ·rintro σ G ⟨kvs,o4,o5,_,kG,gG,hT,rfl⟩;have ewl:(wV ws).length=ws.length:=List.length_map ..;rw[ewl] at hT;show M _ _;rw[hM];clear hM M;dsimp only;refine jN λM hM=>?_;have gfG:=kG _ _ gf3 (by simpa using tf.symm)
    walk_at "rz";refine⟨.inl ⟨rfl,_,bY.of gfG⟩,fd,_,_,rfl,rfl,gfG,Im (show _<=3 by rw[Gu];lia) (by decide),?_⟩
    rw[hM];have h0G:KB [] H G:=λc o e _=>kG _ _ (h03 _ _ e (by simp)) (by simpa using ai e tb0)
    have upT:∀{c:Addr} {ws:List (List Nat)},sN G c ws->sN (upd G fd (.lst (cs.map V.ref++[.ref tb]))) c ws:=λh=>h.keep (KB.set (ex:=[fd]) (by simp)) (λb hb kvs e=>by rw[GA.mp hb,gfG] at e;cases e)
    refine⟨cs++[tb],some _,some _,o4,o5,hi,kF h0G,by rw[aa,GU];rfl,by rw[Gk,gl];rfl,λj c e=>upT ?_,rfl⟩
    rcases Hr j cs.length with hj|hj
    ·rw[Hi hj] at e;obtain⟨kv,e1,e2⟩:=gt j c e;have e3:=(k2.trans k3) _ _ e1 (by simp)
     refine⟨kv,kG _ _ e3 (by simp;rintro rfl;rw[e1] at htb;cases htb),e2⟩
    ·rw[Ha hj] at e;obtain⟨hj2,rfl⟩:=Gm.mp e;have:j=i:=by simp at hj2;lia
     subst this;simp only[gl,Ip,Jx];rw[hws];exact⟨kvs,gG,hT⟩
  ·rintro σ H' ⟨cs,o2,o3,o4,o5,_,h0,gf,gl,gt,rfl⟩;rw[Gu,hb2] at gl;obtain⟨t0,t1,t2,rfl⟩:=pW gl;show N _ _;rw[hN];clear hN N;walk_at "rz";exact q fd H' hfd h0 ⟨t0,t1,t2,gf,gt 0 t0 rfl,gt 1 t1 rfl,gt 2 t2 rfl⟩
noncomputable def lA:Sp:=λvs H Q _=>∃z:List Nat,vs=[.str (wd z)]/\dw z/\z.length<=40/\Q (.int (eB z:Nat)) H
theorem vN(T:Txt K mg)(F:HasFn K mg "_law_value" d6 ["text"]):aq P w K mg base bc 1 "_law_value" ["text"] lA:=by
 refine F.fW df (λvs H Q E h=>?_) (λf cdv A outer s H vs Q E hr h=>?_)
 ·obtain⟨z,rfl,_⟩:=h;rfl
 ·have hu:=a_ hr;obtain⟨z,rfl,hb,hz,q⟩:=h;refine⟨_,(Z.ag (Z.set (i:=1) df.nd rfl (by right) Z.int)
   (Z.ag (Z.eF GP rfl (Z.FN (Z.v 0)) (Z.ba (i:=2) df.nd rfl (by right)) (Z.ar (Z.set (i:=1) df.nd rfl (by right) (Z.op (Z.aN K rfl) (Z.op cp Z.int (Z.v 1)) (Z.bm K rfl PySem.F.plainAttrs_str PySem.F.slot_str_index PySem.F.type_str_index Y.f9 Z.str (Z.cons (Z.v 2) Z.nil))))))
   (Z.ar (Z.ret (Z.v 1))))),?_⟩
  refine ao λN hN=>?_;walk_at "rz";rw[hN];clear hN N;refine ao λN hN=>?_;walk_at "rz";refine nY (z:=wd z) (λi σ H'=>H=H'/\∃o:Option V,i<=z.length/\σ=[some (.str (wd z)),some (.int (eB (z.take i):Nat)),o]) ⟨rfl,none,GH _,rfl⟩ ?_ ?_
  ·rintro i c σ H' hc ⟨rfl,o,hi,rfl⟩;have hlt:i<z.length:=by have:=(HV.mp hc).1;simpa[wd] using this
   obtain rfl:c=z[i]:=by
    have:(wd z).cps[i]?=some z[i]:=by unfold wd;rw[Ho,Gi hlt]
    rw[this] at hc;exact (Option.some.inj hc).symm
   have hc2:=hb _ (List.getElem_mem hlt);unfold bj;dsimp only;refine jN λM hM=>?_;walk_at "rz";refine⟨.inl ⟨by decide,by decide⟩,rfl,_,_,z[i]-48,[],rfl,rfl,C_ hc2,?_⟩
   walk_at "rz";have e4:(2:Int)*(eB (z.take i):Nat)+((z[i]-48:Nat):Int)=(eB (z.take (i+1)):Nat):=by
    rw[Kf,Gi hlt];show _=((eB (z.take i++[z[i]]):Nat):Int);rw[sJ];lia
   rw[e4,hM];exact⟨rfl,some _,hlt,rfl⟩
  ·rintro σ H' ⟨rfl,o,_,rfl⟩;have e:(wd z).cps.size=z.length:=Gy ..;rw[e,IB];show N _ _;rw[hN];clear hN N;walk_at "rz";exact q
noncomputable def jB(K:LA):Sp:=λvs H Q _=>∃(a:Addr) (ws:List (List Nat)) (z:List Nat) (p:Nat),vs=[.ref a,.str (wd z),.int (p:Nat)]/\sN H a ws/\Pf ws/\(∀w∈ws,w.length<=20)/\z.length<=1000000/\p<=1000000/\∀v H',KB [] H H'->CA H' v (hG ws z p)->Q v H'
theorem tM(T:Txt K mg)(F:HasFn K mg "_law_thing_at" cA ["table","bits","at"]):aq P w K mg base bc 1 "_law_thing_at" ["table","bits","at"] (jB K):=by
 refine F.fW cU (λvs H Q E h=>?_) (λf cdv A outer s H vs Q E hr h=>?_)
 ·obtain⟨a,ws,z,p,rfl,_⟩:=h;rfl
 ·have hu:=a_ hr;obtain⟨a,ws,z,p,rfl,⟨kvs,ha,hT⟩,hP,h20,hz,hp,q⟩:=h;refine⟨_,(Z.ag (Z.eF GP rfl (Z.Fc rfl T.cZ (Z.consts rfl)) (Z.ba (i:=3) cU.nd rfl (by right)) (Z.ag (Z.set (i:=4) cU.nd rfl (by right) (Z.slice Y.dZ (Z.v 1) (Z.ll (Z.v 2)) (Z.ll (Z.op (Z.aN K rfl) (Z.v 2) (Z.v 3)))))
   (Z.ar (Z.cG (Z.tw (Z.se (Z.aS aQ (Z.cb (Z.bB K rfl) rfl T.b8 (by decide +kernel) (Z.cons (Z.v 4) Z.nil)) (Z.v 3)) (Z.kr (Z.aS (Y.zd hu) (Z.v 4) (Z.v 0))))) (Z.ar (Z.ret (Z.tup (Z.cons (Z.qj hu (Z.v 0) (Z.v 4)) (Z.cons (Z.op (Z.aN K rfl) (Z.v 2) (Z.v 3)) Z.nil))))) Z.bp))))
   (Z.ar (Z.ret Z.aP))),?_⟩
  refine ao λN hN=>?_;walk_at "rz";refine⟨1,21,⟨rfl,rfl⟩,by decide,?_⟩
  refine cf (n:=20) (λn σ H'=>H=H'/\∃o3 o4:Option V,n<=20/\(∀t,k_ ws z p=some t->n<(ws.getD t []).length)/\σ=[some (.ref a),some (.str (wd z)),some (.int (p:Nat)),o3,o4]) ⟨rfl,none,none,GH _,λt ht=>?_,rfl⟩ ?_ ?_
  ·obtain⟨h1,_⟩:=eI ht;rw[Gv,Gi h1];exact J_.mpr (hP.ne _ (GS h1))
  ·rintro n σ H' hlt ⟨rfl,o3,o4,hn,hno,rfl⟩;rw[show (1:Int)+((n:Nat):Int)=((n+1:Nat):Int) by lia]
   have ec:(p:Int)+((n+1:Nat):Int)=((p+(n+1):Nat):Int):=by lia
   unfold bj;refine ao λM hM=>?_;exists ec;refine⟨_,rfl,by rw[av];exact Gr hz (by decide),?_⟩
   rw[iN z p _ (by lia),HM]
   have next:(¬ (((z.drop p).take (n+1)).length=n+1/\(z.drop p).take (n+1)∈ws))->∀t,k_ ws z p=some t->n+1<(ws.getD t []).length:=λhc t ht=>by
    have h1:=hno t ht;obtain⟨h2,h3⟩:=eI ht;rcases Nat.lt_or_eq_of_le (show n+1<=(ws.getD t []).length from h1) with h|h
    ·exact h
    ·have e4:(z.drop p).take (n+1)=ws.getD t []:=by rw[h];exact (Jp.mp h3).symm
     exact absurd ⟨by rw[e4];exact h.symm,by rw[e4,Gv,Gi h2];exact GS h2⟩ hc
   have hxl:((z.drop p).take (n+1)).length<=20:=by rw[GQ];lia
   have hpre:((z.drop p).take (n+1)) <+: z.drop p:=List.take_prefix _ _;rw[hM];clear hM M;generalize (z.drop p).take (n+1)=x at *;dsimp only;refine jN λM hM=>?_;have cont':(¬ (x.length=n+1/\x∈ws))->M [some (.ref a),some (.str (wd z)),some (.int (p:Nat)),some (.int ((n+1:Nat):Int)),some (.str (wd x))] H:=λhc=>by
    rw[hM];exact⟨rfl,some _,some _,hlt,next hc,rfl⟩
   have hxs:(wd x).length<=sizeLine:=by rw[av];exact Gr hxl (by decide)
   by_cases c1:x.length=n+1
   ·have c1':(((wd x).length:Nat):Int)=((n+1:Nat):Int):=by rw[av,c1]
    by_cases c2:x∈ws
    ·obtain⟨t,ht,et⟩:=Jf.mp c2;have eg:ws.getD t []=x:=by rw[Gv,Gi ht];exact et
     have th:k_ ws z p=some t:=hP.th ht (by rw[eg];exact hpre)
     have hlk:fX H a (.str (wd x)) (some (.int (t:Nat))):=by
      have:=fX.k (k:=.inr (wd x)) ha;rw[<- et] at this ⊢;rw[hT.yes t ht ht] at this;exact this
     exists Gn c1';refine⟨hxs,a,_,rfl,hlk,?_⟩;walk_at "rz";refine⟨a,_,rfl,hlk,by decide,λb hb=>?_⟩
     unfold hG at q;rw[th] at q;refine q _ _ (KB.new hb) ⟨b,rfl,?_⟩;rw[aa,ec];show _=some (HO.tup [V.int (t:Nat),V.int ((p+(ws.getD t []).length:Nat):Int)]);rw[eg,c1]
    ·have hlk:fX H a (.str (wd x)) none:=by
      have:=fX.k (k:=.inr (wd x)) ha;rw[hT.no x (by rw[IB];exact c2)] at this
      exact this
     exists Gn c1';refine⟨hxs,a,_,rfl,hlk,?_⟩;walk_at "rz";exact cont' λh=>c2 h.2
   ·have c1':¬ (((wd x).length:Nat):Int)=((n+1:Nat):Int):=by rw[av];lia
    exists Gj c1';exact⟨hxs,cont' λh=>c1 h.1⟩
  ·rintro σ H' ⟨rfl,o3,o4,_,hno,rfl⟩;have hnone:k_ ws z p=none:=by
    cases c:k_ ws z p with
    |none=>rfl
    |some t =>
     have h1:=hno t c;obtain⟨h2,_⟩:=eI c;rw[Gv,Gi h2] at h1;have:=h20 _ (GS h2);exact absurd h1 (by show ¬ 20<(ws[t]).length;lia)
   unfold hG at q;rw[hnone] at q;show N _ _;rw[hN];clear hN N;walk_at "rz";exact q _ _ (KB.refl _ _) rfl
noncomputable def FO(H:Hp)(v:V):Option (Int×Nat)->Prop
 |none=>v=.aP
 |some x=>∃t,v=.ref t/\H t=some (.tup [.int x.1,.int (x.2:Nat)])
noncomputable def vC(K:LA):Sp:=λvs H Q _=>∃(a:Addr) (ws:List (List Nat)) (z:List Nat) (p:Nat),vs=[.ref a,.str (wd z),.int (p:Nat)]/\sN H a ws/\Pf ws/\(∀w∈ws,w.length<=20)/\ws.length<=20/\dw z/\z.length<=1000000/\p<=1000000/\∀v H',KB [] H H'->CA H' v (u5 ws z p)->Q v H'
theorem yE(T:Txt K mg)(F:HasFn K mg "_law_number_at" cq ["table","bits","at"])(h_law_thing_at:aq P w K mg base bc 1 "_law_thing_at" ["table","bits","at"] (jB K))(h_law_value:aq P w K mg base bc 1 "_law_value" ["text"] lA):aq P w K mg base bc 2 "_law_number_at" ["table","bits","at"] (vC K):=by
 refine F.fW cO (λvs H Q E h=>?_) (λf cdv A outer s H vs Q E hr h=>?_)
 ·obtain⟨a,ws,z,p,rfl,_⟩:=h;rfl
 ·have hu:=a_ hr;obtain⟨a,ws,z,p,rfl,hT,hP,h20,hw20,hb,hz,hp,q⟩:=h;refine⟨_,(Z.ag (Z.set (i:=3) cO.nd rfl (by right) (Z.fn h_law_thing_at (hr.mono (by decide)) rfl aA (Z.cons (Z.v 0) (Z.cons (Z.v 1) (Z.cons (Z.v 2) Z.nil)))))
   (Z.ag (Z.cG (Z.tw (Z.EA (Z.aS cF (Z.v 3) Z.aP) (Z.xJ (Z.aS aQ (Z.ix (Z.ay K rfl hu) (Z.v 3) Z.int) Z.int)))) (Z.ar (Z.ret (Z.v 3))) Z.bp)
   (Z.ag (Z.set (i:=4) cO.nd rfl (by right) (Z.slice Y.dZ (Z.v 1) (Z.ll (Z.ix (Z.ay K rfl hu) (Z.v 3) Z.int)) (Z.ll (Z.op bZ (Z.op (Z.aN K rfl) (Z.ix (Z.ay K rfl hu) (Z.v 3) Z.int) (Z.ix (Z.ay K rfl hu) (Z.v 3) Z.int)) Z.int))))
   (Z.ag (Z.cG (Z.aS gB (Z.cb (Z.bB K rfl) rfl T.b8 (by decide +kernel) (Z.cons (Z.v 4) Z.nil)) (Z.op bZ (Z.ix (Z.ay K rfl hu) (Z.v 3) Z.int) Z.int)) (Z.ar (Z.ret Z.aP)) Z.bp)
   (Z.ar (Z.ret (Z.tup (Z.cons (Z.fn h_law_value (hr.mono (by decide)) rfl aA (Z.cons (Z.op (Z.aN K rfl) Z.str (Z.v 4)) Z.nil)) (Z.cons (Z.op (Z.aN K rfl) (Z.ix (Z.ay K rfl hu) (Z.v 3) Z.int) (Z.cb (Z.bB K rfl) rfl T.b8 (by decide +kernel) (Z.cons (Z.v 4) Z.nil))) Z.nil))))))))),?_⟩
  refine ao λN hN=>?_;walk_at "rz";refine⟨a,ws,z,p,rfl,hT,hP,h20,hz,hp,λv H1 k1 o1=>?_⟩;rw[hN];clear hN N;refine ao λN hN=>?_;unfold u5 at q
  cases c:hG ws z p with
  |none =>
   rw[c] at q o1;obtain rfl:v=.aP:=o1;walk_at "rz";exact q _ _ k1 rfl
  |some x =>
   rw[c] at q o1;obtain⟨t,e⟩:=x;obtain⟨h1,_,h3,h4⟩:=eA hP.ne c;obtain⟨b,rfl,hb1⟩:=o1;dsimp only at q h1 h3 h4 hb1;have sb:=aH hb1;exists if_neg (show ¬ V.ref b=V.aP from V.noConfusion),sb;by_cases c0:t=0
   ·subst c0;rw[Gn rfl] at q;rw[Gn (by rfl)]
    exact q _ _ k1 ⟨b,rfl,hb1⟩
   ·rw[Gj c0] at q;rw[Gj (show ¬ ((t:Nat):Int)=0 by lia),hN];clear hN N
    have eb:(e:Int)+(t:Int)-1=((e+(t-1):Nat):Int):=by lia
    have et:(t:Int)-1=((t-1:Nat):Int):=by lia
    have hb2:=hb.cut e (t-1);have hl2:((z.drop e).take (t-1)).length=min (t-1) (z.length-e):=by rw[GQ,Hf]
    refine ao λN hN=>?_;exists sb,eb;refine⟨_,rfl,by rw[av];exact Gr hz (by decide),?_⟩
    rw[iN z e _ (by lia),HM,hN];clear hN N
    have hx16:((z.drop e).take (t-1)).length<=20:=by lia
    have hxs:(wd ((z.drop e).take (t-1))).length<=sizeLine:=by rw[av];exact Gr hx16 (by decide)
    refine ao λN hN=>?_;by_cases cl:e+(t-1)<=z.length
    ·rw[Gn cl] at q;have hls:((z.drop e).take (t-1)).length=t-1:=by lia
     exists sb,et;refine⟨hxs,?_⟩;rw[av,Gj (show ¬ (((z.drop e).take (t-1)).length:Int)<((t-1:Nat):Int) by lia),hN];clear hN N
     generalize (z.drop e).take (t-1)=x at *;walk_at "rz";rw[show Str.ofString "1"=wd [49] from by decide +kernel,ee,av,av]
     refine⟨Gr (show _<=21 by simp;lia) (by decide),[49]++x,rfl,λc hc=>?_,by rw[Gk];simp;lia,?_⟩
     ·rcases Hm.mp hc with hc|hc
      ·exact .inr (GA.mp hc)
      ·exact hb2 c hc
     exists sb;rw[av] at hxs;refine⟨hxs,by decide,λb2 hb2'=>q _ _ (k1.trans (KB.new hb2')) ⟨b2,rfl,?_⟩⟩
     rw[aa,hls];rfl
    ·rw[Gj cl] at q;exists sb,et;refine⟨hxs,?_⟩;rw[av,Gn (show (((z.drop e).take (t-1)).length:Int)<((t-1:Nat):Int) by lia)]
     exact q _ _ k1 rfl
noncomputable def uk:Sp:=λvs H Q _=>∃(z:List Nat) (p:Nat),vs=[.str (wd z),.int (p:Nat)]/\dw z/\z.length<=1000000/\p<=1000000/\∀v H',KB [] H H'->FO H' v (gA z p)->Q v H'
theorem v9{n:Nat}(h:n<3):bV [V.str (Str.ofString "0"),.str (Str.ofString "10"),.str (Str.ofString "11")] (n:Int)=some (.str (wd (cE n))):=by
 rcases pj h with rfl|rfl|rfl
 ·exact Hj (λz=>some (V.str z)) (by decide +kernel)
 ·exact Hj (λz=>some (V.str z)) (by decide +kernel)
 ·exact Hj (λz=>some (V.str z)) (by decide +kernel)
theorem zQ(T:Txt K mg)(F:HasFn K mg "_law_way_at" cY ["bits","at"])(h_law_value:aq P w K mg base bc 1 "_law_value" ["text"] lA):aq P w K mg base bc 2 "_law_way_at" ["bits","at"] uk:=by
 refine F.fW bQ (λvs H Q E h=>?_) (λf cdv A outer s H vs Q E hr h=>?_)
 ·obtain⟨z,p,rfl,_⟩:=h;rfl
 ·have hu:=a_ hr;obtain⟨z,p,rfl,hb,hz,hp,q⟩:=h;refine⟨_,(Z.ag (Z.eF GP rfl (Z.mV rfl T.cZ (Z.cons Z.int Z.nil)) (Z.ba (i:=2) bQ.nd rfl (by right)) (Z.ag (Z.set (i:=3) bQ.nd rfl (by right) (Z.ix (Z.ay K rfl hu) (Z.lst (Z.consts rfl)) (Z.v 2)))
   (Z.ar (Z.cG (Z.aS aQ (Z.slice Y.dZ (Z.v 0) (Z.ll (Z.v 1)) (Z.ll (Z.op (Z.aN K rfl) (Z.v 1) (Z.cb (Z.bB K rfl) rfl T.b8 (by decide +kernel) (Z.cons (Z.v 3) Z.nil))))) (Z.v 3)) (Z.ag (Z.set (i:=4) bQ.nd rfl (by right) (Z.slice Y.dZ (Z.v 0) (Z.ll (Z.op (Z.aN K rfl) (Z.v 1) (Z.cb (Z.bB K rfl) rfl T.b8 (by decide +kernel) (Z.cons (Z.v 3) Z.nil)))) (Z.ll (Z.op (Z.aN K rfl) (Z.op (Z.aN K rfl) (Z.v 1) (Z.cb (Z.bB K rfl) rfl T.b8 (by decide +kernel) (Z.cons (Z.v 3) Z.nil))) (Z.ix (Z.ay K rfl hu) (Z.lst (Z.consts rfl)) (Z.v 2))))))
   (Z.ag (Z.cG (Z.aS gB (Z.cb (Z.bB K rfl) rfl T.b8 (by decide +kernel) (Z.cons (Z.v 4) Z.nil)) (Z.ix (Z.ay K rfl hu) (Z.lst (Z.consts rfl)) (Z.v 2))) (Z.ar (Z.ret Z.aP)) Z.bp)
   (Z.ag (Z.set (i:=5) bQ.nd rfl (by right) (Z.fn h_law_value (hr.mono (by decide)) rfl aA (Z.cons (Z.v 4) Z.nil)))
   (Z.ag (Z.cG (Z.aS r9 (Z.v 5) (Z.ix (Z.ay K rfl hu) (Z.lst (Z.consts rfl)) (Z.v 2))) (Z.ar (Z.set (i:=5) bQ.nd rfl (by right) (Z.op bZ (Z.v 5) (Z.ix (Z.ay K rfl hu) (Z.lst (Z.consts rfl)) (Z.v 2))))) Z.bp)
   (Z.ar (Z.ret (Z.tup (Z.cons (Z.v 5) (Z.cons (Z.op (Z.aN K rfl) (Z.op (Z.aN K rfl) (Z.v 1) (Z.cb (Z.bB K rfl) rfl T.b8 (by decide +kernel) (Z.cons (Z.v 3) Z.nil))) (Z.cb (Z.bB K rfl) rfl T.b8 (by decide +kernel) (Z.cons (Z.v 4) Z.nil))) Z.nil))))))))) Z.bp))))
   (Z.ar (Z.ret Z.aP))),?_⟩
  refine ao λN hN=>?_;walk_at "rz";refine⟨by decide,by decide,?_⟩
  refine cf (n:=3) (λn σ H'=>∃o2 o3 o4 o5:Option V,KB [] H H'/\n<=3/\(List.range' n (3-n)).find? (λi=>decide (m3.getD i [] <+: z.drop p))=k_ m3 z p/\σ=[some (.str (wd z)),some (.int (p:Nat)),o2,o3,o4,o5]) ⟨none,none,none,none,KB.refl _ _,GH _,by unfold k_;rw[Jc];rfl,rfl⟩ ?_ ?_
  ·rintro n σ H' hlt ⟨o2,o3,o4,o5,k0,hn,ef,rfl⟩;rw[find3 hlt] at ef;rw[show (0:Int)+((n:Nat):Int)=(n:Int) from Int.zero_add _];have p2:=v9 hlt;have p3:bV [V.int 4,.int 8,.int 16] (n:Int)=some (.int (b7 n:Nat)):=by rcases pj hlt with rfl|rfl|rfl<;>rfl
   have p4:0<b7 n/\b7 n<=16/\(cE n).length<=2:=by rcases pj hlt with rfl|rfl|rfl<;>decide
   have p5:bV [V.int 8,.int 128,.int 32768] (n:Int)=some (.int (fH n)):=by rcases pj hlt with rfl|rfl|rfl<;>rfl
   have p6:bV [V.int 16,.int 256,.int 65536] (n:Int)=some (.int (2*fH n)):=by rcases pj hlt with rfl|rfl|rfl<;>rfl
   have zs:(wd z).length<=sizeLine:=by rw[av];exact Gr hz (by decide)
   have h2l:(wd (cE n)).length<=sizeLine:=by rw[av];exact Gr p4.2.2 (by decide)
   unfold bj;refine ao λM hM=>?_;exists p2;refine⟨by decide,λl1 hl1=>?_⟩
   have k1:=k0.trans (KB.new (o:=.lst [.str (Str.ofString "0"),.str (Str.ofString "10"),.str (Str.ofString "11")]) hl1);generalize upd H' l1 _=H1 at *;rw[hM];clear hM M;dsimp only;refine jN λM hM=>?_;refine my λA B hA hB=>?_;have ec1:(p:Int)+((wd (cE n)).length:Nat)=((p+(cE n).length:Nat):Int):=by rw[av];lia
   exists ec1;refine⟨h2l,_,rfl,zs,?_⟩;rw[iN z p _ (by lia),HM]
   walk_at "rz";by_cases c:cE n <+: z.drop p
   ·rw[Gn c] at ef;rw[Gn (Hj wd (pre_take.mp c)),hA];clear hA hB A B;have hc:hG m3 z p=some (n,p+(cE n).length):=by unfold hG;rw[<- ef,<- vx hlt];rfl
    unfold gA at q;rw[hc] at q;dsimp only at q;generalize he:p+(cE n).length=e at *;have ec2:(e:Int)+(b7 n:Nat)=((e+b7 n:Nat):Int):=by lia
    have hb2:=hb.cut e (b7 n);have hl2:((z.drop e).take (b7 n)).length=min (b7 n) (z.length-e):=by rw[GQ,Hf]
    refine ao λM' hM'=>?_;exists ec1,p3,ec2;refine⟨h2l,h2l,by decide,λl2 hl2'=>⟨_,rfl,zs,?_⟩⟩
    have k2:=k1.trans (KB.new (o:=.lst [.int 4,.int 8,.int 16]) hl2');generalize upd H1 l2 _=H2 at *;rw[iN z e _ (by lia),HM,hM'];clear hM' M'
    have hx16:((z.drop e).take (b7 n)).length<=16:=by lia
    generalize hx:(z.drop e).take (b7 n)=x at *;have hxs:(wd x).length<=sizeLine:=by rw[av];exact Gr hx16 (by decide)
    refine ao λM' hM'=>?_;refine my λA B hA hB=>?_;exists p3;refine⟨hxs,by decide,λl3 hl3=>?_⟩
    have k3:=k2.trans (KB.new (o:=.lst [.int 4,.int 8,.int 16]) hl3);generalize upd H2 l3 _=H3 at *;rw[av];by_cases cl:e+b7 n<=z.length
    ·rw[Gn cl] at q;have hls:x.length=b7 n:=by lia
     rw[Gj (show ¬ (x.length:Int)<(b7 n:Nat) by lia),hB]
     show M' _ _;rw[hM'];clear hM' M' hA hB A B;refine ao λM' hM'=>?_;walk_at "rz";refine⟨x,rfl,hb2,by lia,?_⟩
     rw[hM'];clear hM' M';unfold A7 at q;have fin:∀(d:Int) (G:Hp),KB [] H G->d=(if fH n<=((eB x:Nat):Int) then ((eB x:Nat):Int)-2*fH n else ((eB x:Nat):Int))->(wd (cE n)).length<=sizeLine/\(wd x).length<=sizeLine/\0+1+1<=sizeLine/\∀b,G b=none->Q (.ref b) (upd G b (.tup [.int d,.int ((e:Int)+((wd x).length:Nat))])):=λd G kG ed=>by
      refine⟨h2l,hxs,by decide,λb hb'=>q _ _ (kG.trans (KB.new hb')) ⟨b,rfl,?_⟩⟩
      rw[aa,ed,av,hls];rfl
     refine ao λM' hM'=>?_;refine my λA B hA hB=>?_;exists p5;refine⟨by decide,λl4 hl4=>?_⟩
     have k4:=k3.trans (KB.new (o:=.lst [.int 8,.int 128,.int 32768]) hl4);generalize upd H3 l4 _=H4 at *;by_cases c2:fH n<=(eB x:Nat)
     ·rw[Gn c2,hA];exists p6;refine⟨by decide,λl5 hl5=>?_⟩
      have k5:=k4.trans (KB.new (o:=.lst [.int 16,.int 256,.int 65536]) hl5);generalize upd H4 l5 _=H5 at *;rw[hM'];exists ec1;exact fin _ H5 k5 (by rw[Gn c2])
     ·rw[Gj c2,hB];show M' _ _;rw[hM'];exists ec1;exact fin _ H4 k4 (by rw[Gj c2])
    ·rw[Gj cl] at q;rw[Gn (show (x.length:Int)<(b7 n:Nat) by lia),hA]
     walk_at "rz";exact q _ _ k3 rfl
   ·rw[Gj c] at ef;rw[Gj (λh=>c (pre_take.mpr (uD h))),hB];show M _ _;rw[hM];exact⟨some _,some _,o4,o5,k1,hlt,ef,rfl⟩
  ·rintro σ H' ⟨o2,o3,o4,o5,k0,_,ef,rfl⟩;have ef':k_ m3 z p=none:=ef.symm;unfold gA hG at q;rw[ef'] at q;show N _ _;rw[hN];clear hN N;walk_at "rz";exact q _ _ k0 rfl
noncomputable def EM(H:Hp)(v:V):Option (PV×Nat)->Prop
 |none=>v=.aP
 |some x=>∃t,v=.ref t/\H t=some (.tup [.int x.1.n,.int (x.2:Nat)])
theorem yT{v:V}(h:CA H v o):EM H v (o.map λx=>(PV.box x.1,x.2)):=by cases o<;>exact h
theorem zH{v:V}(h:CA H v o):EM H v (o.map λx=>(PV.num x.1,x.2)):=by cases o<;>exact h
theorem AE{v:V}{o:Option (Int×Nat)}(h:FO H v o):EM H v (o.map λx=>(PV.go x.1,x.2)):=by cases o<;>exact h
theorem Cq(h:i<9):bV [V.str (Str.ofString "bn"),.str (Str.ofString "bb"),.str (Str.ofString "bb"),.str (Str.ofString "bb"),.str (Str.ofString "b"),.str (Str.ofString "b"),.str (Str.ofString "g"),.str (Str.ofString "bg"),.str (Str.ofString "")] (i:Int)=some (.str (wd ((uK i).map Kd.c))):=by
 have:i=0\/i=1\/i=2\/i=3\/i=4\/i=5\/i=6\/i=7\/i=8:=by lia
 rcases this with rfl|rfl|rfl|rfl|rfl|rfl|rfl|rfl|rfl<;>exact Hj (λz=>some (V.str z)) (by decide +kernel)
theorem DV{cd:List (List (List Nat))}{k:Kd}{x:PV×Nat}(hR:xB cd)(h:sL cd z p k=some x):bV [V.str ⟨#[97+(x.1.n % 8).toNat]⟩,.int x.1.n] (if ¬ (⟨#[k.c]⟩:Str)=Str.ofString "b" then 1 else 0)=some x.1.l:=by
 have h8:=(lX hR h).2.2
 cases k with
 |box =>
  rw[Gj (by decide +kernel:¬ ¬ (⟨#[Kd.c .box]⟩:Str)=Str.ofString "b")]
  replace h:(hG (cd.getD 2 []) z p).map (λx=>(PV.box x.1,x.2))=some x:=h
  obtain⟨y,_,e⟩:=GO.mp h;subst e;have h9:=h8 _ rfl;show some (V.str ⟨#[97+(((y.1:Nat):Int) % 8).toNat]⟩)=some (V.str (bU y.1));rw[show (((y.1:Nat):Int) % 8).toNat=y.1 by lia]
  rfl
 |num =>
  rw[Gn (by decide +kernel:¬ (⟨#[Kd.c .num]⟩:Str)=Str.ofString "b")]
  obtain⟨y,_,e⟩:=GO.mp h;subst e;rfl
 |go =>
  rw[Gn (by decide +kernel:¬ (⟨#[Kd.c .go]⟩:Str)=Str.ofString "b")]
  obtain⟨y,_,e⟩:=GO.mp h;subst e;rfl
noncomputable def yA(H:Hp)(v:V):Option (RW×Nat)->Prop
 |none=>v=.aP
 |some x=>∃t r,v=.ref t/\H t=some (.tup [.ref r,.int (x.2:Nat)])/\H r=some (.tup x.1.l)
noncomputable def vV(K:LA):Sp:=λvs H Q _=>∃(a:Addr) (cd:List (List (List Nat))) (z:List Nat) (p:Nat),vs=[.ref a,.str (wd z),.int (p:Nat)]/\xC H a cd/\EW cd/\dw z/\z.length<=1000000/\p<=1000000/\∀v H',KB [] H H'->yA H' v (Cu cd z p)->Q v H'
theorem y8(T:Txt K mg)(F:HasFn K mg "_law_row_at" cW ["tables","bits","at"])(h_law_thing_at:aq P w K mg base bc 1 "_law_thing_at" ["table","bits","at"] (jB K))(h_law_number_at:aq P w K mg base bc 2 "_law_number_at" ["table","bits","at"] (vC K))(h_law_way_at:aq P w K mg base bc 2 "_law_way_at" ["bits","at"] uk)(h_law_words:aq P w K mg base bc 1 "_law_words" [] lV):aq P w K mg base bc 3 "_law_row_at" ["tables","bits","at"] (vV K):=by
 refine F.fW bq (λvs H Q E h=>?_) (λf cdv A outer s H vs Q E hr h=>?_)
 ·obtain⟨a,cd,z,p,rfl,_⟩:=h;rfl
 ·have hu:=a_ hr;obtain⟨a,cd,z,p,rfl,hT,hR,hb,hz,hp,q⟩:=h;obtain⟨t0,t1,t2,gT,T0,T1,T2⟩:=hT;refine⟨_,(Z.ag (Z.set (i:=3) bq.nd rfl (by right) (Z.fn h_law_thing_at (hr.mono (by decide)) rfl aA (Z.cons (Z.ix (Z.ay K rfl hu) (Z.v 0) Z.int) (Z.cons (Z.v 1) (Z.cons (Z.v 2) Z.nil)))))
   (Z.ag (Z.cG (Z.aS cF (Z.v 3) Z.aP) (Z.ar (Z.ret Z.aP)) Z.bp)
   (Z.ag (Z.set (i:=4) bq.nd rfl (by right) (Z.lst (Z.cons (Z.ix (Z.ay K rfl hu) (Z.FU h_law_words (hr.mono (by decide)) rfl aA) (Z.ix (Z.ay K rfl hu) (Z.v 3) Z.int)) Z.nil)))
   (Z.ag (Z.eF GP rfl (Z.FN (Z.ix (Z.ay K rfl hu) (Z.lst (Z.consts rfl)) (Z.ix (Z.ay K rfl hu) (Z.v 3) Z.int))) (Z.ba (i:=5) bq.nd rfl (by right)) (Z.ag (Z.set (i:=6) bq.nd rfl (by right) (Z.ix (Z.ay K rfl hu) (Z.v 3) Z.int))
   (Z.ag (Z.cG (Z.aS aQ (Z.v 5) Z.str) (Z.ar (Z.set (i:=3) bq.nd rfl (by right) (Z.fn h_law_thing_at (hr.mono (by decide)) rfl aA (Z.cons (Z.ix (Z.ay K rfl hu) (Z.v 0) Z.int) (Z.cons (Z.v 1) (Z.cons (Z.v 6) Z.nil)))))) (Z.ar (Z.cG (Z.aS aQ (Z.v 5) Z.str) (Z.ar (Z.set (i:=3) bq.nd rfl (by right) (Z.fn h_law_number_at (hr.mono (by decide)) rfl aA (Z.cons (Z.ix (Z.ay K rfl hu) (Z.v 0) Z.int) (Z.cons (Z.v 1) (Z.cons (Z.v 6) Z.nil)))))) (Z.ar (Z.set (i:=3) bq.nd rfl (by right) (Z.fn h_law_way_at (hr.mono (by decide)) rfl aA (Z.cons (Z.v 1) (Z.cons (Z.v 6) Z.nil))))))))
   (Z.ag (Z.cG (Z.aS cF (Z.v 3) Z.aP) (Z.ar (Z.ret Z.aP)) Z.bp)
   (Z.ar (Z.expr (Z.bm K rfl PySem.F.plainAttrs_list PySem.F.slot_list_append PySem.F.type_list_append cV (Z.v 4) (Z.cons (Z.ix (Z.ay K rfl hu) (Z.lst (Z.cons (Z.ix (Z.ay K rfl hu) Z.str (Z.op cg (Z.ix (Z.ay K rfl hu) (Z.v 3) Z.int) Z.int)) (Z.cons (Z.ix (Z.ay K rfl hu) (Z.v 3) Z.int) Z.nil))) (Z.ct sR rfl T.qK (by decide +kernel) (Z.cons (Z.cmp js (Z.v 5) Z.str) Z.nil))) Z.nil))))))))
   (Z.ar (Z.ret (Z.tup (Z.cons (Z.ct (Z.c_ K rfl) rfl T.cB (by decide +kernel) (Z.cons (Z.v 4) Z.nil)) (Z.cons (Z.ix (Z.ay K rfl hu) (Z.v 3) Z.int) Z.nil))))))))),?_⟩
  obtain⟨c0,c1,c2,rfl,l0,l1,l2⟩:=hR.g9.ex;have f0:=hR.pf c0 (by simp)
  have f1:=hR.pf c1 (by simp)
  have f2:=hR.pf c2 (by simp)
  have m0:=hR.BQ c0 (by simp)
  have m1:=hR.BQ c1 (by simp)
  have m2:=hR.BQ c2 (by simp)
  refine ao λN hN=>?_;exists aC gT;refine⟨t0,c0,z,p,rfl,T0,f0,m0,hz,hp,λv H1 k1 o1=>?_⟩;rw[hN];clear hN N;refine ao λN hN=>?_
  replace q:∀v H',KB [] H H'->yA H' v ((hG c0 z p).bind λx=>(i3 [c0,c1,c2] z (uK x.1) x.2).map λy=>(⟨x.1,y.1⟩,y.2))->Q v H':=q
  cases c:hG c0 z p with
  |none =>
   rw[c] at q o1;obtain rfl:v=.aP:=o1;walk_at "rz";exact q _ _ k1 rfl
  |some x =>
   rw[c] at q o1;obtain⟨wi,e⟩:=x;obtain⟨w1,_,_,w4⟩:=eA f0.ne c;dsimp only at w1 w4;have h9:wi<9:=by lia
   replace q:∀v H',KB [] H H'->yA H' v ((i3 [c0,c1,c2] z (uK wi) e).map λy=>(⟨wi,y.1⟩,y.2))->Q v H':=q
   obtain⟨t,rfl,ht⟩:=o1;dsimp only at ht;exists if_neg (show ¬ V.ref t=V.aP from V.noConfusion);rw[hN];clear hN N;refine ao λN hN=>?_;have ak:bV (bu.map V.str) (wi:Int)=some (.str (bu.getD wi (Str.ofString ""))):=bM (by
    rw[G0,Gv,Gi (show wi<bu.length from h9)];rfl)
   walk_at "rz";refine⟨rfl,λl hl=>?_⟩;have k2:KB [] H1 (upd H1 l (.lst (bu.map V.str))):=KB.new hl;have s2:upd H1 l (.lst (bu.map V.str)) l=_:=aa;generalize upd H1 l (.lst (bu.map V.str))=H2 at *;have ht2:=k2 _ _ ht (by simp)
   exists aH ht2,aC s2,ak;have h02:KB [] H H2:=k1.trans k2;have hlen:(uK wi).length<=2:=by
    have:wi=0\/wi=1\/wi=2\/wi=3\/wi=4\/wi=5\/wi=6\/wi=7\/wi=8:=by lia
    rcases this with rfl|rfl|rfl|rfl|rfl|rfl|rfl|rfl|rfl<;>decide
   have k9:=Cq h9;generalize hps:uK wi=ks0 at *;generalize hw9:bu.getD wi (Str.ofString "")=W at *;refine⟨by decide,λrl hrl=>?_⟩
   have k3:KB [] H2 (upd H2 rl (.lst [.str W])):=KB.new hrl;have s3:upd H2 rl (.lst [.str W]) rl=some (.lst [.str W]):=aa;generalize upd H2 rl (.lst [.str W])=H3 at *;have hrl0:H rl=none:=h02.free (by simp) hrl
   have h03:KB [] H H3:=h02.trans k3;have ht3:=k3 _ _ ht2 (by simp)
   clear k1 k2 k3 hl s2 ht ht2 ak h02 hrl;rw[hN];clear hN N;refine ao λN hN=>?_;walk_at "rz";refine⟨by decide,λl hl=>?_⟩
   have k4:=h03.trans (KB.new (o:=.lst [.str (Str.ofString "bn"),.str (Str.ofString "bb"),.str (Str.ofString "bb"),.str (Str.ofString "bb"),.str (Str.ofString "b"),.str (Str.ofString "b"),.str (Str.ofString "g"),.str (Str.ofString "bg"),.str (Str.ofString "")]) hl);have ht4:=KB.new (ex:=[]) (o:=.lst [.str (Str.ofString "bn"),.str (Str.ofString "bb"),.str (Str.ofString "bb"),.str (Str.ofString "bb"),.str (Str.ofString "b"),.str (Str.ofString "b"),.str (Str.ofString "g"),.str (Str.ofString "bg"),.str (Str.ofString "")]) hl _ _ ht3 (by simp)
   have s4:=KB.new (ex:=[]) (o:=.lst [.str (Str.ofString "bn"),.str (Str.ofString "bb"),.str (Str.ofString "bb"),.str (Str.ofString "bb"),.str (Str.ofString "b"),.str (Str.ofString "b"),.str (Str.ofString "g"),.str (Str.ofString "bg"),.str (Str.ofString "")]) hl _ _ s3 (by simp)
   exists aH ht4,k9;generalize upd H3 l _=H4 at *;clear ht3 s3 h03 hl;have q':∀v H',KB [] H H'->(match i3 [c0,c1,c2] z ks0 e with|none=>v=V.aP|some y=>∃t r,v=.ref t/\H' t=some (.tup [.ref r,.int (y.2:Nat)])/\H' r=some (.tup (.str W::y.1.map λx=>x.1.l)))->Q v H':=λv H' k o=>by
    refine q v H' k ?_
    cases c2':i3 [c0,c1,c2] z ks0 e with
    |none=>rw[c2'] at o;exact o
    |some y =>
     rw[c2'] at o;obtain⟨t,r,e1,e2,e3⟩:=o;refine⟨t,r,e1,e2,?_⟩;rw[e3];show _=some (HO.tup (RW.l ⟨wi,y.1⟩));unfold RW.l;rw[hw9]
   clear q k9;have KF:∀{G:Hp} {o:HO},KB [] H G->KB [] H (upd G rl o):=λa b o e _=>by rw[ae (ai e hrl0)];exact a b o e (by simp)
   refine nY (z:=wd (ks0.map Kd.c)) (λi σ H'=>∃(acc:List (PV×Nat)) (b:Nat) (x0:Int) (t:Addr) (o5 o6:Option V),i<=ks0.length/\(i3 [c0,c1,c2] z ks0 e=(i3 [c0,c1,c2] z (ks0.drop i) b).map λy=>(acc++y.1,y.2))/\acc.length=i/\b<=z.length/\H' t=some (.tup [.int x0,.int (b:Nat)])/\H' rl=some (.lst (.str W::acc.map λx=>x.1.l))/\KB [] H H'/\σ=[some (.ref a),some (.str (wd z)),some (.int (p:Nat)),some (.ref t),some (.ref rl),o5,o6]) ⟨[],e,(wi:Int),t,none,none,GH _,by rw[HL];cases i3 [c0,c1,c2] z ks0 e<;>rfl,rfl,w4,ht4,s4,k4,rfl⟩ ?_ ?_
   ·rintro i cc σ H' hcc ⟨acc,b,x0,t,o5,o6,hi,ep,hacc,hbz,ht',hrl',h0',rfl⟩;have hi2:i<ks0.length:=by have:=(HV.mp hcc).1;simpa[wd] using this
    obtain rfl:cc=(ks0[i]).c:=by
     have:(wd (ks0.map Kd.c)).cps[i]?=some (ks0[i]).c:=by unfold wd;rw[Ho,G0,Gi hi2];rfl
     rw[this] at hcc;exact (Option.some.inj hcc).symm
    rw[HZ hi2,i3] at ep;generalize ks0[i]=k at *;have hR':=hR.1;unfold bj;refine ao λM hM=>?_;exists aH ht';rw[hM];clear hM M;refine ao λM hM=>?_;have go:∀v G,KB [] H' G->EM G v (sL [c0,c1,c2] z b k)->M [some (.ref a),some (.str (wd z)),some (.int (p:Nat)),some v,some (.ref rl),some (.str ⟨#[k.c]⟩),some (.int (b:Nat))] G:=λv G kG o=>by
     rw[hM];clear hM M;refine ao λM hM=>?_
     cases c3:sL [c0,c1,c2] z b k with
     |none =>
      rw[c3] at ep o;obtain rfl:v=.aP:=o;have ep':i3 [c0,c1,c2] z ks0 e=none:=ep;walk_at "rz";exact q' _ _ (h0'.trans kG) (by rw[ep'])
     |some x =>
      rw[c3] at ep o;obtain⟨t5,rfl,ht5⟩:=o;exists if_neg (show ¬ V.ref t5=V.aP from V.noConfusion);rw[hM];clear hM M;dsimp only;refine jN λM hM=>?_;have at8:bV (Str.ofString "abcdefgh").cps.toList (x.1.n % 8)=some (97+(x.1.n % 8).toNat):=lZ (by lia) (by lia)
      have hk:=DV hR' c3;have hr5:=kG _ _ hrl' (by simp)
      exists aH ht5,at8;refine⟨.inl ⟨rfl,_,bY.of hr5⟩,by decide,by decide +kernel,by decide,λl7 hl7=>?_⟩
      have k7:KB [] G (upd G l7 (.lst [.str ⟨#[97+(x.1.n % 8).toNat]⟩,.int x.1.n])):=KB.new hl7;generalize upd G l7 (.lst [.str ⟨#[97+(x.1.n % 8).toNat]⟩,.int x.1.n])=G7 at *;rw[hk];have hr7:=k7 _ _ hr5 (by simp)
      refine⟨rl,_,_,rfl,rfl,hr7,GK (show _<4 by rw[GF,Gu];lia) (by decide),?_⟩
      rw[hM];have ht7:=k7 _ _ ht5 (by simp)
      have nt:t5≠rl:=λz=>by rw[z,hr7] at ht7;cases ht7
      refine⟨acc++[x],x.2,x.1.n,t5,some _,some _,hi2,?_,by rw[Gk,hacc];rfl,(lX hR' c3).2.1,by rw[ae nt];exact ht7,by rw[aa,GU];rfl,KF ((h0'.trans kG).trans k7),rfl⟩
      rw[ep,Option.bind_some]
      cases i3 [c0,c1,c2] z (ks0.drop (i+1)) x.2 with
      |none=>rfl
      |some y=>show some (acc++(x::y.1),y.2)=some ((acc++[x])++y.1,y.2);rw[GV];rfl
    have gT':=h0' _ _ gT (by simp)
    have nd:∀{t:Addr} {ws:List (List Nat)},sN H t ws->sN H' t ws:=λh=>h.keep h0' (by simp)
    cases k with
    |box =>
     exists Gn (by decide +kernel:(⟨#[Kd.c .box]⟩:Str)=Str.ofString "b"),aC gT'
     exact⟨t2,c2,z,b,rfl,nd T2,f2,m2,hz,by lia,λv G kG o=>go v G kG (yT o)⟩
    |num =>
     exists Gj (by decide +kernel:¬ (⟨#[Kd.c .num]⟩:Str)=Str.ofString "b"),Gn (by decide +kernel:(⟨#[Kd.c .num]⟩:Str)=Str.ofString "n"),aC gT'
     exact⟨t1,c1,z,b,rfl,nd T1,f1,m1,by lia,hb,hz,by lia,λv G kG o=>go v G kG (zH o)⟩
    |go =>
     exists Gj (by decide +kernel:¬ (⟨#[Kd.c .go]⟩:Str)=Str.ofString "b"),Gj (by decide +kernel:¬ (⟨#[Kd.c .go]⟩:Str)=Str.ofString "n")
     exact⟨z,b,rfl,hb,hz,by lia,λv G kG o=>go v G kG (AE o)⟩
   ·rintro σ H' ⟨acc,b,x0,t,o5,o6,_,ep,_,_,ht',hrl',h0',rfl⟩;have e0:(wd (ks0.map Kd.c)).cps.size=ks0.length:=by unfold wd;simp
    rw[e0,Je] at ep;have ep':i3 [c0,c1,c2] z ks0 e=some (acc,b):=by rw[ep];show some (acc++[],b)=_;rw[Ia]
    rw[ep'] at q';show N _ _;rw[hN];clear hN N;exists aC hrl';intro rt hrt;have k7:KB [] H' (upd H' rt (.tup (.str W::acc.map λx=>x.1.l))):=KB.new hrt;have s7:upd H' rt (.tup (.str W::acc.map λx=>x.1.l)) rt=_:=aa;generalize upd H' rt (.tup (.str W::acc.map λx=>x.1.l))=H7 at *;exists aH (k7 _ _ ht' (by simp))
    refine⟨by decide,λtt htt=>q' _ _ ((h0'.trans k7).trans (KB.new htt)) ⟨tt,rt,rfl,aa,?_⟩⟩
    rw[ae (ai s7 htt),s7]
noncomputable def Sm(H:Hp):Nat->V->V->Prop
 |0,x,y=>x=y/\((∃i,x=.int i)\/∃z,x=.str z)
 |n+1,x,y=>(x=y/\((∃i,x=.int i)\/∃z,x=.str z))\/∃a b xs ys,x=.ref a/\y=.ref b/\H a=some (.tup xs)/\H b=some (.tup ys)/\xs.length=ys.length/\∀(i:Nat) (u v:V),xs[i]?=some u->ys[i]?=some v->Sm H n u v
theorem Sm.kb{n:Nat}{x y:V}(h:Sm H n x y)(k:KB [] H H'):Sm H' n x y:=by
 induction n generalizing x y with
 |zero=>exact (show x=y/\((∃i,x=.int i)\/∃z,x=.str z) from h)
 |succ n ih =>
  rcases h with h|⟨a,b,xs,ys,e1,e2,e3,e4,e5,h⟩
  ·exact .inl h
  ·exact .inr ⟨a,b,xs,ys,e1,e2,k _ _ e3 (by simp),k _ _ e4 (by simp),e5,λi u v h1 h2=>ih (h i u v h1 h2)⟩
noncomputable def Fy:Sp:=λ_ _ _ _=>False
theorem DU{x:Str}{st:Stmt}{N ps:List Str}{k:Nat}(F:HasFn K mg x st ps)(S:ax N ps (af st)):aq P w K mg base bc (k+1) x ps Fy:=F.fW S (λ_ _ _ _ h=>h.elim) λ_ _ _ _ _ _ _ _ _ _ h=>h.elim
noncomputable def oZ(n:Nat):Sp:=λvs H Q _=>∃x y,vs=[x,y]/\Sm H n x y/\∀H',KB [] H H'->Q (.bl true) H'
section
local macro_rules | `(tactic| decide) => `(tactic| exact Nat.le_refl _)
theorem fJ(T:Txt K mg)(F:HasFn K mg "_law_same" cJ ["found","due"])(n j:Nat){sp:Sp}(h_law_same:aq P w K mg base bc j "_law_same" ["found","due"] sp)(hts:∀u v H Q E,(n=0->False)->Sm H (n-1) u v->(∀H',KB [] H H'->Q (.bl true) H')->sp [u,v] H Q E):aq P w K mg base bc (j+1) "_law_same" ["found","due"] (oZ n):=by
 refine F.fW gJ (λvs H Q E h=>?_) (λf cdv A outer s H vs Q E hr h=>?_)
 ·obtain⟨x,y,rfl,_⟩:=h;rfl
 ·have hu:=a_ hr;obtain⟨x,y,rfl,hx,q⟩:=h;refine⟨_,(Z.ag (Z.cG (Z.aS cF (Z.v 1) Z.aP) (Z.ar (Z.ret (Z.cmp cF (Z.v 0) Z.aP))) Z.bp)
   (Z.ag (Z.cG (Z.mx K rfl (Z.cb (Z.iR K rfl) rfl T.bT Hl (Z.cons (Z.v 1) (Z.cons (Z.BZ (T:="tuple") rfl T.cB (by decide +kernel)) Z.nil)))) (Z.ag (Z.cG (Z.tw (Z.EA (Z.vm (Z.mx K rfl (Z.cb (Z.iR K rfl) rfl T.bT Hl (Z.cons (Z.v 0) (Z.cons (Z.BZ (T:="tuple") rfl T.cB (by decide +kernel)) Z.nil))))) (Z.xJ (Z.aS js (Z.cb (Z.bB K rfl) rfl T.b8 (by decide +kernel) (Z.cons (Z.v 0) Z.nil)) (Z.cb (Z.bB K rfl) rfl T.b8 (by decide +kernel) (Z.cons (Z.v 1) Z.nil)))))) (Z.ar (Z.ret Z.bl)) Z.bp)
   (Z.ar (Z.ret (Z.cmp (Y.A9 K rfl (Nat.lt_of_succ_lt hu)) (Z.comp (osc:=af cJ) (ON:=["found","due"]) (own:=["one","other"]) (N:=["one","other","found","due"]) ⟨rfl,by decide +kernel,rfl,by decide +kernel,by decide +kernel,by decide +kernel,by decide +kernel,by decide +kernel⟩ rfl rfl rfl (Z.zip K rfl rfl T.Dm (Z.cons (Z.v 0) (Z.cons (Z.v 1) Z.nil))) (λ_ _ _ _=>(Z.rJ (n:=2) K rfl rfl (Z.cC (Z.ba (i:=0) (show List.Nodup (["one","other","found","due"]:List Str) by decide +kernel) rfl (by right)) (Z.cC (Z.ba (i:=1) (show List.Nodup (["one","other","found","due"]:List Str) by decide +kernel) rfl (by right)) Z.jl)))) (λ_ _ _ _=>(Z.FV (Z.vm (Z.mx K rfl (Z.fn h_law_same (hr.mono (by decide)) rfl aA (Z.cons (Z.v 0) (Z.cons (Z.v 1) Z.nil))))))) (λ_ _ _ _=>Z.int)) (Z.lst Z.nil))))) Z.bp)
   (Z.ag (Z.cG (Z.mx K rfl (Z.cb (Z.iR K rfl) rfl T.bT Hl (Z.cons (Z.v 1) (Z.cons (Z.BZ (T:="str") rfl T.u0 (by decide +kernel)) Z.nil)))) (Z.ar (Z.ret (Z.and (Z.cb (Z.iR K rfl) rfl T.bT Hl (Z.cons (Z.v 0) (Z.cons (Z.BZ (T:="str") rfl T.u0 (by decide +kernel)) Z.nil))) (Z.one (Z.cmp aQ (Z.v 0) (Z.v 1)))))) Z.bp)
   (Z.ar (Z.ret (Z.and (Z.cb (Z.iR K rfl) rfl T.bT Hl (Z.cons (Z.v 0) (Z.cons (Z.BZ (T:="int") rfl T.qK (by decide +kernel)) Z.nil))) (Z.and (Z.not (Z.cb (Z.iR K rfl) rfl T.bT Hl (Z.cons (Z.v 0) (Z.cons (Z.BZ (T:="bool") rfl T.BU (by decide +kernel)) Z.nil)))) (Z.one (Z.cmp aQ (Z.v 0) (Z.v 1)))))))))),?_⟩
  have hx2:(x=y/\((∃i,x=.int i)\/∃z,x=.str z))\/∃a b xs ys,x=.ref a/\y=.ref b/\(n=0->False)/\H a=some (.tup xs)/\H b=some (.tup ys)/\xs.length=ys.length/\∀(i:Nat) (u v:V),xs[i]?=some u->ys[i]?=some v->Sm H (n-1) u v:=by
   cases n with
   |zero=>exact .inl hx
   |succ n =>
    rcases hx with h|⟨a,b,xs,ys,e1,e2,h⟩
    ·exact .inl h
    ·exact .inr ⟨a,b,xs,ys,e1,e2,(λz=>by cases z),h⟩
  clear hx;refine ao λN hN=>?_;rcases hx2 with ⟨rfl,h⟩|⟨a,b,xs,ys,rfl,rfl,hn0,ha,hb,hl,hs⟩
  ·rcases h with ⟨i,rfl⟩|⟨z,rfl⟩
   ·exists Gj (show ¬ V.int i=V.aP from V.noConfusion);rw[hN];clear hN N;refine ao λN hN=>?_;exists (show gL "int" "tuple"=false from by decide +kernel)
    refine⟨by simp,?_⟩
    rw[hN];clear hN N;refine ao λN hN=>?_;exists (show gL "int" "str"=false from by decide +kernel)
    refine⟨by simp,?_⟩
    rw[hN];clear hN N;exists (show gL "int" "int"=true from by decide +kernel),(show gL "int" "bool"=false from by decide +kernel)
    exact⟨by simp,by simp,q _ (KB.refl _ _)⟩
   ·exists Gj (show ¬ V.str z=V.aP from V.noConfusion);rw[hN];clear hN N;refine ao λN hN=>?_;exists (show gL "str" "tuple"=false from by decide +kernel)
    refine⟨by simp,?_⟩
    rw[hN];clear hN N;refine ao λN hN=>?_;exists (show gL "str" "str"=true from by decide +kernel)
    exact⟨by simp,by simp,q _ (KB.refl _ _)⟩
  ·exists Gj (show ¬ V.ref b=V.aP from V.noConfusion);rw[hN];clear hN N;refine ao λN hN=>?_;refine my λA B hA hB=>?_;exists hb,(show gL "tuple" "tuple"=true from by decide +kernel)
   refine⟨by simp,?_⟩
   rw[hA];clear hA hB A B;refine ao λM hM=>?_;refine my λA B hA hB=>?_;exists ha,(show gL "tuple" "tuple"=true from by decide +kernel),aH ha,aH hb
   refine⟨by simp,?_⟩
   rw[Gj (by simp),Gj (by rw[hl];simp),hB]
   show M _ _;rw[hM];clear hM M hA hB A B;walk_at "rz";refine⟨a,b,false,false,⟨rfl,rfl⟩,⟨_,bz.of ha⟩,⟨_,bz.of hb⟩,?_⟩;refine pF hl (bz.of ha) (bz.of hb) (λi u v H' R h1 h2 k kk=>?_) (λD H' k hD=>?_)
   ·walk_at "rz";refine hts u v H' _ _ hn0 ((hs i u v h1 h2).kb k) λH4 k4=>?_;walk_at "rz";exact kk H4 k4
   ·refine⟨GH _,λp hp=>⟨D,p,[],rfl,rfl,bY.of ?_,bY.of aa,q _ (k.trans (KB.new hp))⟩⟩;rw[ae (ai hD hp)];exact hD
end
theorem yp(T:Txt K mg)(F:HasFn K mg "_law_same" cJ ["found","due"]):aq P w K mg base bc 5 "_law_same" ["found","due"] (oZ 3):=
 fJ T F 3 4 (fJ T F 2 3 (fJ T F 1 2 (fJ T F 0 1 (DU F gJ) λu v H Q E h=>(h rfl).elim) λu v H Q E _ h q=>⟨u,v,rfl,h,q⟩) λu v H Q E _ h q=>⟨u,v,rfl,h,q⟩) λu v H Q E _ h q=>⟨u,v,rfl,h,q⟩
noncomputable def v8(K:LA):Sp:=λvs H Q _=>∃(p dq:Addr) (n:Nat),vs=[.ref p]/\bK H p dq n/\n<2^38/\∀(r:Row) (a:Addr) H',r.Ok 0->H' a=some (.tup r.vs)->bK H' p dq (n+5)->KB [p,dq] H H'->Q (.ref a) H'
theorem xX(T:Txt K mg)(F:HasFn K mg "_law_plain_row" cm ["deck"])(h_law_draw:aq P w K mg base bc 2 "_law_draw" ["deck","most"] gu)(h_law_number:aq P w K mg base bc 3 "_law_number" ["deck"] nJ):aq P w K mg base bc 4 "_law_plain_row" ["deck"] (v8 K):=by
 refine F.fW bG (λvs H Q E h=>?_) (λf cdv A outer s H vs Q E hr h=>?_)
 ·obtain⟨p,dq,n,rfl,_⟩:=h;rfl
 ·have hu:=a_ hr;obtain⟨p,dq,n,rfl,hd,hn,q⟩:=h;refine⟨_,(Z.ag (Z.set (i:=1) bG.nd rfl (by right) (Z.ix (Z.ay K rfl hu) Z.str (Z.fn h_law_draw (hr.mono (by decide)) rfl aA (Z.cons (Z.v 0) (Z.cons Z.int Z.nil)))))
   (Z.ag (Z.set (i:=2) bG.nd rfl (by right) (Z.ix (Z.ay K rfl hu) Z.str (Z.fn h_law_draw (hr.mono (by decide)) rfl aA (Z.cons (Z.v 0) (Z.cons Z.int Z.nil)))))
   (Z.ag (Z.set (i:=3) bG.nd rfl (by right) (Z.fn h_law_number (hr.mono (by decide)) rfl aA (Z.cons (Z.v 0) Z.nil)))
   (Z.ag (Z.set (i:=4) bG.nd rfl (by right) (Z.lst (Z.cons (Z.tup (Z.cons Z.str (Z.cons (Z.v 1) (Z.cons (Z.v 3) Z.nil)))) (Z.cons (Z.tup (Z.cons Z.str (Z.cons (Z.v 1) (Z.cons (Z.v 2) Z.nil)))) (Z.cons (Z.tup (Z.cons Z.str (Z.cons (Z.v 1) (Z.cons (Z.v 2) Z.nil)))) (Z.cons (Z.tup (Z.cons Z.str (Z.cons (Z.v 1) (Z.cons (Z.v 2) Z.nil)))) (Z.cons (Z.tup (Z.cons Z.str (Z.cons (Z.v 1) Z.nil))) Z.nil)))))))
   (Z.ar (Z.ret (Z.ix (Z.ay K rfl hu) (Z.op (Z.aN K rfl) (Z.v 4) (Z.lst (Z.cons (Z.tup (Z.cons Z.str (Z.cons (Z.v 1) Z.nil))) Z.nil))) (Z.fn h_law_draw (hr.mono (by decide)) rfl aA (Z.cons (Z.v 0) (Z.cons Z.int Z.nil)))))))))),?_⟩
  refine ao λN hN=>?_;walk_at "rz";refine⟨p,dq,8,n,rfl,hd,by lia,by decide,by decide,λb H1 hb D1 k1=>?_⟩
  exists lZ (show 0<=(b:Int) by lia) hb
  refine⟨by decide +kernel,?_⟩
  rw[hN];clear hN N;refine ao λN hN=>?_;walk_at "rz";refine⟨p,dq,8,_,rfl,D1,by lia,by decide,by decide,λc H2 hc D2 k2=>?_⟩
  exists lZ (show 0<=(c:Int) by lia) hc
  refine⟨by decide +kernel,?_⟩
  rw[hN];clear hN N;refine ao λN hN=>?_;walk_at "rz";refine⟨p,dq,_,rfl,D2,by lia,λv H3 D3 k3 hv=>?_⟩
  rw[hN];clear hN N;refine ao λN hN=>?_;walk_at "rz";rw[GW,GW];have kk3:=(k1.trans k2).trans k3;show 0+1+1+1<=sizeLine/\∀p,H3 p=none->0+1+1+1<=sizeLine/\_;refine⟨by decide,λa1 h1=>?_⟩
  have j1:KB [] H3 (upd H3 a1 (.tup [.str (Str.ofString "put"),.str ⟨#[97+b]⟩,.int (v:Nat)])):=KB.new h1;have t1:upd H3 a1 (.tup [.str (Str.ofString "put"),.str ⟨#[97+b]⟩,.int (v:Nat)]) a1=some (.tup (Row.put b v).vs):=aa;generalize upd H3 a1 (.tup [.str (Str.ofString "put"),.str ⟨#[97+b]⟩,.int (v:Nat)])=G1 at *;refine⟨by decide,λa2 h2=>?_⟩
  have j2:KB [] G1 (upd G1 a2 (.tup [.str (Str.ofString "add"),.str ⟨#[97+b]⟩,.str ⟨#[97+c]⟩])):=KB.new h2;have t2:upd G1 a2 (.tup [.str (Str.ofString "add"),.str ⟨#[97+b]⟩,.str ⟨#[97+c]⟩]) a2=some (.tup (Row.two 0 b c).vs):=aa;generalize upd G1 a2 (.tup [.str (Str.ofString "add"),.str ⟨#[97+b]⟩,.str ⟨#[97+c]⟩])=G2 at *;refine⟨by decide,λa3 h3=>?_⟩
  have j3:KB [] G2 (upd G2 a3 (.tup [.str (Str.ofString "sub"),.str ⟨#[97+b]⟩,.str ⟨#[97+c]⟩])):=KB.new h3;have t3:upd G2 a3 (.tup [.str (Str.ofString "sub"),.str ⟨#[97+b]⟩,.str ⟨#[97+c]⟩]) a3=some (.tup (Row.two 1 b c).vs):=aa;generalize upd G2 a3 (.tup [.str (Str.ofString "sub"),.str ⟨#[97+b]⟩,.str ⟨#[97+c]⟩])=G3 at *;refine⟨by decide,λa4 h4=>?_⟩
  have j4:KB [] G3 (upd G3 a4 (.tup [.str (Str.ofString "copy"),.str ⟨#[97+b]⟩,.str ⟨#[97+c]⟩])):=KB.new h4;have t4:upd G3 a4 (.tup [.str (Str.ofString "copy"),.str ⟨#[97+b]⟩,.str ⟨#[97+c]⟩]) a4=some (.tup (Row.two 2 b c).vs):=aa;generalize upd G3 a4 (.tup [.str (Str.ofString "copy"),.str ⟨#[97+b]⟩,.str ⟨#[97+c]⟩])=G4 at *;refine⟨by decide,λa5 h5=>?_⟩
  have j5:KB [] G4 (upd G4 a5 (.tup [.str (Str.ofString "tell"),.str ⟨#[97+b]⟩])):=KB.new h5;have t5:upd G4 a5 (.tup [.str (Str.ofString "tell"),.str ⟨#[97+b]⟩]) a5=some (.tup (Row.one 0 b).vs):=aa;generalize upd G4 a5 (.tup [.str (Str.ofString "tell"),.str ⟨#[97+b]⟩])=G5 at *;refine⟨by decide,λsl hsl=>?_⟩
  have j6:KB [] G5 (upd G5 sl (.lst [.ref a1,.ref a2,.ref a3,.ref a4,.ref a5])):=KB.new hsl;have t6:upd G5 sl (.lst [.ref a1,.ref a2,.ref a3,.ref a4,.ref a5]) sl=_:=aa;generalize upd G5 sl (.lst [.ref a1,.ref a2,.ref a3,.ref a4,.ref a5])=G6 at *;rw[hN];clear hN N;walk_at "rz";refine⟨by decide,λa6 h6=>?_⟩
  have j7:KB [] G6 (upd G6 a6 (.tup [.str (Str.ofString "hear"),.str ⟨#[97+b]⟩])):=KB.new h6;have t7:upd G6 a6 (.tup [.str (Str.ofString "hear"),.str ⟨#[97+b]⟩]) a6=some (.tup (Row.one 1 b).vs):=aa;generalize upd G6 a6 (.tup [.str (Str.ofString "hear"),.str ⟨#[97+b]⟩])=G7 at *;refine⟨by decide,λl7 h7=>?_⟩
  have j8:KB [] G7 (upd G7 l7 (.lst [.ref a6])):=KB.new h7;have t8:upd G7 l7 (.lst [.ref a6]) l7=_:=aa;generalize upd G7 l7 (.lst [.ref a6])=G8 at *;exists t8,(j7.trans j8) _ _ t6 (by simp)
  refine⟨by decide,λl8 h8=>?_⟩
  have j9:KB [] G8 (upd G8 l8 (.lst [.ref a1,.ref a2,.ref a3,.ref a4,.ref a5,.ref a6])):=KB.new h8;have t9:upd G8 l8 (.lst [.ref a1,.ref a2,.ref a3,.ref a4,.ref a5,.ref a6]) l8=_:=aa;generalize upd G8 l8 (.lst [.ref a1,.ref a2,.ref a3,.ref a4,.ref a5,.ref a6])=G9 at *;have k69:=j6.trans (j7.trans (j8.trans j9));have k39:KB [] H3 G9:=j1.trans (j2.trans (j3.trans (j4.trans (j5.trans k69))));have D9:=D3.kb k39;have D8:=D3.kb (j1.trans (j2.trans (j3.trans (j4.trans (j5.trans (j6.trans (j7.trans j8)))))));refine⟨p,dq,6,_,rfl,D9,by lia,by decide,by decide,λx H4 hx D10 k4=>?_⟩
  have nl:=D8.new h8;have rowsAt:∀(j:Nat),j<6->∃(r:Row) (a:Addr),r.Ok 0/\bV [V.ref a1,.ref a2,.ref a3,.ref a4,.ref a5,.ref a6] (j:Int)=some (.ref a)/\G9 a=some (.tup r.vs):=λj hj=>by
   have hb8:b<8:=by lia
   have hc8:c<8:=by lia
   have:j=0\/j=1\/j=2\/j=3\/j=4\/j=5:=by lia
   rcases this with rfl|rfl|rfl|rfl|rfl|rfl
   ·exact⟨.put b v,a1,⟨hb8,hv⟩,rfl,(j2.trans (j3.trans (j4.trans (j5.trans k69)))) _ _ t1 (by simp)⟩
   ·exact⟨.two 0 b c,a2,⟨hb8,hc8⟩,rfl,(j3.trans (j4.trans (j5.trans k69))) _ _ t2 (by simp)⟩
   ·exact⟨.two 1 b c,a3,⟨hb8,hc8⟩,rfl,(j4.trans (j5.trans k69)) _ _ t3 (by simp)⟩
   ·exact⟨.two 2 b c,a4,⟨hb8,hc8⟩,rfl,(j5.trans k69) _ _ t4 (by simp)⟩
   ·exact⟨.one 0 b,a5,hb8,rfl,k69 _ _ t5 (by simp)⟩
   ·exact⟨.one 1 b,a6,hb8,rfl,(j8.trans j9) _ _ t7 (by simp)⟩
  obtain⟨r,ra,hr,er,gr⟩:=rowsAt x (by lia)
  exists aC (k4 _ _ t9 nl),er;exact q r ra H4 hr (D9.tup k4 gr) (D10.mono (by lia)) (kk3.trans (k39.all.trans k4))
noncomputable def uv(K:LA):Sp:=λvs H Q _=>∃(p dq b:Addr) (bk:List (List Int)) (n:Nat),vs=[.ref p,.ref b]/\bK H p dq n/\n<2^30/\tY H b bk/\Bk bk/\∀(z:List Nat) H',dw z->z.length<=2000->bK H' p dq (n+100)->KB [p,dq] H H'->Q (.str (wd z)) H'
theorem yN(T:Txt K mg)(F:HasFn K mg "_law_edge_bits" bP ["deck","book"])(h_law_code:aq P w K mg base bc 2 "_law_code" ["lengths"] (lM K))(h_law_plain:aq P w K mg base bc 2 "_law_plain" ["row","codes"] (qX K))(h_law_plain_row:aq P w K mg base bc 4 "_law_plain_row" ["deck"] (v8 K))(h_law_draw:aq P w K mg base bc 2 "_law_draw" ["deck","most"] gu)(h_law_bits:aq P w K mg base bc 1 "_law_bits" ["number","many"] iP):aq P w K mg base bc 5 "_law_edge_bits" ["deck","book"] (uv K):=by
 refine F.fW au (λvs H Q E h=>?_) (λf cdv A outer s H vs Q E hr h=>?_)
 ·obtain⟨p,dq,b,bk,n,rfl,_⟩:=h;rfl
 ·have hu:=a_ hr;obtain⟨p,dq,b,bk,n,rfl,hd,hn,hb,hB,q⟩:=h;have hC:=hB.cd;have hCb:=Cr bk;obtain⟨as,hb1,hb2,hb3⟩:=hb;obtain⟨l0,l1,l2,rfl,_,_,_,hl⟩:=hB;refine⟨_,(Z.ag (Z.setC (j:=2) au.nd rfl (by right) (osc:=af bP) (ON:=["deck","book","codes","begins","bits","k","row","last","begin","width","turn","behind","whole","goal","far"]) (own:=["lengths"]) (N:=["lengths","deck","book","codes","begins","bits","k","row","last","begin","width","turn","behind","whole","goal","far"]) ⟨rfl,by decide +kernel,rfl,by decide +kernel,by decide +kernel,by decide +kernel,by decide +kernel,by decide +kernel⟩ rfl rfl rfl (Z.any K rfl (Z.v 1)) (λ_ _ _ _=>(Z.ba (i:=0) (show List.Nodup (["lengths","deck","book","codes","begins","bits","k","row","last","begin","width","turn","behind","whole","goal","far"]:List Str) by decide +kernel) rfl (by right))) (λ_ _ _ _=>Z.zr) (λ_ _ _ _=>(Z.fn h_law_code (hr.mono (by decide)) rfl aA (Z.cons (Z.v 0) Z.nil))))
   (Z.ag (Z.set (i:=3) au.nd rfl (by right) (Z.lst (Z.cons Z.int Z.nil)))
   (Z.ag (Z.set (i:=4) au.nd rfl (by right) Z.str)
   (Z.ag (Z.eF GP rfl (Z.mV rfl T.cZ (Z.cons (Z.fn h_law_draw (hr.mono (by decide)) rfl aA (Z.cons (Z.v 0) (Z.cons Z.int Z.nil))) Z.nil)) (Z.ba (i:=5) au.nd rfl (by right)) (Z.ag (Z.set (i:=4) au.nd rfl (by right) (Z.op (Z.aN K rfl) (Z.v 4) (Z.fn h_law_plain (hr.mono (by decide)) rfl aA (Z.cons (Z.fn h_law_plain_row (hr.mono (by decide)) rfl aA (Z.cons (Z.v 0) Z.nil)) (Z.cons (Z.v 2) Z.nil)))))
   (Z.ar (Z.expr (Z.bm K rfl PySem.F.plainAttrs_list PySem.F.slot_list_append PySem.F.type_list_append cV (Z.v 3) (Z.cons (Z.cb (Z.bB K rfl) rfl T.b8 (by decide +kernel) (Z.cons (Z.v 4) Z.nil)) Z.nil))))))
   (Z.ag (Z.set (i:=6) au.nd rfl (by right) (Z.ix (Z.ay K rfl hu) (Z.lst (Z.cons (Z.tup (Z.consts rfl)) (Z.cons (Z.tup (Z.cons Z.str (Z.cons (Z.ix (Z.ay K rfl hu) Z.str (Z.fn h_law_draw (hr.mono (by decide)) rfl aA (Z.cons (Z.v 0) (Z.cons Z.int Z.nil)))) (Z.cons Z.int Z.nil)))) Z.nil))) (Z.fn h_law_draw (hr.mono (by decide)) rfl aA (Z.cons (Z.v 0) (Z.cons Z.int Z.nil)))))
   (Z.ag (Z.set (i:=4) au.nd rfl (by right) (Z.op (Z.aN K rfl) (Z.v 4) (Z.fn h_law_plain (hr.mono (by decide)) rfl aA (Z.cons (Z.v 6) (Z.cons (Z.v 2) Z.nil)))))
   (Z.ag (Z.set (i:=7) au.nd rfl (by right) (Z.ix (Z.ay K rfl hu) (Z.lst (Z.cons Z.str (Z.cons (Z.ix (Z.ay K rfl hu) (Z.ix (Z.ay K rfl hu) (Z.v 2) Z.int) Z.int) Z.nil))) (Z.fn h_law_draw (hr.mono (by decide)) rfl aA (Z.cons (Z.v 0) (Z.cons Z.int Z.nil)))))
   (Z.ag (Z.set (i:=8) au.nd rfl (by right) (Z.ix (Z.ay K rfl hu) (Z.v 3) (Z.fn h_law_draw (hr.mono (by decide)) rfl aA (Z.cons (Z.v 0) (Z.cons (Z.cb (Z.bB K rfl) rfl T.b8 (by decide +kernel) (Z.cons (Z.v 3) Z.nil)) Z.nil)))))
   (Z.ag (Z.set (i:=9) au.nd rfl (by right) Z.int)
   (Z.ag (Z.eF GP rfl (Z.mV rfl T.cZ (Z.cons Z.int Z.nil)) (Z.ba (i:=10) au.nd rfl (by right)) (Z.ag (Z.set (i:=11) au.nd rfl (by right) (Z.op (Z.aN K rfl) (Z.cb (Z.bB K rfl) rfl T.b8 (by decide +kernel) (Z.cons (Z.v 4) Z.nil)) (Z.ix (Z.ay K rfl hu) (Z.lst (Z.consts rfl)) (Z.v 10))))
   (Z.ag (Z.set (i:=12) au.nd rfl (by right) (Z.op (Z.aN K rfl) (Z.v 11) (Z.cb (Z.bB K rfl) rfl T.b8 (by decide +kernel) (Z.cons (Z.v 7) Z.nil))))
   (Z.ag (Z.set (i:=13) au.nd rfl (by right) (Z.ix (Z.ay K rfl hu) (Z.lst (Z.cons (Z.un gp Z.int) (Z.cons Z.int (Z.cons (Z.v 8) (Z.cons (Z.op (Z.aN K rfl) (Z.v 8) Z.int) (Z.cons (Z.v 12) (Z.cons (Z.op (Z.aN K rfl) (Z.v 12) Z.int) (Z.cons (Z.v 11) Z.nil)))))))) (Z.fn h_law_draw (hr.mono (by decide)) rfl aA (Z.cons (Z.v 0) (Z.cons Z.int Z.nil)))))
   (Z.ag (Z.cG (Z.tw (Z.se (Z.aS aQ (Z.v 10) Z.int) (Z.kr (Z.vm (Z.vg (zX) (gB) (Z.un gp Z.int) (Z.op bZ (Z.v 13) (Z.v 11)) Z.int))))) (Z.ar (Z.set (i:=9) au.nd rfl (by right) Z.int)) Z.bp)
   (Z.ar (Z.cG (Z.aS aQ (Z.v 9) (Z.op (Z.aN K rfl) (Z.v 10) Z.int)) (Z.ag (Z.set (i:=14) au.nd rfl (by right) (Z.op cg (Z.op bZ (Z.v 13) (Z.v 11)) (Z.ix (Z.ay K rfl hu) (Z.lst (Z.consts rfl)) (Z.v 10))))
   (Z.ar (Z.ret (Z.op (Z.aN K rfl) (Z.op (Z.aN K rfl) (Z.op (Z.aN K rfl) (Z.v 4) (Z.ix (Z.ay K rfl hu) (Z.lst (Z.consts rfl)) (Z.v 10))) (Z.fn h_law_bits (hr.mono (by decide)) rfl aA (Z.cons (Z.v 14) (Z.cons (Z.ix (Z.ay K rfl hu) (Z.lst (Z.consts rfl)) (Z.v 10)) Z.nil)))) (Z.v 7))))) Z.bp)))))))
   (Z.ar (Z.ret (Z.v 4))))))))))))),?_⟩
  refine ao λN hN=>?_;exists aH hb1;refine d9 (xs:=as.map V.ref) (Gr (show _<=3 by rw[Gu,hb2];exact Gp 3) (by decide)) (λD i ys H'=>H D=none/\H' D=some (.lst ys)/\KB [] H H'/\∃cs:List Addr,ys=cs.map V.ref/\cs.length=i/\∀(j:Nat) (c:Addr),cs[j]?=some c->H c=none/\c≠D/\H' c=some (.lst (wV (wordsOf Cw.dJ (List.getD [l0,l1,l2] j []))))) (λD hD=>⟨hD,aa,KB.new hD,[],rfl,rfl,λj c e=>nomatch e⟩) (λD i ys H' h=>⟨h.2.1,by obtain⟨_,_,_,cs,rfl,e,_⟩:=h;rw[Gu,e]⟩) (λD i ys H' h=>bz.of (h.2.2.1 _ _ hb1 (by simp))) ?_ ?_
  ·rintro D i ys H' x R hx ⟨g0,g1,g2,cs,rfl,g4,g5⟩ kk;obtain⟨a,ea,rfl⟩:∃a,as[i]?=some a/\x=.ref a:=by
    rw[G0] at hx;obtain⟨a,e,rfl⟩:=GO.mp hx;exact⟨a,e,rfl⟩
   have hi:i<3:=by have:=(Gm.mp ea).1;rw[hb2] at this;exact this
   have hm:List.getD [l0,l1,l2] i []∈[l0,l1,l2]:=by rcases pj hi with rfl|rfl|rfl<;>simp
   walk_at "rz";refine⟨a,_,rfl,g2 _ _ (hb3 i a ea) (by simp),(hl _ hm).1,(hl _ hm).2,λc H5 c0 k5 e5=>?_⟩
   have gD:=k5 _ _ g1 (by simp)
   have cD:c≠D:=λz=>by rw[z,g1] at c0;cases c0
   refine kk _ _ gD ⟨g0,aa,λu o e _=>by rw[ae (ai e g0)];exact k5 _ _ (g2 _ _ e (by simp)) (by simp),cs++[c],by rw[GU];rfl,by rw[Gk,g4];rfl,λj d e=>?_⟩
   rcases Hr j cs.length with hj|hj
   ·rw[Hi hj] at e;obtain⟨q1,q2,q3⟩:=g5 j d e;exact⟨q1,q2,by rw[ae q2];exact k5 _ _ q3 (by simp)⟩
   ·rw[Ha hj] at e;obtain⟨hj2,rfl⟩:=Gm.mp e;have:j=i:=by simp at hj2;lia
    subst this;simp only[g4,Ip,Jx];exact⟨g2.free (by simp) c0,cD,by rw[ae cD];exact e5⟩
  rintro ca ys H1 ⟨g0,g1,g2,cs,rfl,g4,g5⟩;rw[Gu,hb2] at g4;obtain⟨c0,c1,c2,rfl⟩:=pW g4;have keepC:∀{G:Hp},KB [p,dq] H1 G->FR G ca (fI [l0,l1,l2]):=λ{G} k=>by
   have n0:∀{x:Addr},H x=none->x∉[p,dq]:=λe=>hd.new e;exact⟨c0,c1,c2,k _ _ g1 (n0 g0),k _ _ (g5 0 c0 rfl).2.2 (n0 (g5 0 c0 rfl).1),k _ _ (g5 1 c1 rfl).2.2 (n0 (g5 1 c1 rfl).1),k _ _ (g5 2 c2 rfl).2.2 (n0 (g5 2 c2 rfl).1)⟩
  have D1:=hd.kb g2;show N _ _;rw[hN];clear hN N;clear g5 g4 g1 hb1 hb2 hb3 hl;generalize fI [l0,l1,l2]=cd at *;refine ao λN hN=>?_;walk_at "rz";refine⟨by decide,λbl hbl=>?_⟩
  have k2:KB [] H1 (upd H1 bl (.lst [.int 0])):=KB.new hbl;have s2:upd H1 bl (.lst [.int 0]) bl=some (.lst (iV (nZ [0]))):=aa;generalize upd H1 bl (.lst [.int 0])=H2 at *;have bl0:bl∉[p,dq]:=D1.new hbl;have blp:p≠bl:=λz=>bl0 (by simp[z])
  have blq:dq≠bl:=λz=>bl0 (by simp[z])
  rw[hN];clear hN N;refine ao λN hN=>?_;walk_at "rz";rw[hN];clear hN N;refine ao λN hN=>?_;walk_at "rz";refine⟨p,dq,7,n,rfl,D1.kb k2,by lia,by decide,by decide,λv H3 hv D3 k3=>?_⟩
  walk_at "rz";refine⟨by lia,by lia,?_⟩
  rw[GW];have setB:∀{G:Hp} {m:Nat} {o:HO},bK G p dq m->bK (upd G bl o) p dq m:=λh=>h.keep (KB.set (ex:=[bl]) (by simp)) (by simpa using blp) (by simpa using blq)
  have keepB:∀{G:Hp} {o:HO},KB [p,dq] H1 G->KB [p,dq] H1 (upd G bl o):=λa b o e z=>by rw[ae (ai e hbl)];exact a b o e z
  refine cf (λi σ H'=>∃(z bs:List Nat) (o5:Option V),dw z/\z.length<=136*i/\bs.length=i+1/\bK H' p dq (n+1+5*i)/\KB [p,dq] H1 H'/\H' bl=some (.lst (iV (nZ bs)))/\σ=[some (.ref p),some (.ref b),some (.ref ca),some (.ref bl),some (.str (wd z)),o5,none,none,none,none,none,none,none,none,none]) ⟨[],[0],none,(λc hc=>absurd hc GI),Gp _,rfl,D3,k2.all.trans k3,k3 _ _ s2 bl0,by rw[<- jH]⟩ ?_ ?_
  ·rintro i σ H' hi ⟨z,bs,o5,hbz,hz,hbs,hD,hk,gb,rfl⟩;generalize (0:Int)+((i:Nat):Int)=kI;unfold bj;refine ao λM hM=>?_;walk_at "rz";refine⟨p,dq,_,rfl,hD,by lia,λr ra H4 hr hra D4 k4=>?_⟩
   have hk4:=hk.trans k4;walk_at "rz";refine⟨ra,ca,r,0,cd,rfl,hra,keepC hk4,hr,hC,λH5 k5=>?_⟩;have hb2:=hbz.app (m6 hCb r);have h136:=mQ hC hr;have hl2:(z++fA cd r).length<=136*(i+1):=by rw[Gk];lia
   walk_at "rz";rw[av,av,ee];refine⟨Gr (show _<=10000 by lia) (by decide),?_⟩
   generalize z++fA cd r=x at *;rw[hM];clear hM M;dsimp only;refine jN λM hM=>?_;have gb5:=k5 _ _ (k4 _ _ gb bl0) (by simp)
   walk_at "rz";refine⟨.inl ⟨rfl,_,bY.of gb5⟩,by rw[av];exact Gr (show _<=10000 by lia) (by decide),bl,_,_,rfl,rfl,gb5,Im (show _<=40 by rw[bR,ie];lia) (by decide),?_⟩
   have eb:iV (nZ bs)++[V.int ((wd x).length:Nat)]=iV (nZ (bs++[x.length])):=by unfold nZ;rw[GU,mw,av];rfl
   rw[eb,hM];exact⟨x,bs++[x.length],some _,hb2,hl2,by rw[Gk,hbs];rfl,setB ((D4.kb k5).mono (by lia)),keepB (hk4.trans k5.all),aa,rfl⟩
  rintro σ H4 ⟨z,bs,o5,hbz,hz,hbs,hD,hk,gb,rfl⟩;have hv7:v<=6:=by lia
  show N _ _;rw[hN];clear hN N;clear D3 k3 k2 s2 D1;refine ao λN hN=>?_;walk_at "rz";refine⟨by decide,λt1 ht1=>?_⟩
  have k5:KB [] H4 (upd H4 t1 (.tup [.str (Str.ofString "jump"),.int 0])):=KB.new ht1;have s5:upd H4 t1 (.tup [.str (Str.ofString "jump"),.int 0]) t1=some (.tup (Row.jump 0).vs):=aa;generalize upd H4 t1 (.tup [.str (Str.ofString "jump"),.int 0])=H5 at *;refine⟨p,dq,8,_,rfl,hD.kb k5,by lia,by decide,by decide,λbx H6 hbx D6 k6=>?_⟩
  exists lZ (show 0<=(bx:Int) by lia) hbx
  refine⟨by decide +kernel,by decide,λt2 ht2=>?_⟩
  have k7:KB [] H6 (upd H6 t2 (.tup [.str (Str.ofString "zero"),.str ⟨#[97+(bx:Int).toNat]⟩,.int 0])):=KB.new ht2;have s7:upd H6 t2 (.tup [.str (Str.ofString "zero"),.str ⟨#[97+(bx:Int).toNat]⟩,.int 0]) t2=some (.tup (Row.zero bx 0).vs):=by rw[aa,GW];rfl
  generalize upd H6 t2 (.tup [.str (Str.ofString "zero"),.str ⟨#[97+(bx:Int).toNat]⟩,.int 0])=H7 at *;refine⟨by decide,λl8 hl8=>?_⟩
  have k8:KB [] H7 (upd H7 l8 (.lst [.ref t1,.ref t2])):=KB.new hl8;have s8:upd H7 l8 (.lst [.ref t1,.ref t2]) l8=_:=aa;generalize upd H7 l8 (.lst [.ref t1,.ref t2])=H8 at *;have D7:=D6.kb k7;have n8:=D7.new hl8;have D8:=D7.kb k8;refine⟨p,dq,2,_,rfl,D8,by lia,by decide,by decide,λx H9 hx D9 k9=>?_⟩
  obtain⟨r,ra,hr,er,gr⟩:∃(r:Row) (a:Addr),r.Ok 0/\bV [V.ref t1,.ref t2] (x:Int)=some (.ref a)/\H8 a=some (.tup r.vs):=by
   have:x=0\/x=1:=by lia
   rcases this with rfl|rfl
   ·exact⟨.jump 0,t1,Gp 0,rfl,k8 _ _ (k7 _ _ ((hD.kb k5).tup k6 s5) (by simp)) (by simp)⟩
   ·exact⟨.zero bx 0,t2,⟨by lia,Gp 0⟩,rfl,k8 _ _ s7 (by simp)⟩
  exists aC (k9 _ _ s8 n8),er;have gr9:=D8.tup k9 gr;have hk9:KB [p,dq] H1 H9:=hk.trans (k5.all.trans (k6.trans (k7.all.trans (k8.all.trans k9))));have gb9:=k9 _ _ (k8 _ _ (k7 _ _ (k6 _ _ (k5 _ _ gb (by simp)) bl0) (by simp)) (by simp)) bl0
  clear k5 k6 k7 k8 k9 s5 s7 s8 D6 D7 D8 n8 hl8 er gr ht1 ht2;rw[hN];clear hN N;refine ao λN hN=>?_;walk_at "rz";refine⟨ra,ca,r,0,cd,rfl,gr9,keepC hk9,hr,hC,λH10 k10=>?_⟩;have hb2:=hbz.app (m6 hCb r);have h136:=mQ hC hr;have hl2:(z++fA cd r).length<=952:=by rw[Gk];lia
  walk_at "rz";rw[av,av,ee];refine⟨Gr (show _<=10000 by lia) (by decide),?_⟩
  generalize z++fA cd r=y at *;have hk10:=hk9.trans k10.all;have D10:=D9.kb k10;have gb10:=k10 _ _ gb9 (by simp)
  rw[hN];clear hN N;clear hk9 D9 gb9 gr9 k10 hk gb hD hz hbz;refine ao λN hN=>?_;have hc10:=keepC hk10;obtain⟨a0,a1,a2,g,g0',_,_⟩:=hc10;have w8:=hC.at (p:=(0,8)) (.inl ⟨rfl,by decide⟩)
  have w88:bV (wV (cd.getD 0 [])) 8=some (.str (wd (fb cd (0,8)))):=qC (i:=8) w8.2.1;exists aC g,aC g0',w88;refine⟨by decide,λl11 hl11=>?_⟩
  have k11:KB [] H10 (upd H10 l11 (.lst [.str (Str.ofString ""),.str (wd (fb cd (0,8)))])):=KB.new hl11;have s11:upd H10 l11 (.lst [.str (Str.ofString ""),.str (wd (fb cd (0,8)))]) l11=_:=aa;generalize upd H10 l11 (.lst [.str (Str.ofString ""),.str (wd (fb cd (0,8)))])=H11 at *;have n11:=D10.new hl11;refine⟨p,dq,2,_,rfl,D10.kb k11,by lia,by decide,by decide,λx2 H12 hx2 D12 k12=>?_⟩
  obtain⟨la,hla,hlb,el⟩:∃la:List Nat,la.length<=40/\dw la/\bV [V.str (Str.ofString ""),.str (wd (fb cd (0,8)))] (x2:Int)=some (.str (wd la)):=by
   have:x2=0\/x2=1:=by lia
   rcases this with rfl|rfl
   ·exact⟨[],by decide,(λc hc=>absurd hc GI),by rw[jH];rfl⟩
   ·refine⟨_,w8.2.2,?_,rfl⟩;have e1:=Hx w8.1;exact hCb _ e1 _ (Hx w8.2.1)
  exists aC (k12 _ _ s11 n11),el;have hk12:=hk10.trans (k11.all.trans k12);have gb12:=k12 _ _ (k11 _ _ gb10 (by simp)) bl0
  clear k11 k12 s11 n11 hl11 hk10 gb10 D10 el g g0' hx2;rw[hN];clear hN N;refine ao λN hN=>?_;exists aC gb12,bR,ie;refine⟨p,dq,(bs.length:Nat),_,rfl,D12,by lia,by lia,by lia,λj H13 hj D13 k13=>?_⟩
  have ab:bV (iV (nZ bs)) (j:Int)=some (.int (bs.getD j 0:Nat)):=bM (by
   have hj:j<bs.length:=by lia
   unfold iV nZ;rw[G0,G0,Gv,Gi hj]
   rfl)
  exists aC (k13 _ _ gb12 bl0),ab;generalize ((bs.getD j 0:Nat):Int)=bg;have hk13:=hk12.trans k13;clear k13 gb12 hk12 D12 ab;rw[hN];clear hN N;refine ao λN hN=>?_;walk_at "rz";rw[hN];clear hN N;have lys:(wd y).length<=sizeLine:=by rw[av];exact Gr (show _<=10000 by lia) (by decide)
  have las:(wd la).length<=sizeLine:=by rw[av];exact Gr hla (by decide)
  refine ao λN hN=>?_;walk_at "rz";refine⟨by decide,by decide,?_⟩
  refine cf (n:=2) (λi σ H'=>∃(wi:Int) (o10 o11 o12 o13:Option V),bK H' p dq (n+60+i)/\KB [p,dq] H1 H'/\σ=[some (.ref p),some (.ref b),some (.ref ca),some (.ref bl),some (.str (wd y)),o5,some (.ref ra),some (.str (wd la)),some (.int bg),some (.int wi),o10,o11,o12,o13,none]) ⟨1,none,none,none,none,D13.mono (by lia),hk13,rfl⟩ ?_ ?_
  ·rintro i σ H' hi ⟨wi,o10,o11,o12,o13,hD,hk,rfl⟩;rw[show (0:Int)+((i:Nat):Int)=(i:Nat) from Int.zero_add _];obtain⟨e1,a1'⟩:∃e:Int,bV [V.int 10,.int 18] (i:Int)=some (.int e):=by
    have:i=0\/i=1:=by lia
    rcases this with rfl|rfl<;>exact⟨_,rfl⟩
   unfold bj;refine ao λM hM=>?_;exists a1';refine⟨lys,by decide,λl1 hl1=>?_⟩
   have D2:=hD.kb (KB.new (o:=.lst [.int 10,.int 18]) hl1);have hk2:=hk.trans (KB.new (o:=.lst [.int 10,.int 18]) hl1);generalize upd H' l1 (.lst [.int 10,.int 18])=G2 at *;generalize ((wd y).length:Int)+e1=be at *;rw[hM];clear hM M;refine ao λM hM=>?_;walk_at "rz";refine⟨las,?_⟩;generalize be+((wd la).length:Int)=wh at *;rw[hM];clear hM M;refine ao λM hM=>?_;walk_at "rz";refine⟨by decide,λl3 hl3=>?_⟩
   have k3:KB [] G2 (upd G2 l3 (.lst [.int (-1),.int 0,.int bg,.int (bg+1),.int wh,.int (wh+1),.int be])):=KB.new hl3;have s3:upd G2 l3 (.lst [.int (-1),.int 0,.int bg,.int (bg+1),.int wh,.int (wh+1),.int be]) l3=_:=aa;generalize upd G2 l3 (.lst [.int (-1),.int 0,.int bg,.int (bg+1),.int wh,.int (wh+1),.int be])=G3 at *;have n3:=D2.new hl3;refine⟨p,dq,7,_,rfl,D2.kb k3,by lia,by decide,by decide,λx3 G4 hx3 D4 k4=>?_⟩
   obtain⟨go,eg⟩:∃go:Int,bV [V.int (-1),.int 0,.int bg,.int (bg+1),.int wh,.int (wh+1),.int be] (x3:Int)=some (.int go):=by
    rcases (show x3=0\/x3=1\/x3=2\/x3=3\/x3=4\/x3=5\/x3=6 by lia) with rfl|rfl|rfl|rfl|rfl|rfl|rfl<;>exact⟨_,rfl⟩
   exists aC (k4 _ _ s3 n3),eg;have hk4:=hk2.trans (k3.all.trans k4);rw[hM];clear hM M;refine ao λM hM=>?_;have rest:∀wi':Int,M [some (.ref p),some (.ref b),some (.ref ca),some (.ref bl),some (.str (wd y)),o5,some (.ref ra),some (.str (wd la)),some (.int bg),some (.int wi'),some (.int (i:Nat)),some (.int be),some (.int wh),some (.int go),none] G4:=λwi'=>by
    rw[hM];clear hM M;dsimp only;refine jN λM hM=>?_;refine my λA B hA hB=>?_;walk_at "rz";by_cases c1:wi'=(i:Int)+1
    ·rw[Gn c1,hA];clear hA hB;obtain⟨m2,am,m0⟩:∃m:Int,bV [V.int 256,.int 65536] (i:Int)=some (.int m)/\0<m:=by
      have:i=0\/i=1:=by lia
      rcases this with rfl|rfl
      ·exact⟨_,rfl,by decide⟩
      ·exact⟨_,rfl,by decide⟩
     obtain⟨hw,ah,hh1,hh2⟩:∃w:List Nat,bV [V.str (Str.ofString "10"),.str (Str.ofString "11")] (i:Int)=some (.str (wd w))/\dw w/\w.length=2:=by
      have:i=0\/i=1:=by lia
      rcases this with rfl|rfl
      ·exact⟨[49,48],Hj (λz=>some (V.str z)) (by decide +kernel),(λc hc=>by revert c;decide),rfl⟩
      ·exact⟨[49,49],Hj (λz=>some (V.str z)) (by decide +kernel),(λc hc=>by revert c;decide),rfl⟩
     obtain⟨sz,as',hs⟩:∃m:Nat,bV [V.int 8,.int 16] (i:Int)=some (.int (m:Nat))/\m<=16:=by
      have:i=0\/i=1:=by lia
      rcases this with rfl|rfl
      ·exact⟨8,rfl,by decide⟩
      ·exact⟨16,rfl,by decide⟩
     refine ao λM2 hM2=>?_;exists am;refine⟨by decide,λl5 hl5=>⟨m0,?_⟩⟩
     have k5:KB [] G4 (upd G4 l5 (.lst [.int 256,.int 65536])):=KB.new hl5;generalize upd G4 l5 (.lst [.int 256,.int 65536])=G5 at *;rw[hM2];clear hM2 M2;exists ah;refine⟨by decide,λl6 hl6=>?_⟩
     have k6:KB [] G5 (upd G5 l6 (.lst [.str (Str.ofString "10"),.str (Str.ofString "11")])):=KB.new hl6;generalize upd G5 l6 (.lst [.str (Str.ofString "10"),.str (Str.ofString "11")])=G6 at *;rw[av,av,ee];refine⟨Gr (show _<=10000 by lia) (by decide),?_⟩
     exists as';refine⟨by decide,λl7 hl7=>⟨_,sz,rfl,by lia,?_⟩⟩
     have k7:KB [] G6 (upd G6 l7 (.lst [.int 8,.int 16])):=KB.new hl7;generalize upd G6 l7 (.lst [.int 8,.int 16])=G7 at *;have hll:(dB ((go-be) % m2) sz []).length=sz:=fQ _ _ _;have hlb2:dw (dB ((go-be) % m2) sz []):=gq _ _ _ λc hc=>by cases hc
     generalize dB ((go-be) % m2) sz []=u at *;have kk:=k5.trans (k6.trans k7);walk_at "rz";rw[av,av,ee];refine⟨Gr (show _<=10000 by rw[Gk];lia) (by decide),?_⟩
     rw[av,av,ee];refine⟨Gr (show _<=10000 by rw[Gk,Gk];lia) (by decide),?_⟩
     exact q _ G7 (((hb2.app hh1).app hlb2).app hlb) (by rw[Gk,Gk,Gk];lia) ((D4.kb kk).mono (by lia)) (g2.all.trans (hk4.trans kk.all))
    ·rw[Gj c1,hB];show M _ _;rw[hM];exact⟨wi',some _,some _,some _,some _,D4.mono (by lia),hk4,rfl⟩
   refine my λA B hA hB=>?_;have yes:A [some (.ref p),some (.ref b),some (.ref ca),some (.ref bl),some (.str (wd y)),o5,some (.ref ra),some (.str (wd la)),some (.int bg),some (.int wi),some (.int (i:Nat)),some (.int be),some (.int wh),some (.int go),none] G4:=by
    rw[hA];walk_at "rz";exact rest 2
   have no:B [some (.ref p),some (.ref b),some (.ref ca),some (.ref bl),some (.str (wd y)),o5,some (.ref ra),some (.str (wd la)),some (.int bg),some (.int wi),some (.int (i:Nat)),some (.int be),some (.int wh),some (.int go),none] G4:=by
    rw[hB];exact rest wi
   clear hA hB;walk_at "rz"
   repeat' split
   all_goals first|exact yes|exact no
  ·rintro σ H' ⟨wi,o10,o11,o12,o13,hD,hk,rfl⟩;show N _ _;rw[hN];clear hN N;walk_at "rz";exact q y H' hb2 (by lia) (hD.mono (by lia)) (g2.all.trans hk)
theorem oP:200000<=sizeLine:=by decide
noncomputable def zZ:List Key:=[.inr "a",.inr "b",.inr "c",.inr "d",.inr "e",.inr "f",.inr "g",.inr "h"]
structure hV where
 given:List Int
 heard:Nat
 told:List Int
 bs:List Int
structure MA where
 m:Addr
 dx:Addr
 gv:Addr
 tl:Addr
 bx:Addr
noncomputable def wL(a:MA)(h:Nat):List (Str×V):=[("given",.ref a.gv),("heard",.int (h:Nat)),("told",.ref a.tl),("boxes",.ref a.bx)]
structure MS (K:LA) (C:Addr) (H:Hp) (a:MA) (st:hV):Prop where
 om:H a.m=some (.ins C a.dx (wL a st.heard))
 od:H a.dx=some (.own a.m)
 og:H a.gv=some (.tup (iV st.given))
 ot:H a.tl=some (.lst (iV st.told))
 ob:H a.bx=some (.dK (zZ.zip (iV st.bs)))
 l8:st.bs.length=8
 hh:st.heard<=st.given.length
noncomputable def MF(a:MA):List Addr:=[a.m,a.tl,a.bx]
theorem nX(a:MA)(h:Nat):(wL a h).lookup ("given":Str)=some (.ref a.gv):=rfl
theorem jb(a:MA)(h:Nat):(wL a h).lookup ("heard":Str)=some (.int (h:Nat)):=rfl
theorem qr(a:MA)(h:Nat):(wL a h).lookup ("told":Str)=some (.ref a.tl):=rfl
theorem eL(a:MA)(h:Nat):(wL a h).lookup ("boxes":Str)=some (.ref a.bx):=rfl
theorem rW(a:MA)(h k:Nat):d5 "heard" (.int (k:Nat)) (wL a h)=wL a k:=rfl
theorem MS.ne1{a:MA}{st:hV}(M:MS K C H a st):a.tl≠a.m/\a.bx≠a.m/\a.gv≠a.m/\a.dx≠a.m/\a.bx≠a.tl/\a.gv≠a.tl/\a.dx≠a.tl/\a.gv≠a.bx/\a.dx≠a.bx:=by
 have h1:=M.om;have h2:=M.od;have h3:=M.og;have h4:=M.ot;have h5:=M.ob;have ap:∀{x y:Addr} {o o':HO},H x=some o->H y=some o'->o≠o'->x≠y:=λh h' n e=>n (by rw[e] at h;exact Option.some.inj (h.symm.trans h'))
 exact⟨ap h4 h1 (by simp),ap h5 h1 (by simp),ap h3 h1 (by simp),ap h2 h1 (by simp),ap h5 h4 (by simp),ap h3 h4 (by simp),ap h2 h4 (by simp),ap h3 h5 (by simp),ap h2 h5 (by simp)⟩
noncomputable def rH(K:LA)(C:Addr):Sp:=λvs H Q _=>∃(a:MA) (st:hV),vs=[.ref a.m]/\MS K C H a st /\
 (st.given.length<=st.heard->Q (.int 0) H)/\∀x,st.given[st.heard]?=some x->∀H',MS K C H' a {st with heard:=st.heard+1}->KB (MF a) H H'->Q (.int x) H'
theorem uf(T:Txt K mg)(cM:jO K C)(na_given:b9 K C "given")(na_heard:b9 K C "heard")(F:jy K "heard_number" "Machine.heard_number" aG f fd):cy P w K mg base bc 1 f fd ["self"] (rH K C):=by
 refine F.ok eN (λvs H Q E h=>?_) (λcdv A outer s H vs Q E hr h=>?_)
 ·obtain⟨a,st,rfl,_⟩:=h;rfl
 ·obtain⟨a,st,rfl,M,q1,q2⟩:=h;have hu:=a_ hr;have key:∃t,QB (fu bc P w K mg base ["self"] "Machine.heard_number" (af aG) f cdv A outer s H E).oF (aR aG) t/\t {nx:=λ_ H'=>Q .aP H',rt:=Q} (start ["self"] [.ref a.m]) H:=by
   refine⟨_,(Z.ag (Z.cG (Z.aS r9 (Z.fld K rfl (Z.v 0)) (Z.cb (Z.bB K rfl) rfl T.b8 (by decide +kernel) (Z.cons (Z.fld K rfl (Z.v 0)) Z.nil))) (Z.ar (Z.ret Z.int)) Z.bp)
   (Z.ag (Z.vM K rfl (Z.v 0) (Z.op (Z.aN K rfl) (Z.fld K rfl (Z.v 0)) Z.int))
   (Z.ar (Z.ret (Z.ix (Z.ay K rfl hu) (Z.fld K rfl (Z.v 0)) (Z.op bZ (Z.fld K rfl (Z.v 0)) Z.int)))))),?_⟩
   have e1:sq H a.gv=some (false,iV st.given):=aH M.og;have hl:(iV st.given).length=st.given.length:=Gu ..;refine ao λN hN=>?_;walk_at "rz";refine⟨a.m,C,a.dx,_,_,rfl,M.om,cM,na_heard,jb a _,a.m,C,a.dx,_,_,rfl,M.om,cM,na_given,nX a _,?_⟩;simp only[L2.Ap.uw,e1,hl];walk_at "rz";by_cases h1:st.given.length<=st.heard
   ·rw[Gn (by omega)]
    exact q1 h1
   ·rw[Gj (by omega),hN];clear hN N
    have h2:st.heard<st.given.length:=by omega
    obtain⟨n1,n2,n3,n4,n5,n6,n7,n8,n9⟩:=M.ne1;have M':MS K C (upd H a.m (.ins C a.dx (wL a (st.heard+1)))) a {st with heard:=st.heard+1}:=⟨aa,by rw[ae n4];exact M.od,by rw[ae n3];exact M.og,by rw[ae n1];exact M.ot,by rw[ae n2];exact M.ob,M.l8,h2⟩
    refine ao λN hN=>?_;walk_at "rz";refine⟨a.m,C,a.dx,_,_,rfl,M.om,cM,na_heard,jb a _,?_⟩;walk_at "rz";refine⟨a.m,C,a.dx,_,rfl,M.om,cM,na_heard,(show 4<1000 by decide),?_⟩
    rw[show ((st.heard:Nat):Int)+1=((st.heard+1:Nat):Int) from rfl,rW,hN];clear hN N;walk_at "rz";refine⟨a.m,C,a.dx,_,_,rfl,M'.om,cM,na_given,nX a _,a.m,C,a.dx,_,_,rfl,M'.om,cM,na_heard,jb a _,?_⟩;have e2:sq (upd H a.m (.ins C a.dx (wL a (st.heard+1)))) a.gv=some (false,iV st.given):=aH M'.og;have e3:bV (iV st.given) (((st.heard+1:Nat):Int)-1)=some (V.int st.given[st.heard]):=by
     rw[show ((st.heard+1:Nat):Int)-1=((st.heard:Nat):Int) by omega]
     exact bM (by unfold iV;rw[G0,Gi h2];rfl)
    simp only[L2.Ap.tB,L2.Ap.fj,e2,e3];exact q2 _ (Gi h2) _ M' (KB.set (by unfold MF;simp))
  obtain⟨t,hb,ht⟩:=key;exact⟨t,hb.h,ht⟩
noncomputable def dz(bs:List Int)(b:Nat):Int:=bs[b]?.getD 0
theorem o_:∀(b:Nat),b<8->∀bs:List Int,bs.length=8->cQ (zZ.zip (iV bs)) (.inr (bU b))=some (.int (dz bs b)):=by
 intro b hb bs hl;obtain⟨x0,x1,x2,x3,x4,x5,x6,x7,rfl⟩:=Dd hl;rcases AA hb with rfl|rfl|rfl|rfl|rfl|rfl|rfl|rfl<;>rfl
theorem Bz:∀(b:Nat),b<8->∀(bs:List Int) (x:Int),bs.length=8->putK (zZ.zip (iV bs)) (.inr (bU b)) (.int x)=zZ.zip (iV (bs.set b x)):=by
 intro b hb bs x hl;obtain⟨x0,x1,x2,x3,x4,x5,x6,x7,rfl⟩:=Dd hl;rcases AA hb with rfl|rfl|rfl|rfl|rfl|rfl|rfl|rfl<;>rfl
noncomputable def cx(st:hV):Int×hV:=match st.given[st.heard]? with
 |some x=>(x,{st with heard:=st.heard+1})
 |none=>(0,st)
noncomputable def bN(st:hV):bC->Int×hV
 |.put _ n=>((n:Nat),st)
 |.two w a b=>((match w with
  |0=>(dz st.bs a+dz st.bs b) % 65536
  |1=>(dz st.bs a-dz st.bs b) % 65536
  |2=>dz st.bs b % 65536),st)
 |.one _ _=>((cx st).1 % 65536,(cx st).2)
 |_=>(0,st)
noncomputable def isNum:bC->Bool
 |.put _ _=>true
 |.two _ _ _=>true
 |.one 1 _=>true
 |_=>false
noncomputable def zU(K:LA)(C:Addr):Sp:=λvs H Q _=>∃(a:MA) (st:hV) (p:Addr) (r:bC),vs=[.ref a.m,.ref p]/\MS K C H a st/\H p=some (.tup r.vs)/\r.Ok/\isNum r=true /\
 ∀H',MS K C H' a (bN st r).2->KB (MF a) H H'->Q (.int (bN st r).1) H'
theorem A8{fh:Addr}{d_heard_number:FuncData}(T:Txt K mg)(cM:jO K C)(na_boxes:b9 K C "boxes")(mm_heard_number:Meth K C "heard_number" fh)(bm_heard_number:Binds K d_heard_number ["self"] [])(FO_heard_number:cy P w K mg base bc 1 fh d_heard_number ["self"] (rH K C))(F:jy K "number_for" "Machine.number_for" aJ f fd):cy P w K mg base bc 2 f fd ["self","row"] (zU K C):=by
 obtain⟨u_WHOLE,hg_WHOLE,hr_WHOLE⟩:=T.xH;refine F.ok bA (λvs H Q E h=>?_) (λcdv A outer s H vs Q E hr h=>?_)
 ·obtain⟨a,st,p,r,rfl,_⟩:=h;rfl
 ·obtain⟨a,st,p,r,rfl,M,hp,aU,hi,q⟩:=h;have hu:=a_ hr;have key:∃t,QB (fu bc P w K mg base ["self","row","word","old","other"] "Machine.number_for" (af aJ) f cdv A outer s H E).oF (aR aJ) t/\t {nx:=λ_ H'=>Q .aP H',rt:=Q} (start ["self","row","word","old","other"] [.ref a.m,.ref p]) H:=by
   refine⟨_,(Z.ag (Z.set (i:=2) bA.nd rfl (by right) (Z.ix (Z.ay K rfl hu) (Z.v 1) Z.int))
   (Z.ag (Z.cG (Z.aS aQ (Z.v 2) Z.str) (Z.ar (Z.ret (Z.ix (Z.ay K rfl hu) (Z.v 1) Z.int))) Z.bp)
   (Z.ag (Z.cG (Z.aS aQ (Z.v 2) Z.str) (Z.ar (Z.ret (Z.op cg (Z.vz K rfl (Z.v 0) cM mm_heard_number FO_heard_number (hr.mono (by decide)) bm_heard_number aA) (Z.glob rfl hg_WHOLE hr_WHOLE)))) Z.bp)
   (Z.ag (Z.set (i:=3) bA.nd rfl (by right) (Z.qj hu (Z.fld K rfl (Z.v 0)) (Z.ix (Z.ay K rfl hu) (Z.v 1) Z.int)))
   (Z.ag (Z.set (i:=4) bA.nd rfl (by right) (Z.qj hu (Z.fld K rfl (Z.v 0)) (Z.ix (Z.ay K rfl hu) (Z.v 1) Z.int)))
   (Z.ag (Z.cG (Z.aS aQ (Z.v 2) Z.str) (Z.ar (Z.ret (Z.op cg (Z.op (Z.aN K rfl) (Z.v 3) (Z.v 4)) (Z.glob rfl hg_WHOLE hr_WHOLE)))) Z.bp)
   (Z.ag (Z.cG (Z.aS aQ (Z.v 2) Z.str) (Z.ar (Z.ret (Z.op cg (Z.op bZ (Z.v 3) (Z.v 4)) (Z.glob rfl hg_WHOLE hr_WHOLE)))) Z.bp)
   (Z.ar (Z.ret (Z.op cg (Z.v 4) (Z.glob rfl hg_WHOLE hr_WHOLE))))))))))),?_⟩
   have e1:sq H p=some (false,r.vs):=aH hp;refine ao λN hN=>?_;walk_at "rz";simp only[L2.Ap.fj,e1];have dg:∀b,b<8->fX H a.bx (.str (bU b)) (some (.int (dz st.bs b))):=λb hb=>.inl ⟨_,.inr (bU b),.inl M.ob,rfl,(o_ b hb st.bs M.l8).symm⟩;have sD:∀{x y:Str} {P1 P2:Prop},x≠y->P2->(if x=y then P1 else P2):=λh h2=>by rw[Gj h];exact h2
   cases r with
   |put b n =>
    show N [some (.ref a.m),some (.ref p),some (.str "put"),none,none] H;rw[hN];clear hN N;refine ao λN hN=>?_;walk_at "rz";simp only[L2.Ap.fj,e1];exact q H M (KB.refl _ _)
   |two u b c =>
    show N [some (.ref a.m),some (.ref p),some (.str (w2 u)),none,none] H;have hput:w2 u≠"put":=(show ∀u,w2 u≠"put" by decide +kernel) u
    have hhear:w2 u≠"hear":=(show ∀u,w2 u≠"hear" by decide +kernel) u
    rw[hN];clear hN N;refine ao λN hN=>?_;walk_at "rz";refine sD hput ?_;rw[hN];clear hN N;refine ao λN hN=>?_;walk_at "rz";refine sD hhear ?_;rw[hN];clear hN N;refine ao λN hN=>?_;walk_at "rz";refine⟨a.m,C,a.dx,_,_,rfl,M.om,cM,na_boxes,eL a _,?_⟩;simp only[L2.Ap.fj,e1];refine⟨a.bx,_,rfl,dg b aU.1,?_⟩;rw[hN];clear hN N;refine ao λN hN=>?_;walk_at "rz";refine⟨a.m,C,a.dx,_,_,rfl,M.om,cM,na_boxes,eL a _,?_⟩;simp only[L2.Ap.fj,e1];refine⟨a.bx,_,rfl,dg c aU.2,?_⟩;rw[hN];clear hN N;have fin:=q H M (KB.refl _ _);have hs:w2 1="sub":=rfl;refine ao λN hN=>?_;walk_at "rz";rcases yg u with rfl|rfl|rfl
    ·rw[Gn (show w2 0="add" from rfl)];exact⟨by decide,fin⟩
    ·refine sD (by decide +kernel) ?_
     rw[hN];clear hN N;refine ao λN hN=>?_;walk_at "rz";rw[Gn (show w2 1="sub" from rfl)];exact⟨by decide,fin⟩
    ·refine sD (by decide +kernel) ?_
     rw[hN];clear hN N;refine ao λN hN=>?_;walk_at "rz";refine sD (by decide +kernel) ?_
     rw[hN];clear hN N;walk_at "rz";exact⟨by decide,fin⟩
   |one u b =>
    have hu1:u=1:=by
     rcases mP u with h|h
     ·rw[h] at hi;cases hi
     ·exact h
    subst hu1;show N [some (.ref a.m),some (.ref p),some (.str "hear"),none,none] H;rw[hN];clear hN N;refine ao λN hN=>?_;walk_at "rz";refine sD (by decide +kernel) ?_
    rw[hN];clear hN N;refine ao λN hN=>?_;walk_at "rz";refine⟨a.m,a.dx,_,rfl,M.om,rfl,a,st,rfl,M,λh=>?_,λx hx H' M' kb=>?_⟩
    ·have e0:cx st=(0,st):=by unfold cx;rw[GX.mpr h]
     have e2:bN st (.one 1 b)=(0 % 65536,st):=by unfold bN;rw[e0]
     rw[e2] at q;walk_at "rz";exact⟨by decide,q H M (KB.refl _ _)⟩
    ·have e0:cx st=(x,{st with heard:=st.heard+1}):=by unfold cx;rw[hx]
     have e2:bN st (.one 1 b)=(x % 65536,{st with heard:=st.heard+1}):=by unfold bN;rw[e0]
     rw[e2] at q;walk_at "rz";exact⟨by decide,q H' M' kb⟩
   |jump g=>cases hi
   |zero b g=>cases hi
   |halt=>cases hi
  obtain⟨t,hb,ht⟩:=key;exact⟨t,hb.h,ht⟩
noncomputable def carry(st:hV):bC->Bool×hV
 |.jump _=>(true,st)
 |.zero b _=>(decide (dz st.bs b=0),st)
 |.one 0 b=>(false,{st with told:=st.told++[dz st.bs b]})
 |.halt=>(false,st)
 |.put b n=>(false,{(bN st (.put b n)).2 with bs:=(bN st (.put b n)).2.bs.set b (bN st (.put b n)).1})
 |.two w a b=>(false,{(bN st (.two w a b)).2 with bs:=(bN st (.two w a b)).2.bs.set a (bN st (.two w a b)).1})
 |.one 1 b=>(false,{(bN st (.one 1 b)).2 with bs:=(bN st (.one 1 b)).2.bs.set b (bN st (.one 1 b)).1})
noncomputable def qO(K:LA)(C:Addr):Sp:=λvs H Q _=>∃(a:MA) (st:hV) (p:Addr) (r:bC),vs=[.ref a.m,.ref p]/\MS K C H a st/\H p=some (.tup r.vs)/\r.Ok/\st.told.length<100000 /\
 ∀H',MS K C H' a (carry st r).2->KB (MF a) H H'->Q (.bl (carry st r).1) H'
theorem vq{fn:Addr}{d_number_for:FuncData}(T:Txt K mg)(cM:jO K C)(na_boxes:b9 K C "boxes")(na_told:b9 K C "told")(mm_number_for:Meth K C "number_for" fn)(bm_number_for:Binds K d_number_for ["self","row"] [])(FO_number_for:cy P w K mg base bc 2 fn d_number_for ["self","row"] (zU K C))(F:jy K "carry_out" "Machine.carry_out" aM f fd):cy P w K mg base bc 3 f fd ["self","row"] (qO K C):=by
 refine F.ok di (λvs H Q E h=>?_) (λcdv A outer s H vs Q E hr h=>?_)
 ·obtain⟨a,st,p,r,rfl,_⟩:=h;rfl
 ·obtain⟨a,st,p,r,rfl,M,hp,aU,htl,q⟩:=h;have hu:=a_ hr;have key:∃t,QB (fu bc P w K mg base ["self","row","word"] "Machine.carry_out" (af aM) f cdv A outer s H E).oF (aR aM) t/\t {nx:=λ_ H'=>Q .aP H',rt:=Q} (start ["self","row","word"] [.ref a.m,.ref p]) H:=by
   refine⟨_,(Z.ag (Z.set (i:=2) di.nd rfl (by right) (Z.ix (Z.ay K rfl hu) (Z.v 1) Z.int))
   (Z.ag (Z.cG (Z.aS aQ (Z.v 2) Z.str) (Z.ar (Z.ret Z.bl)) Z.bp)
   (Z.ag (Z.cG (Z.aS aQ (Z.v 2) Z.str) (Z.ar (Z.ret (Z.cmp aQ (Z.qj hu (Z.fld K rfl (Z.v 0)) (Z.ix (Z.ay K rfl hu) (Z.v 1) Z.int)) Z.int))) Z.bp)
   (Z.ag (Z.cG (Z.aS aQ (Z.v 2) Z.str) (Z.ar (Z.expr (Z.bm K rfl PySem.F.plainAttrs_list PySem.F.slot_list_append PySem.F.type_list_append cV (Z.fld K rfl (Z.v 0)) (Z.cons (Z.qj hu (Z.fld K rfl (Z.v 0)) (Z.ix (Z.ay K rfl hu) (Z.v 1) Z.int)) Z.nil)))) (Z.ar (Z.cG (Z.aS js (Z.v 2) Z.str) (Z.ar (Z.dput hu (Z.fld K rfl (Z.v 0)) (Z.ix (Z.ay K rfl hu) (Z.v 1) Z.int) (Z.Cv K rfl (Z.v 0) cM mm_number_for FO_number_for (hr.mono (by decide)) bm_number_for aA (Z.cons (Z.v 1) Z.nil)))) Z.bp)))
   (Z.ar (Z.ret Z.bl)))))),?_⟩
   have e1:sq H p=some (false,r.vs):=aH hp;obtain⟨n1,n2,n3,n4,n5,n6,n7,n8,n9⟩:=M.ne1;refine ao λN hN=>?_;walk_at "rz";simp only[L2.Ap.fj,e1];have dg:∀b,b<8->fX H a.bx (.str (bU b)) (some (.int (dz st.bs b))):=λb hb=>.inl ⟨_,.inr (bU b),.inl M.ob,rfl,(o_ b hb st.bs M.l8).symm⟩;have sD:∀{x y:Str} {P1 P2:Prop},x≠y->P2->(if x=y then P1 else P2):=λh h2=>by rw[Gj h];exact h2
   have go:∀(r':bC) (wd:Str) (b:Nat),r.vs=.str wd::.str (bU b)::(r.vs.drop 2)->b<8->isNum r=true->wd≠"jump"->wd≠"zero"->wd≠"tell"->wd≠"halt"->carry st r=(false,{(bN st r).2 with bs:=(bN st r).2.bs.set b (bN st r).1})->N [some (.ref a.m),some (.ref p),some (.str wd)] H:=by
    intro r' wd b ev hb hi w1 w2 w3 w4 ec;rw[hN];clear hN N;refine ao λN hN=>?_;walk_at "rz";refine sD w1 ?_;rw[hN];clear hN N;refine ao λN hN=>?_;walk_at "rz";refine sD w2 ?_;rw[hN];clear hN N;refine ao λN hN=>?_;walk_at "rz";refine sD w3 ?_;rw[Gn (show ¬ wd="halt" from w4)];refine⟨a.m,a.dx,_,rfl,M.om,rfl,a,st,p,r,rfl,M,hp,aU,hi,λH1 M1 kb=>?_⟩;have hp1:H1 p=some (.tup r.vs):=kb _ _ hp (by
     unfold MF;simp only[Gs,GI,Hn,not_or];exact⟨λe=>(by rw[e,M.om] at hp;cases hp),λe=>(by rw[e,M.ot] at hp;cases hp),λe=>(by rw[e,M.ob] at hp;cases hp)⟩)
    have e2:sq H1 p=some (false,r.vs):=aH hp1;refine⟨a.m,C,a.dx,_,_,rfl,M1.om,cM,na_boxes,eL a _,?_⟩;rw[e2,ev];simp only[xF];obtain⟨k1,k2,k3,k4,k5,k6,k7,k8,k9⟩:=M1.ne1;refine⟨a.bx,_,rfl,.inl ⟨_,.inr (bU b),M1.ob,rfl,?_,rfl⟩,?_⟩
    ·have l8:=M1.l8;rw[JS];exact Im (Nat.min_le_left _ _) (by decide)
    rw[Bz b hb _ _ M1.l8,hN];clear hN N;walk_at "rz";rw[ec] at q;refine q _ ⟨by rw[ae k2.symm];exact M1.om,by rw[ae k9];exact M1.od,by rw[ae k8];exact M1.og,by rw[ae k5.symm];exact M1.ot,aa,by rw[HE];exact M1.l8,M1.hh⟩ (kb.trans (KB.set (by unfold MF;simp)))
   cases r with
   |put b n=>exact go (.put b n) "put" b rfl aU rfl (by decide +kernel) (by decide +kernel) (by decide +kernel) (by decide +kernel) rfl
   |two u b c=>exact go (.two u b c) (w2 u) b rfl aU.1 rfl ((show ∀u,w2 u≠"jump" by decide +kernel) u) ((show ∀u,w2 u≠"zero" by decide +kernel) u) ((show ∀u,w2 u≠"tell" by decide +kernel) u) ((show ∀u,w2 u≠"halt" by decide +kernel) u) rfl
   |one u b =>
    rcases mP u with rfl|rfl
    rotate_left
    ·exact go (.one 1 b) "hear" b rfl aU rfl (by decide +kernel) (by decide +kernel) (by decide +kernel) (by decide +kernel) rfl
    ·show N [some (.ref a.m),some (.ref p),some (.str "tell")] H;rw[hN];clear go hN N;refine ao λN hN=>?_;walk_at "rz";refine sD (by decide +kernel) ?_
     rw[hN];clear hN N;refine ao λN hN=>?_;walk_at "rz";refine sD (by decide +kernel) ?_
     rw[hN];clear hN N;refine ao λN hN=>?_;walk_at "rz";refine⟨a.m,C,a.dx,_,_,rfl,M.om,cM,na_told,qr a _,Or.inl ⟨rfl,_,bY.of M.ot⟩,a.m,C,a.dx,_,_,rfl,M.om,cM,na_boxes,eL a _,?_⟩;simp only[L2.Ap.fj,e1];refine⟨a.bx,_,rfl,dg b aU,?_⟩;refine⟨a.tl,_,_,rfl,rfl,M.ot,?_,?_⟩
     ·unfold iV;rw[Gu];exact JM htl (GK (by decide) oP)
     rw[hN];clear hN N;walk_at "rz";refine q _ ⟨by rw[ae n1.symm];exact M.om,by rw[ae n7];exact M.od,by rw[ae n6];exact M.og,?_,by rw[ae n5];exact M.ob,M.l8,M.hh⟩ (KB.set (by unfold MF;simp))
     rw[aa];show some (HO.lst (iV st.told++[V.int (dz st.bs b)]))=some (.lst (iV (st.told++[dz st.bs b])));unfold iV;rw[GU];rfl
   |jump g =>
    show N [some (.ref a.m),some (.ref p),some (.str "jump")] H;rw[hN];clear go hN N;refine ao λN hN=>?_;walk_at "rz";exact q H M (KB.refl _ _)
   |zero b g =>
    show N [some (.ref a.m),some (.ref p),some (.str "zero")] H;rw[hN];clear go hN N;refine ao λN hN=>?_;walk_at "rz";refine sD (by decide +kernel) ?_
    rw[hN];clear hN N;refine ao λN hN=>?_;walk_at "rz";refine⟨a.m,C,a.dx,_,_,rfl,M.om,cM,na_boxes,eL a _,?_⟩;simp only[L2.Ap.fj,e1];refine⟨a.bx,_,rfl,dg b aU,?_⟩;walk_at "rz";exact q H M (KB.refl _ _)
   |halt =>
    show N [some (.ref a.m),some (.ref p),some (.str "halt")] H;rw[hN];clear go hN N;refine ao λN hN=>?_;walk_at "rz";refine sD (by decide +kernel) ?_
    rw[hN];clear hN N;refine ao λN hN=>?_;walk_at "rz";refine sD (by decide +kernel) ?_
    rw[hN];clear hN N;refine ao λN hN=>?_;walk_at "rz";refine sD (by decide +kernel) ?_
    rw[Gj (by simp),hN];clear hN N
    walk_at "rz";exact q H M (KB.refl _ _)
  obtain⟨t,hb,ht⟩:=key;exact⟨t,hb.h,ht⟩
noncomputable def rn:bC->Option Int
 |.jump g=>some g
 |.zero _ g=>some g
 |_=>none
noncomputable def jc(r:bC):V:=match rn r with
 |some g=>.int g
 |none=>.aP
noncomputable def lP:Sp:=λvs H Q _=>∃(p:Addr) (r:bC),vs=[.ref p]/\H p=some (.tup r.vs)/\Q (jc r) H
theorem xh(T:Txt K mg)(F:HasFn K mg "goal_of" fM ["row"]):aq P w K mg base bc 1 "goal_of" ["row"] lP:=by
 obtain⟨dS,hg_SHAPES,hd0⟩:=T.mO;have hd_SHAPES:jV K dS dh:=hd0;refine F.fW oK (λvs H Q E h=>?_) (λf cdv A outer s H vs Q E hr h=>?_)
 ·obtain⟨p,r,rfl,_⟩:=h;rfl
 ·have hu:=a_ hr;obtain⟨p,r,rfl,hp,q⟩:=h;refine⟨_,(Z.ar (Z.ret (Z.CN (Z.aS (Z.Dk K rfl) Z.str (Z.FI K rfl rfl hg_SHAPES hd_SHAPES (Z.ix (Z.ay K rfl hu) (Z.v 0) Z.int))) (Z.ix (Z.ay K rfl hu) (Z.v 0) (Z.un gp Z.int)) Z.aP))),?_⟩;have sp:=aH hp;have kt1:∀{pk:Addr} {xs:List V},EF K pk xs->bY K H pk xs\/bz K H pk xs:=λh=>.inr (.inr h);obtain⟨w,ws,e0,ed,ef,h⟩:∃(w:Str) (ws:List Str),bV r.vs 0=some (.str w)/\KTD.datumAt w dh=some ws/\(ws.map V.str).all dk=true/\(pY (.str "goal") (ws.map V.str)=true/\bV r.vs (-1)=some (jc r)\/pY (.str "goal") (ws.map V.str)=false/\jc r=.aP):=by
   cases r with
   |jump g=>exact⟨_,_,rfl,(by decide +kernel:KTD.datumAt ("jump":Str) dh=some [("goal":Str)]),rfl,.inl ⟨by decide +kernel,rfl⟩⟩
   |zero b g=>exact⟨_,_,rfl,(by decide +kernel:KTD.datumAt ("zero":Str) dh=some [("box":Str),"goal"]),rfl,.inl ⟨by decide +kernel,rfl⟩⟩
   |put b n=>exact⟨_,_,rfl,(by decide +kernel:KTD.datumAt ("put":Str) dh=some [("box":Str),"number"]),rfl,.inr ⟨by decide +kernel,rfl⟩⟩
   |two u b c=>exact⟨_,_,rfl,(by decide +kernel:∀u:_root_.Fin 3,KTD.datumAt (w2 u) dh=some [("box":Str),"box"]) u,rfl,.inr ⟨by decide +kernel,rfl⟩⟩
   |one u b=>exact⟨_,_,rfl,(by decide +kernel:∀u:_root_.Fin 2,KTD.datumAt (w1 u) dh=some [("box":Str)]) u,rfl,.inr ⟨by decide +kernel,rfl⟩⟩
   |halt=>exact⟨_,_,rfl,(by decide +kernel:KTD.datumAt ("halt":Str) dh=some ([]:List Str)),rfl,.inr ⟨by decide +kernel,rfl⟩⟩
  exists sp,e0;refine⟨_,_,rfl,ed,λpk kt=>⟨pk,_,rfl,kt1 kt,rfl,ef,?_⟩⟩;refine⟨_,rfl,?_⟩;rcases h with ⟨h1,h2⟩|⟨h1,h2⟩
  ·rw[Gj Gx,h1,Gn rfl];simp only[sp,h2];exact q
  ·rw[Gj Gx,h1,Gj Gx];rw[h2] at q;exact q
noncomputable def place(st:hV)(r:bC)(bh en:Int):Int:=match r with
 |.halt=>en
 |r=>if (carry st r).1=true then ((rn r).getD 0) else bh
noncomputable def zv(K:LA)(C:Addr):Sp:=λvs H Q _=>∃(a:MA) (st:hV) (p:Addr) (r:bC) (bh en:Int),vs=[.ref a.m,.ref p,.int bh,.int en]/\MS K C H a st/\H p=some (.tup r.vs)/\r.Ok/\st.told.length<100000 /\
 ∀H',MS K C H' a (carry st r).2->KB (MF a) H H'->Q (.int (place st r bh en)) H'
theorem vk{fc:Addr}{d_carry_out:FuncData}(T:Txt K mg)(hgoal_of:aq P w K mg base bc 1 "goal_of" ["row"] lP)(cM:jO K C)(mm_carry_out:Meth K C "carry_out" fc)(bm_carry_out:Binds K d_carry_out ["self","row"] [])(FO_carry_out:cy P w K mg base bc 3 fc d_carry_out ["self","row"] (qO K C))(F:jy K "place_next" "Machine.place_next" aK f fd):cy P w K mg base bc 4 f fd ["self","row","behind","end"] (zv K C):=by
 refine F.ok cR (λvs H Q E h=>?_) (λcdv A outer s H vs Q E hr h=>?_)
 ·obtain⟨a,st,p,r,bh,en,rfl,_⟩:=h;rfl
 ·obtain⟨a,st,p,r,bh,en,rfl,M,hp,aU,htl,q⟩:=h;have hu:=a_ hr;have key:∃t,QB (fu bc P w K mg base ["self","row","behind","end","goes"] "Machine.place_next" (af aK) f cdv A outer s H E).oF (aR aK) t/\t {nx:=λ_ H'=>Q .aP H',rt:=Q} (start ["self","row","behind","end","goes"] [.ref a.m,.ref p,.int bh,.int en]) H:=by
   refine⟨_,(Z.ag (Z.set (i:=4) cR.nd rfl (by right) (Z.Cv K rfl (Z.v 0) cM mm_carry_out FO_carry_out (hr.mono (by decide)) bm_carry_out aA (Z.cons (Z.v 1) Z.nil)))
   (Z.ag (Z.cG (Z.aS aQ (Z.ix (Z.ay K rfl hu) (Z.v 1) Z.int) Z.str) (Z.ar (Z.ret (Z.v 3))) Z.bp)
   (Z.ar (Z.ret (Z.CN (Z.mx K rfl (Z.v 4)) (Z.fn hgoal_of (hr.mono (by decide)) rfl aA (Z.cons (Z.v 1) Z.nil)) (Z.v 2)))))),?_⟩
   refine ao λN hN=>?_;walk_at "rz";refine⟨a.m,a.dx,_,rfl,M.om,rfl,a,st,p,r,rfl,M,hp,aU,htl,λH1 M1 kb=>?_⟩;have hp1:H1 p=some (.tup r.vs):=kb _ _ hp (by
    unfold MF;simp only[Gs,GI,Hn,not_or];exact⟨λe=>(by rw[e,M.om] at hp;cases hp),λe=>(by rw[e,M.ot] at hp;cases hp),λe=>(by rw[e,M.ob] at hp;cases hp)⟩)
   have e2:sq H1 p=some (false,r.vs):=aH hp1;walk_at "rz";rw[hN];clear hN N;refine ao λN hN=>?_;walk_at "rz";simp only[L2.Ap.fj,e2];have fin:=q H1 M1 kb;by_cases hh:r=.halt
   ·subst hh;show Am (.str "halt") (.str "halt") H1 _;simp only[L2.Ap.za];exact⟨_,rfl,by rw[Gn (by simp)];exact fin⟩
   ·obtain⟨wd,hw,hne⟩:∃wd,bV r.vs 0=some (.str wd)/\wd≠"halt":=by
     cases r with
     |put b n=>exact⟨_,rfl,by decide +kernel⟩
     |two u b c=>exact⟨_,rfl,(show ∀u,w2 u≠"halt" by decide +kernel) u⟩
     |one u b=>exact⟨_,rfl,(show ∀u,w1 u≠"halt" by decide +kernel) u⟩
     |jump g=>exact⟨_,rfl,by decide +kernel⟩
     |zero b g=>exact⟨_,rfl,by decide +kernel⟩
     |halt=>exact absurd rfl hh
    have ep:place st r bh en=if (carry st r).1=true then ((rn r).getD 0) else bh:=by
     cases r<;>first|rfl|exact absurd rfl hh
    rw[hw];simp only[L2.Ap.za];refine⟨_,rfl,?_⟩;rw[Gj (by simpa using hne),hN];clear hN N
    walk_at "rz"
    cases hc:(carry st r).1 with
    |false =>
     rw[Gj (by decide)]
     rw[ep,hc] at fin;exact fin
    |true =>
     rw[Gn rfl];obtain⟨g,hg⟩:∃g,rn r=some g:=by
      cases r with
      |put b n=>cases hc
      |two u b c=>cases hc
      |one u b =>
       rcases mP u with rfl|rfl<;>cases hc
      |jump g=>exact⟨g,rfl⟩
      |zero b g=>exact⟨g,rfl⟩
      |halt=>cases hc
     refine⟨p,r,rfl,hp1,?_⟩;have hT:jc r=.int g:=by unfold jc;rw[hg]
     have:=q H1 M1 kb;rw[ep,hc,hg] at this;rw[hT];exact this
  obtain⟨t,hb,ht⟩:=key;exact⟨t,hb.h,ht⟩
noncomputable def B5(K:LA)(C:Addr):Sp:=λvs H Q _=>∃(a:MA) (st:hV),vs=[.ref a.m]/\MS K C H a st/\∀p,H p=none->Q (.ref p) (upd H p (.tup (iV st.told)))
theorem zp(T:Txt K mg)(cM:jO K C)(na_told:b9 K C "told")(F:jy K "told_numbers" "Machine.told_numbers" aF f fd):cy P w K mg base bc 1 f fd ["self"] (B5 K C):=by
 refine F.ok eC (λvs H Q E h=>?_) (λcdv A outer s H vs Q E hr h=>?_)
 ·obtain⟨a,st,rfl,_⟩:=h;rfl
 ·obtain⟨a,st,rfl,M,q⟩:=h;have hu:=a_ hr;have key:∃t,QB (fu bc P w K mg base ["self"] "Machine.told_numbers" (af aF) f cdv A outer s H E).oF (aR aF) t/\t {nx:=λ_ H'=>Q .aP H',rt:=Q} (start ["self"] [.ref a.m]) H:=by
   refine⟨_,(Z.ar (Z.ret (Z.ct (Z.c_ K rfl) rfl T.cB (by decide +kernel) (Z.cons (Z.fld K rfl (Z.v 0)) Z.nil)))),?_⟩
   have e1:sq H a.tl=some (true,iV st.told):=aC M.ot;walk_at "rz";refine⟨a.m,C,a.dx,_,_,rfl,M.om,cM,na_told,qr a _,?_⟩;simp only[L2.Ap.qg,e1];exactλp hp=>q p hp
  obtain⟨t,hb,ht⟩:=key;exact⟨t,hb.h,ht⟩
noncomputable def CF:List Str:=["a","b","c","d","e","f","g","h"]
noncomputable def zG(K:LA)(C:Addr):Sp:=λvs H Q _=>∃(a:MA) (st:hV),vs=[.ref a.m]/\MS K C H a st/\∀p H',H p=none->H' p=some (.tup (iV st.bs))->KB [] H H'->Q (.ref p) H'
theorem vt(T:Txt K mg)(cM:jO K C)(na_boxes:b9 K C "boxes")(F:jy K "box_numbers" "Machine.box_numbers" az f fd):cy P w K mg base bc 1 f fd ["self"] (zG K C):=by
 obtain⟨b,hg_BOXES,kt0⟩:=T.lI;have hr_BOXES:RelV (.ref b) (.ref b):=rfl;have kt:∀H,bz K H b (CF.map V.str):=kt0;refine F.ok fi (λvs H Q E h=>?_) (λcdv A outer s H vs Q E hr h=>?_)
 ·obtain⟨a,st,rfl,_⟩:=h;rfl
 ·obtain⟨a,st,rfl,M,q⟩:=h;have hu:=a_ hr;have key:∃t,QB (fu bc P w K mg base ["self"] "Machine.box_numbers" (af az) f cdv A outer s H E).oF (aR az) t/\t {nx:=λ_ H'=>Q .aP H',rt:=Q} (start ["self"] [.ref a.m]) H:=by
   refine⟨_,(Z.ar (Z.ret (Z.ct (Z.c_ K rfl) rfl T.cB (by decide +kernel) (Z.cons (Z.comp (osc:=af az) (ON:=["self"]) (own:=["box"]) (N:=["box","self"]) ⟨rfl,by decide +kernel,rfl,by decide +kernel,by decide +kernel,by decide +kernel,by decide +kernel,by decide +kernel⟩ rfl rfl rfl (Z.seq K rfl (Z.glob rfl hg_BOXES hr_BOXES)) (λ_ _ _ _=>(Z.ba (i:=0) (show List.Nodup (["box","self"]:List Str) by decide +kernel) rfl (by right))) (λ_ _ _ _=>Z.zr) (λ_ _ _ _=>(Z.qj hu (Z.fld K rfl (Z.v 1)) (Z.v 0)))) Z.nil)))),?_⟩
   walk_at "rz";refine .inr ⟨⟨_,kt _⟩,?_⟩;have l8:=M.l8;refine d9 (xs:=CF.map V.str) (by decide) (λD i ys H'=>H D=none/\KB [] H H'/\H' D=some (.lst ys)/\ys=iV (st.bs.take i)/\i<=8) (λD hD=>⟨hD,KB.new hD,aa,by simp[iV],by decide⟩) (λD i ys H' ⟨h1,h2,h3,h4,h5⟩=>⟨h3,by rw[h4];unfold iV;rw[Gu,GQ];omega⟩) (λD i ys H' _=>kt _) ?_ ?_
   ·rintro D i ys H' x R hx ⟨h1,h2,h3,h4,h5⟩ k;have hi:i<8:=by
     rcases Hr i 8 with c|c
     ·exact c
     ·rw[GX.mpr (by exact c)] at hx;cases hx
    have ex:x=.str (bU i):=by
     rcases AA hi with rfl|rfl|rfl|rfl|rfl|rfl|rfl|rfl<;>exact (Option.some.inj hx).symm
    subst ex;have om':=h2 _ _ M.om (by simp)
    have ob':=h2 _ _ M.ob (by simp)
    walk_at "rz";refine⟨a.m,C,a.dx,_,_,rfl,om',cM,na_boxes,eL a _,a.bx,_,rfl,.inl ⟨_,.inr (bU i),.inl ob',rfl,(o_ i hi st.bs l8).symm⟩,?_⟩;refine k _ H' h3 ⟨h1,λb o e _=>?_,aa,?_,by omega⟩
    ·rw[ae (ai e h1)];exact h2 b o e (by simp)
    ·have hb:i<st.bs.length:=by omega
     rw[h4,JA hb];unfold iV dz;rw[GU,Gi hb];rfl
   ·rintro D ys H' ⟨h1,h2,h3,h4,h5⟩;have e1:sq H' D=some (true,ys):=aC h3;simp only[L2.Ap.qg,e1];refineλp hp=>q p _ (h2.free (by simp) hp) ?_ (h2.trans (KB.new hp))
    rw[aa,h4];have:st.bs.take (CF.map V.str).length=st.bs:=Hs (by rw[l8];decide)
    rw[this]
  obtain⟨t,hb,ht⟩:=key;exact⟨t,hb.h,ht⟩
noncomputable def Ah(g:List Int):hV:=⟨g,0,[],[0,0,0,0,0,0,0,0]⟩
noncomputable def AB(K:LA)(C:Addr):Sp:=λvs H Q _=>∃(x dx gv:Addr) (g:List Int),vs=[.ref x,.ref gv]/\H x=some (.ins C dx [])/\H dx=some (.own x)/\H gv=some (.tup (iV g)) /\
 ∀H' tl bx,H tl=none->H bx=none->MS K C H' ⟨x,dx,gv,tl,bx⟩ (Ah g)->KB [x] H H'->Q .aP H'
theorem xN(T:Txt K mg)(cM:jO K C)(na_given:b9 K C "given")(na_heard:b9 K C "heard")(na_told:b9 K C "told")(na_boxes:b9 K C "boxes")(F:jy K "__init__" "Machine.__init__" aL f fd):cy P w K mg base bc 1 f fd ["self","given"] (AB K C):=by
 obtain⟨b,hg_BOXES,kt0⟩:=T.lI;have hr_BOXES:RelV (.ref b) (.ref b):=rfl;have kt:∀H,bz K H b (CF.map V.str):=kt0;refine F.ok fY (λvs H Q E h=>?_) (λcdv A outer s H vs Q E hr h=>?_)
 ·obtain⟨x,dx,gv,g,rfl,_⟩:=h;rfl
 ·obtain⟨x,dx,gv,g,rfl,ox,od,og,q⟩:=h;have hu:=a_ hr;have key:∃t,QB (fu bc P w K mg base ["self","given"] "Machine.__init__" (af aL) f cdv A outer s H E).oF (aR aL) t/\t {nx:=λ_ H'=>Q .aP H',rt:=Q} (start ["self","given"] [.ref x,.ref gv]) H:=by
   refine⟨_,(Z.ag (Z.vM K rfl (Z.v 0) (Z.v 1))
   (Z.ag (Z.vM K rfl (Z.v 0) Z.int)
   (Z.ag (Z.vM K rfl (Z.v 0) (Z.lst Z.nil))
   (Z.ar (Z.vM K rfl (Z.v 0) (Z.ct (nh K rfl) rfl T.AH (by decide +kernel) (Z.cons (Z.comp (osc:=af aL) (ON:=["self","given"]) (own:=["box"]) (N:=["box","self","given"]) ⟨rfl,by decide +kernel,rfl,by decide +kernel,by decide +kernel,by decide +kernel,by decide +kernel,by decide +kernel⟩ rfl rfl rfl (Z.seq K rfl (Z.glob rfl hg_BOXES hr_BOXES)) (λ_ _ _ _=>(Z.ba (i:=0) (show List.Nodup (["box","self","given"]:List Str) by decide +kernel) rfl (by right))) (λ_ _ _ _=>Z.zr) (λ_ _ _ _=>(Z.tup (Z.cons (Z.v 0) (Z.cons Z.int Z.nil))))) Z.nil))))))),?_⟩
   have ndx:dx≠x:=by rintro rfl;rw[ox] at od;cases od
   have ngx:gv≠x:=by rintro rfl;rw[ox] at og;cases og
   refine ao λN hN=>?_;walk_at "rz";refine⟨x,C,dx,_,rfl,ox,cM,na_given,by decide,?_⟩
   rw[hN];clear hN N;refine ao λN hN=>?_;walk_at "rz";refine⟨x,C,dx,_,rfl,aa,cM,na_heard,(show 1<1000 by decide),?_⟩
   rw[hN];clear hN N;rw[kX];refine ao λN hN=>?_;walk_at "rz";refine⟨by decide,λtl htl=>?_⟩
   have ntl:tl≠x:=by rintro rfl;rw[aa] at htl;cases htl
   have htl0:H tl=none:=by rw[ae ntl] at htl;exact htl
   refine⟨x,C,dx,d5 "heard" (.int 0) (d5 "given" (.ref gv) []),rfl,by rw[ae ntl.symm];exact aa,cM,na_told,(show 2<1000 by decide),?_⟩
   rw[hN];clear hN N;have ntd:tl≠dx:=λe=>by rw[e,od] at htl0;cases htl0
   have ntg:tl≠gv:=λe=>by rw[e,og] at htl0;cases htl0
   obtain⟨H3,e3⟩:∃H3,H3=upd (upd (upd H x (.ins C dx (d5 "heard" (.int 0) (d5 "given" (.ref gv) [])))) tl (.lst [])) x (.ins C dx (d5 "told" (.ref tl) (d5 "heard" (.int 0) (d5 "given" (.ref gv) [])))):=⟨_,rfl⟩;rw[<- e3];have x3:H3 x=some (.ins C dx [("given",.ref gv),("heard",.int 0),("told",.ref tl)]):=by rw[e3];exact aa
   have t3:H3 tl=some (.lst []):=by rw[e3,ae ntl];exact aa
   have d3:H3 dx=some (.own x):=by rw[e3,ae ndx,ae ntd.symm,ae ndx];exact od
   have g3:H3 gv=some (.tup (iV g)):=by rw[e3,ae ngx,ae ntg.symm,ae ngx];exact og
   have k3:KB [x] H H3:=by
    rw[e3];exact ((KB.set (by simp)).trans (KB.new htl)).trans (KB.set (by simp))
   clear e3;walk_at "rz";refine .inr ⟨⟨_,kt _⟩,?_⟩;refine d9 (xs:=CF.map V.str) (by decide) (λD i ys H'=>H3 D=none/\KB [] H3 H'/\H' D=some (.lst ys)/\ys.length=i/\i<=8/\∀j,j<i->∃p,ys[j]?=some (.ref p)/\H' p=some (.tup [.str (bU j),.int 0])) (λD hD=>⟨hD,KB.new hD,aa,rfl,by decide,λj hj=>absurd hj (JR _)⟩) (λD i ys H' ⟨h1,h2,h3,h4,h5⟩=>⟨h3,h4⟩) (λD i ys H' _=>kt _) ?_ ?_
   ·rintro D i ys H' z R hx ⟨h1,h2,h3,h4,h5,h6⟩ k;have hi:i<8:=by
     rcases Hr i 8 with c|c
     ·exact c
     ·rw[GX.mpr (by exact c)] at hx;cases hx
    have ex:z=.str (bU i):=by
     rcases AA hi with rfl|rfl|rfl|rfl|rfl|rfl|rfl|rfl<;>exact (Option.some.inj hx).symm
    subst ex;walk_at "rz";refine⟨by decide,λp hp=>?_⟩
    have npD:p≠D:=by rintro rfl;rw[h3] at hp;cases hp
    refine k _ _ (by rw[ae npD.symm];exact h3) ⟨h1,λc o e _=>?_,aa,by rw[Gk,h4];rfl,by omega,λj hj=>?_⟩
    ·have hc:=h2 c o e (by simp)
     rw[ae (ai e h1),ae (ai hc hp)];exact hc
    ·rcases Hr j i with c|c
     ·obtain⟨p',e1,e2⟩:=h6 j c;have n1:p'≠D:=by rintro rfl;rw[h3] at e2;cases e2
      exact⟨p',by rw[Hi (by omega)];exact e1,by rw[ae n1,ae (ai e2 hp)];exact e2⟩
     ·have:j=i:=by omega
      subst this;exact⟨p,by rw[Ha (by omega),h4];simp,by rw[ae npD];exact aa⟩
   ·rintro D ys H' ⟨h1,h2,h3,h4,h5,h6⟩;have hl:(CF.map V.str).length=8:=rfl;rw[hl] at h4 h6;refine⟨D,ys,zZ.zip (iV (Ah g).bs),rfl,h3,⟨h4,λj k z e=>?_⟩,(show 8<=20000 by decide),λp hp=>?_⟩
    ·have hj:j<8:=by
      rcases Hr j 8 with c|c
      ·exact c
      ·rw[GX.mpr (by exact c)] at e;cases e
     obtain⟨p,e1,e2⟩:=h6 j hj;refine⟨p,e1,?_⟩;rw[e2];rcases AA hj with rfl|rfl|rfl|rfl|rfl|rfl|rfl|rfl<;>(cases e;rfl)
    ·have hm:cz [] (zZ.zip (iV (Ah g).bs))=zZ.zip (iV (Ah g).bs):=by
      rw[Y.iq _ [] ?_,HF];show (zZ.map λk=>k).Nodup
      decide +kernel
     rw[hm];have x4:=h2 _ _ x3 (by simp)
     have t4:=h2 _ _ t3 (by simp)
     have d4:=h2 _ _ d3 (by simp)
     have g4:=h2 _ _ g3 (by simp)
     have px:p≠x:=λe=>by rw[e,x4] at hp;cases hp
     have pt:p≠tl:=λe=>by rw[e,t4] at hp;cases hp
     have pd:p≠dx:=λe=>by rw[e,d4] at hp;cases hp
     have pg:p≠gv:=λe=>by rw[e,g4] at hp;cases hp
     have hp3:H3 p=none:=h2.free (by simp) hp
     have hp0:H p=none:=k3.free (by simpa using px) hp3
     refine⟨x,C,dx,[("given",.ref gv),("heard",.int 0),("told",.ref tl)],rfl,by rw[ae px.symm];exact x4,cM,na_boxes,(show 3<1000 by decide),?_⟩
     refine q _ tl p htl0 hp0 ⟨aa,by rw[ae ndx,ae pd.symm];exact d4,by rw[ae ngx,ae pg.symm];exact g4,by rw[ae ntl,ae pt.symm];exact t4,by rw[ae px];exact aa,rfl,GH _⟩ ?_
     exact ((k3.trans h2.all).trans (KB.new hp)).trans (KB.set (by simp))
  obtain⟨t,hb,ht⟩:=key;exact⟨t,hb.h,ht⟩
structure BS where
 st:hV
 at_:Int
 rd:Int
noncomputable def AS(cd:List (List (List Nat)))(z:List Nat)(p:Int):Option (bC×Nat):=(jD cd z p).map λx=>(tX x,x.2)
noncomputable def dv(z:List Nat)(c:BS)(x:bC×Nat):BS:=⟨(carry c.st x.1).2,place c.st x.1 (x.2:Nat) (z.length:Nat),c.rd+(x.2:Nat)-c.at_⟩
noncomputable def dm(cd:List (List (List Nat)))(z:List Nat):Nat->BS->BS
 |0,c=>c
 |n+1,c=>match AS cd z c.at_ with
  |none=>c
  |some x=>dm cd z n (dv z c x)
noncomputable def jX(cd:List (List (List Nat)))(z:List Nat)(c:BS):Str:=if c.at_=(z.length:Nat) then "halt" else match AS cd z c.at_ with
 |none=>"bad"
 |some _=>"more"
noncomputable def C9(g:List Int):BS:=⟨Ah g,0,0⟩
noncomputable def ql(H:Hp)(v:V)(cd:List (List (List Nat)))(z:List Nat)(c:BS):Prop:=∃t p1 p2,v=.ref t/\H t=some (.tup [.str (jX cd z c),.ref p1,.int c.rd,.ref p2])/\H p1=some (.tup (iV c.st.told))/\H p2=some (.tup (iV c.st.bs))
theorem qw(st:hV)(r:bC):(carry st r).2.told.length<=st.told.length+1:=by
 have hh:(cx st).2.told=st.told:=by unfold cx;split<;>rfl
 cases r with
 |put b n=>exact HD _
 |two u a b=>exact HD _
 |one u b =>
  rcases mP u with rfl|rfl
  ·show (st.told++[dz st.bs b]).length<=_;rw[Gk];exact Gp _
  ·show (cx st).2.told.length<=_;rw[hh];exact HD _
 |jump g=>exact HD _
 |zero b g=>exact HD _
 |halt=>exact HD _
theorem fe{cd:List (List (List Nat))}{n:Nat}{c:BS}(h:jD cd z c.at_=none):dm cd z n c=c:=by
 cases n with
 |zero=>rfl
 |succ k=>rw[dm];unfold AS;rw[h];rfl
theorem ju{cd:List (List (List Nat))}{n:Nat}{c:BS}{y:RW×Nat}(h:jD cd z c.at_=some y):dm cd z (n+1) c=dm cd z n (dv z c (tX y,y.2)):=by
 rw[dm];unfold AS;rw[h];rfl
theorem BP{m:Str}{a:MA}{h:Nat}(h1:m≠"given")(h2:m≠"heard")(h3:m≠"told")(h4:m≠"boxes"):(wL a h).lookup m=none:=by
 unfold wL;rw[Hk,Hb.mpr h1,Hk,Hb.mpr h2,Hk,Hb.mpr h3,Hk,Hb.mpr h4];rfl
theorem MS.kb{a:MA}{st:hV}(M:MS K C H a st)(k:KB [] H H'):MS K C H' a st:=⟨k _ _ M.om (by simp),k _ _ M.od (by simp),k _ _ M.og (by simp),k _ _ M.ot (by simp),k _ _ M.ob (by simp),M.l8,M.hh⟩
noncomputable def uy(K:LA):Sp:=λvs H Q _=>∃(b gv:Addr) (bk:List (List Int)) (z:List Nat) (g:List Int) (most:Nat),vs=[.str (wd z),.ref b,.ref gv,.int (most:Nat)]/\tY H b bk/\H gv=some (.tup (iV g))/\Bk bk/\xB (fI bk)/\dw z/\z.length<=1000000/\most<=10000/\∀v H',KB [] H H'->ql H' v (fI bk) z (dm (fI bk) z most (C9 g))->Q v H'
theorem zx(T:Txt K mg)(hgoal_of:aq P w K mg base bc 1 "goal_of" ["row"] lP)(hcodes_of:aq P w K mg base bc 6 "codes_of" ["book"] (rg K))(hrow_at:aq P w K mg base bc 5 "row_at" ["codes","bits","place"] (qo K))(F:HasFn K mg "run_bits" eW ["bits","book","given","most"]):aq P w K mg base bc 7 "run_bits" ["bits","book","given","most"] (uy K):=by
 obtain⟨C_Machine,f___init__,f_place_next,f_carry_out,f_number_for,f_heard_number,f_told_numbers,f_box_numbers,d___init__,d_place_next,d_carry_out,d_number_for,d_heard_number,d_told_numbers,d_box_numbers,hC_Machine,cM,na_given,na_heard,na_told,na_boxes,mm___init__,FM___init__,bm___init__,mm_place_next,FM_place_next,bm_place_next,mm_carry_out,FM_carry_out,bm_carry_out,mm_number_for,FM_number_for,bm_number_for,mm_heard_number,FM_heard_number,bm_heard_number,mm_told_numbers,FM_told_numbers,bm_told_numbers,mm_box_numbers,FM_box_numbers,bm_box_numbers⟩:=T.mc;have FO_heard_number:=uf (P:=P) (w:=w) (mg:=mg) (base:=base) T cM na_given na_heard FM_heard_number;have FO_number_for:=A8 (P:=P) (w:=w) (mg:=mg) (base:=base) T cM na_boxes mm_heard_number bm_heard_number FO_heard_number FM_number_for;have FO_carry_out:=vq (P:=P) (w:=w) (mg:=mg) (base:=base) T cM na_boxes na_told mm_number_for bm_number_for FO_number_for FM_carry_out;have FO_place_next:=vk T hgoal_of cM mm_carry_out bm_carry_out FO_carry_out FM_place_next;have FO_told_numbers:=zp (P:=P) (w:=w) (mg:=mg) (base:=base) T cM na_told FM_told_numbers;have FO_box_numbers:=vt (P:=P) (w:=w) (mg:=mg) (base:=base) T cM na_boxes FM_box_numbers;have FO___init__:=xN (P:=P) (w:=w) (mg:=mg) (base:=base) T cM na_given na_heard na_told na_boxes FM___init__;refine F.fW aY (λvs H Q E h=>?_) (λf cdv A outer s H vs Q E hr h=>?_)
 ·obtain⟨b,gv,bk,z,g,most,rfl,_⟩:=h;rfl
 ·obtain⟨bb,gv,bk,z,g,most,rfl,hbk,og,hBk,hR,hb,hz,hmo,q⟩:=h;have hu:=a_ hr;refine⟨_,(Z.ag (Z.set (i:=4) aY.nd rfl (by right) (Z.fn hcodes_of (hr.mono (by decide)) rfl aA (Z.cons (Z.v 1) Z.nil)))
   (Z.ag (Z.set (i:=5) aY.nd rfl (by right) (Z.make K rfl mm___init__ FO___init__ (hr.mono (by decide)) rfl hC_Machine bm___init__ aA (Z.cons (Z.v 2) Z.nil)))
   (Z.ag (Z.set (i:=6) aY.nd rfl (by right) Z.int)
   (Z.ag (Z.set (i:=7) aY.nd rfl (by right) Z.int)
   (Z.ag (Z.set (i:=8) aY.nd rfl (by right) Z.int)
   (Z.ag (Z.set (i:=9) aY.nd rfl (by right) (Z.fn hrow_at (hr.mono (by decide)) rfl aA (Z.cons (Z.v 4) (Z.cons (Z.v 0) (Z.cons (Z.v 8) Z.nil)))))
   (Z.ag (Z.pA GP (Z.tw (Z.se (Z.aS yZ (Z.v 9) Z.aP) (Z.kr (Z.aS gB (Z.v 7) (Z.v 3))))) (Z.ag (Z.set (i:=6) aY.nd rfl (by right) (Z.op bZ (Z.op (Z.aN K rfl) (Z.v 6) (Z.ix (Z.ay K rfl hu) (Z.v 9) Z.int)) (Z.v 8)))
   (Z.ag (Z.set (i:=7) aY.nd rfl (by right) (Z.op (Z.aN K rfl) (Z.v 7) Z.int))
   (Z.ag (Z.set (i:=8) aY.nd rfl (by right) (Z.Cv K rfl (Z.v 5) cM mm_place_next FO_place_next (hr.mono (by decide)) bm_place_next aA (Z.cons (Z.ix (Z.ay K rfl hu) (Z.v 9) Z.int) (Z.cons (Z.ix (Z.ay K rfl hu) (Z.v 9) Z.int) (Z.cons (Z.cb (Z.bB K rfl) rfl T.b8 (by decide +kernel) (Z.cons (Z.v 0) Z.nil)) Z.nil)))))
   (Z.ar (Z.set (i:=9) aY.nd rfl (by right) (Z.fn hrow_at (hr.mono (by decide)) rfl aA (Z.cons (Z.v 4) (Z.cons (Z.v 0) (Z.cons (Z.v 8) Z.nil))))))))))
   (Z.ag (Z.cG (Z.aS aQ (Z.v 8) (Z.cb (Z.bB K rfl) rfl T.b8 (by decide +kernel) (Z.cons (Z.v 0) Z.nil))) (Z.ar (Z.set (i:=10) aY.nd rfl (by right) Z.str)) (Z.ar (Z.set (i:=10) aY.nd rfl (by right) (Z.CN (Z.aS cF (Z.v 9) Z.aP) Z.str Z.str))))
   (Z.ar (Z.ret (Z.tup (Z.cons (Z.v 10) (Z.cons (Z.vz K rfl (Z.v 5) cM mm_told_numbers FO_told_numbers (hr.mono (by decide)) bm_told_numbers aA) (Z.cons (Z.v 6) (Z.cons (Z.vz K rfl (Z.v 5) cM mm_box_numbers FO_box_numbers (hr.mono (by decide)) bm_box_numbers aA) Z.nil))))))))))))))),?_⟩
  refine ao λN hN=>?_;walk_at "rz";refine⟨bb,bk,rfl,hbk,hBk,λca H1 hca k1 rc=>?_⟩;rw[hN];clear hN N;generalize g9:fI bk=cd at *;have og1:=k1 _ _ og (by simp)
  refine ao λN hN=>?_;walk_at "rz";intro x dx hx0 hdx0 hxd;have gx:gv≠x:=λzz=>by rw[zz,hx0] at og1;cases og1
  have gd:gv≠dx:=λzz=>by rw[zz,hdx0] at og1;cases og1
  refine⟨x,dx,gv,g,rfl,aa,by rw[ae hxd];exact aa,by rw[ae gx,ae gd];exact og1,λH2 tl bx htl hbx M2 kb2=>⟨rfl,?_⟩⟩
  have k12:KB [] H1 H2:=λc o e _=>kb2 c o (by rw[ae (ai e hx0),ae (ai e hdx0)];exact e) (by simpa using ai e hx0)
  obtain⟨a,ea⟩:∃a:MA,a=⟨x,dx,gv,tl,bx⟩:=⟨_,rfl⟩;have em:x=a.m:=by rw[ea]
  rw[<- ea] at M2;rw[em];have new:∀b,b∈MF a->H1 b=none:=λb hb=>by
   have un:∀{c:Addr},upd (upd H1 dx (HO.own x)) x (HO.ins C_Machine dx []) c=none->H1 c=none:=λ{c} e=>by
    by_cases c1:c=x
    ·rw[c1];exact hx0
    ·rw[ae c1] at e;by_cases c2:c=dx
     ·rw[c2];exact hdx0
     ·rw[ae c2] at e;exact e
   rw[ea] at hb;simp only[MF,Gs,GI,Hn] at hb;rcases hb with rfl|rfl|rfl
   ·exact hx0
   ·exact un htl
   ·exact un hbx
  have Dw:∀{G:Hp} {st:hV},MS K C_Machine G a st->∀b,b∈MF a->∃o,G b=some o:=λM b hb=>by
   simp only[MF,Gs,GI,Hn] at hb;rcases hb with rfl|rfl|rfl
   ·exact⟨_,M.om⟩
   ·exact⟨_,M.ot⟩
   ·exact⟨_,M.ob⟩
  have ntp:∀{G:Hp} {st:hV},MS K C_Machine G a st->∀b∈MF a,∀xs,G b≠some (.tup xs):=λM b hb xs e=>by
   simp only[MF,Gs,GI,Hn] at hb;rcases hb with rfl|rfl|rfl
   ·rw[M.om] at e;cases e
   ·rw[M.ot] at e;cases e
   ·rw[M.ob] at e;cases e
  have nca:ca∉MF a:=λz=>by
   obtain⟨_,_,_,e,_⟩:=rc;rw[new ca z] at e;cases e
  have rc2:tV H2 ca cd:=rc.kb k12;have old2:KB [] H H2:=k1.trans k12;have keepH:∀{G G':Hp},KB [] H G->KB (MF a) G G'->KB [] H G':=λo k c u e _=>k _ _ (o _ _ e (by simp)) λzz=>by
   have:=k1 _ _ e (by simp)
   rw[new c zz] at this;cases this
  clear hx0 hdx0 hxd gx gd htl hbx kb2 rc k12 og1 hca em;rw[hN];clear hN N;refine ao λN hN=>?_;walk_at "rz";rw[hN];clear hN N;refine ao λN hN=>?_;walk_at "rz";rw[hN];clear hN N;refine ao λN hN=>?_;walk_at "rz";rw[hN];clear hN N;refine ao λN hN=>?_;walk_at "rz";refine⟨ca,cd,z,0,rfl,rc2,hR,hb,hz,λv H3 k3 r3=>?_⟩;rw[hN];clear hN N;obtain⟨R,eR⟩:∃R,R=dm cd z most (C9 g):=⟨_,rfl⟩;rw[<- eR] at q;refine ao λN hN=>?_;refine⟨λm σ H'=>∃(n:Nat) (c:BS) (v:V),n<=most/\m=most-n/\R=dm cd z (most-n) c/\c.st.told.length<=n/\MS K C_Machine H' a c.st/\KB [] H H'/\tV H' ca cd/\DZ H' v (jD cd z c.at_)/\σ=[some (V.str (wd z)),some (.ref bb),some (V.ref gv),some (V.int (most:Nat)),some (V.ref ca),some (V.ref a.m),some (V.int c.rd),some (V.int (n:Nat)),some (V.int c.at_),some v,none],⟨most,0,C9 g,v,GH _,rfl,eR,GH _,M2.kb k3,old2.trans k3,rc2.kb k3,r3,rfl⟩,?_⟩;clear M2 rc2 r3 k3 old2 v;rintro m σ H4 ⟨n,c,v,hn,rfl,hrun,htl,M4,old4,rc4,r4,rfl⟩;have lz:(wd z).length<=sizeLine:=by rw[av];exact Gr hz (by decide)
  have fin:R=c->N [some (V.str (wd z)),some (.ref bb),some (V.ref gv),some (V.int (most:Nat)),some (V.ref ca),some (V.ref a.m),some (V.int c.rd),some (V.int (n:Nat)),some (V.int c.at_),some v,none] H4:=λhc=>by
   rw[hN];clear hN N;subst hc;refine ao λN hN=>?_;have ret:N [some (V.str (wd z)),some (.ref bb),some (V.ref gv),some (V.int (most:Nat)),some (V.ref ca),some (V.ref a.m),some (V.int R.rd),some (V.int (n:Nat)),some (V.int R.at_),some v,some (V.str (jX cd z R))] H4:=by
    rw[hN];clear hN N;walk_at "rz";refine⟨a.m,a.dx,_,rfl,M4.om,BP (by decide +kernel) (by decide +kernel) (by decide +kernel) (by decide +kernel),a,R.st,rfl,M4,λp1 hp1=>?_⟩
    have k5:KB [] H4 (upd H4 p1 (.tup (iV R.st.told))):=KB.new hp1;have t5:upd H4 p1 (.tup (iV R.st.told)) p1=some (.tup (iV R.st.told)):=aa;generalize upd H4 p1 (.tup (iV R.st.told))=H5 at *;have M5:=M4.kb k5;refine⟨a.m,a.dx,_,rfl,M5.om,BP (by decide +kernel) (by decide +kernel) (by decide +kernel) (by decide +kernel),a,R.st,rfl,M5,λp2 H6 hp2 t6 k6=>?_⟩
    refine⟨by decide,λp3 hp3=>?_⟩
    have o6:KB [] H H6:=old4.trans (k5.trans k6);have up:∀{b:Addr} {o:HO},H6 b=some o->upd H6 p3 (.tup [V.str (jX cd z R),V.ref p1,V.int R.rd,V.ref p2]) b=some o:=λe=>by rw[ae (ai e hp3)];exact e
    exact q _ _ (o6.trans (KB.new hp3)) ⟨p3,p1,p2,rfl,aa,up (k6 _ _ t5 (by simp)),up t6⟩
   walk_at "rz";refine⟨lz,?_⟩;rw[av];unfold jX AS at ret;by_cases c1:R.at_=(z.length:Nat)
   ·rw[Gn c1] at ret ⊢;exact ret
   ·rw[Gj c1] at ret ⊢
    cases hx:jD cd z R.at_ with
    |none =>
     rw[hx] at r4 ret;obtain rfl:v=.aP:=r4;rw[Gn rfl];exact ret
    |some y =>
     rw[hx] at r4 ret;obtain⟨fa,_,rfl,_⟩:=r4;rw[Gj (show ¬ V.ref fa=V.aP from λzz=>nomatch zz)];exact ret
  walk_at "rz"
  cases hx:jD cd z c.at_ with
  |none =>
   rw[hx] at r4;obtain rfl:v=.aP:=r4;rw[Gj (by simp)]
   exact fin (by rw[hrun];exact fe hx)
  |some y =>
   rw[hx] at r4;obtain⟨fa,ra,rfl,o4,ora⟩:=r4;rw[Gn (show ¬ V.ref fa=V.aP from λzz=>nomatch zz)];by_cases c2:((n:Nat):Int)<(most:Nat)
   ·rw[Gn c2];obtain⟨p,hp,hpx⟩:∃p:Nat,c.at_=p/\Cu cd z p=some y:=by
     unfold jD at hx;by_cases c3:c.at_<0
     ·rw[Gn c3] at hx;cases hx
     ·rw[Gj c3] at hx;exact⟨c.at_.toNat,by lia,hx⟩
    obtain⟨mok,mt,_,_,_⟩:=AR hR hpx;rw[mt] at ora;have s4:=aH o4;have nx:dm cd z (most-n) c=dm cd z (most-(n+1)) (dv z c (tX y,y.2)):=by
     rw[show most-n=(most-(n+1))+1 by lia]
     exact ju hx
    refine⟨λσ' H'=>∃m',m'<most-n/\∃n c v,n<=most/\m'=most-n/\R=dm cd z (most-n) c/\c.st.told.length<=n/\MS K C_Machine H' a c.st/\KB [] H H'/\tV H' ca cd/\DZ H' v (jD cd z c.at_)/\σ'=[some (V.str (wd z)),some (.ref bb),some (V.ref gv),some (V.int (most:Nat)),some (V.ref ca),some (V.ref a.m),some (V.int c.rd),some (V.int (n:Nat)),some (V.int c.at_),some v,none],λ_ _ h=>h,?_⟩;simp only[L2.Ap.fj,s4,xF,L2.Ap.Ag,L2.Ap.tB];refine⟨a.m,a.dx,_,rfl,M4.om,BP (by decide +kernel) (by decide +kernel) (by decide +kernel) (by decide +kernel),?_⟩
    simp only[L2.Ap.fj,s4,Bo,xF];refine⟨lz,a,c.st,ra,tX y,(y.2:Nat),_,rfl,M4,ora,mok,by lia,λH5 M5 k5=>?_⟩
    have rc5:=rc4.keep k5 nca (ntp M4);have old5:=keepH old4 k5;refine⟨ca,cd,z,_,rfl,rc5,hR,hb,hz,λv6 H6 k6 r6=>?_⟩;have tle:=qw c.st (tX y);rw[av] at r6;refine⟨most-(n+1),by lia,n+1,dv z c (tX y,y.2),v6,by lia,rfl,hrun.trans nx,?_,M5.kb k6,old5.trans k6,rc5.kb k6,r6,?_⟩
    ·show (carry c.st (tX y)).2.told.length<=n+1;lia
    ·rw[av];rfl
   ·rw[Gj c2];refine fin ?_;rw[hrun,show most-n=0 by lia];rfl
noncomputable def Fz:bC->Bool
 |.put _ _=>true
 |.two _ _ _=>true
 |.one _ _=>true
 |_=>false
structure LS (H:Hp) (s b g t:Addr) (st:hV):Prop where
 os:H s=some (.lst [.ref b,.ref g,.ref t])
 ob:H b=some (.lst (iV st.bs))
 og:H g=some (.lst (iV (st.given.drop st.heard)))
 ot:H t=some (.lst (iV st.told))
 bs:b≠s
 gs:g≠s
 ts:t≠s
 bg:b≠g
 bt:b≠t
 gt:g≠t
theorem LS.kb{s b g t:Addr}{st:hV}(h:LS H s b g t st)(k:KB [] H H'):LS H' s b g t st:=⟨k _ _ h.os (by simp),k _ _ h.ob (by simp),k _ _ h.og (by simp),k _ _ h.ot (by simp),h.bs,h.gs,h.ts,h.bg,h.bt,h.gt⟩
noncomputable def uN:Sp:=λvs H Q _=>∃(s b g t ra:Addr) (r:bC) (st:hV),vs=[.ref s,.ref ra]/\LS H s b g t st/\H ra=some (.tup r.vs)/\r.Ok/\Fz r=true/\st.bs.length=8/\st.told.length<100000/\st.given.length<=100000/\st.heard<=st.given.length /\
 ∀H',LS H' s b g t (carry st r).2->KB [b,g,t] H H'->Q .aP H'
theorem qG{bs:List Int}{b:Nat}(h8:bs.length=8)(hb:b<8):bV (iV bs) ((b:Nat):Int)=some (.int (dz bs b)):=by
 refine bM ?_;unfold iV dz;rw[G0,Gi (show b<bs.length by lia)]
 rfl
theorem wI{bs:List Int}{b:Nat}(h8:bs.length=8)(hb:b<8):mf (iV bs).length ((b:Nat):Int)=some b:=by
 rw[bR,jx (by lia) (by lia)];simp
theorem ES{a b:Str}(h:a≠b):(Sum.inr a:Key)≠Sum.inr b:=λe=>h (Sum.inr.inj e)
theorem zC(u:_root_.Fin 3)(x y z:V):cQ (cz [] [(.inr (Str.ofString "add"),x),(.inr (Str.ofString "sub"),y),(.inr (Str.ofString "copy"),z)]) (.inr (w2 u))=some (match u with|0=>x|1=>y|2=>z):=by
 have e:cz [] [((.inr (Str.ofString "add"):Key),x),(.inr (Str.ofString "sub"),y),(.inr (Str.ofString "copy"),z)]=[(.inr (Str.ofString "add"),x),(.inr (Str.ofString "sub"),y),(.inr (Str.ofString "copy"),z)]:=by
  rw[Y.iq _ [] ?_,HF];show ([(.inr (Str.ofString "add"):Key),.inr (Str.ofString "sub"),.inr (Str.ofString "copy")]).Nodup
  decide +kernel
 rw[e];rcases yg u with rfl|rfl|rfl
 ·exact bI rfl
 ·exact (bE (ES (by decide +kernel))).trans (bI rfl)
 ·exact (bE (ES (by decide +kernel))).trans ((bE (ES (by decide +kernel))).trans (bI rfl))
theorem zP(T:Txt K mg)(F:HasFn K mg "_law_done" dR ["state","row"]):aq P w K mg base bc 1 "_law_done" ["state","row"] uN:=by
 refine F.fW cw (λvs H Q E h=>?_) (λf cdv A outer s0 H vs Q E hr h=>?_)
 ·obtain⟨s,b,g,t,ra,r,st,rfl,_⟩:=h;rfl
 ·have hu:=a_ hr;obtain⟨s,b,g,t,ra,r,st,rfl,L,hra,aU,hdo,h8,htl,hgl,hhl,q⟩:=h;refine⟨_,(Z.ag (Z.asg (Z.v 0) ⟨Y.yd (n:=3) rfl (Z.cC (Z.ba (i:=2) cw.nd rfl (by right)) (Z.cC (Z.ba (i:=3) cw.nd rfl (by right)) (Z.cC (Z.ba (i:=4) cw.nd rfl (by right)) Z.jl))).h⟩)
   (Z.ag (Z.set (i:=5) cw.nd rfl (by right) (Z.bm K rfl PySem.F.plainAttrs_str PySem.F.slot_str_index PySem.F.type_str_index Y.f9 Z.str (Z.cons (Z.ix (Z.ay K rfl hu) (Z.v 1) Z.int) Z.nil)))
   (Z.ag (Z.cG (Z.aS aQ (Z.ix (Z.ay K rfl hu) (Z.v 1) Z.int) Z.str) (Z.ar (Z.asg (Z.ix (Z.ay K rfl hu) (Z.v 1) Z.int) (Z.lu (Z.v 2) (Z.v 5)))) Z.bp)
   (Z.ag (Z.cG (Z.aS (Z.Ff K rfl hu) (Z.ix (Z.ay K rfl hu) (Z.v 1) Z.int) (Z.tup (Z.consts rfl))) (Z.ag (Z.set (i:=6) cw.nd rfl (by right) (Z.ix (Z.ay K rfl hu) (Z.v 2) (Z.bm K rfl PySem.F.plainAttrs_str PySem.F.slot_str_index PySem.F.type_str_index Y.f9 Z.str (Z.cons (Z.ix (Z.ay K rfl hu) (Z.v 1) Z.int) Z.nil))))
   (Z.ar (Z.asg (Z.op cg (Z.qj hu (Z.Fb (Z.wZ (Z.op (Z.aN K rfl) (Z.ix (Z.ay K rfl hu) (Z.v 2) (Z.v 5)) (Z.v 6)) (Z.wZ (Z.op bZ (Z.ix (Z.ay K rfl hu) (Z.v 2) (Z.v 5)) (Z.v 6)) (Z.wZ (Z.v 6) Z.Fh)))) (Z.ix (Z.ay K rfl hu) (Z.v 1) Z.int)) Z.int) (Z.lu (Z.v 2) (Z.v 5))))) Z.bp)
   (Z.ag (Z.cG (Z.aS aQ (Z.ix (Z.ay K rfl hu) (Z.v 1) Z.int) Z.str) (Z.ar (Z.expr (Z.bm K rfl PySem.F.plainAttrs_list PySem.F.slot_list_append PySem.F.type_list_append cV (Z.v 4) (Z.cons (Z.ix (Z.ay K rfl hu) (Z.v 2) (Z.v 5)) Z.nil)))) Z.bp)
   (Z.ar (Z.cG (Z.aS aQ (Z.ix (Z.ay K rfl hu) (Z.v 1) Z.int) Z.str) (Z.ag (Z.asg (Z.op cg (Z.ix (Z.ay K rfl hu) (Z.op (Z.aN K rfl) (Z.v 3) (Z.lst (Z.cons Z.int Z.nil))) Z.int) Z.int) (Z.lu (Z.v 2) (Z.v 5)))
   (Z.ar (Z.cG (Z.aS (Y.Bp K rfl (Nat.lt_of_succ_lt hu)) (Z.v 3) (Z.lst Z.nil)) (Z.ar (Z.expr (Z.bm K rfl PySem.F.plainAttrs_list PySem.F.slot_list_pop PySem.F.type_list_pop mE (Z.v 3) (Z.cons Z.int Z.nil)))) Z.bp))) Z.bp))))))),?_⟩
  refine ao λN hN=>?_;refine⟨_,rfl,s,_,rfl,.inr (bY.of L.os),rfl,_,_,rfl,_,_,rfl,_,_,rfl,rfl,?_⟩;show N [some (.ref s),some (.ref ra),some (.ref b),some (.ref g),some (.ref t),none,none] H;rw[hN];clear hN N;have sr:=aH hra;have setb:∀(x:Int) (i:Nat),LS (upd H b (.lst (iV (st.bs.set i x)))) s b g t {st with bs:=st.bs.set i x}:=λx i=>⟨by rw[ae L.bs.symm];exact L.os,aa,by rw[ae L.bg.symm];exact L.og,by rw[ae L.bt.symm];exact L.ot,L.bs,L.gs,L.ts,L.bg,L.bt,L.gt⟩
  have kb:∀(o:HO),KB [b,g,t] H (upd H b o):=λo=>KB.set (by simp)
  have rne:∀{x:Addr} {xs:List V},H x=some (.lst xs)->ra≠x:=λe z=>by rw[z,e] at hra;cases hra
  cases r with
  |jump g=>cases hdo
  |zero b g=>cases hdo
  |halt=>cases hdo
  |put i n =>
   have hi:i<8:=aU;have a0:bV (bC.put i n).vs 0=some (.str "put"):=rfl;have a1:bV (bC.put i n).vs 1=some (.str (bU i)):=rfl;have a2:bV (bC.put i n).vs 2=some (.int (n:Nat)):=rfl;refine ao λN hN=>?_;exists sr,a1;refine⟨rfl,_,_,i,[],rfl,rfl,rP hi,?_⟩;rw[hN];clear hN N;refine ao λN hN=>?_;exists sr,a0,a2,L.ob,wI h8 hi,mh;have L1:=setb (n:Nat) i;have k1:=kb (.lst (iV (st.bs.set i (n:Nat))));have hr1:upd H b (.lst (iV (st.bs.set i (n:Nat)))) ra=_:=(ae (rne L.ob)).trans hra;generalize upd H b (.lst (iV (st.bs.set i (n:Nat))))=H1 at *;have s1:=aH hr1;rw[hN];clear hN N;refine ao λN hN=>?_;exists s1,a0,(by decide +kernel:pY (.str "put") [.str "add",.str "sub",.str "copy"]=false)
   refine⟨by decide,λt0 ht0=>⟨rfl,rfl,?_⟩⟩
   have k2:KB [] H1 (upd H1 t0 (.tup [.str "add",.str "sub",.str "copy"])):=KB.new ht0;generalize upd H1 t0 (.tup [.str "add",.str "sub",.str "copy"])=H2 at *;have s2:=aH (k2 _ _ hr1 (by simp))
   rw[hN];clear hN N;refine ao λN hN=>?_;exists s2,a0,Gj (by decide +kernel:¬ ("put":Str)="tell")
   rw[hN];clear hN N;exists s2,a0,Gj (by decide +kernel:¬ ("put":Str)="hear")
   exact q H2 (L1.kb k2) (k1.trans k2.all)
  |two u i j =>
   obtain⟨hi,hj⟩:=aU;have a0:bV (bC.two u i j).vs 0=some (.str (w2 u)):=rfl;have a1:bV (bC.two u i j).vs 1=some (.str (bU i)):=rfl;have a2:bV (bC.two u i j).vs 2=some (.str (bU j)):=rfl;refine ao λN hN=>?_;exists sr,a1;refine⟨rfl,_,_,i,[],rfl,rfl,rP hi,?_⟩;rw[hN];clear hN N;refine ao λN hN=>?_;exists sr,a0,Gj ((show ∀u,w2 u≠"put" by decide +kernel) u)
   rw[hN];clear hN N;refine ao λN hN=>?_;refine my λA B hA hB=>?_;exists sr,a0,((show ∀u,pY (.str (w2 u)) [.str "add",.str "sub",.str "copy"]=true by decide +kernel) u)
   refine⟨by decide,λt0 ht0=>⟨rfl,rfl,?_⟩⟩
   have k2:KB [] H (upd H t0 (.tup [.str "add",.str "sub",.str "copy"])):=KB.new ht0;generalize upd H t0 (.tup [.str "add",.str "sub",.str "copy"])=H2 at *;have L2':=L.kb k2;have hr2:=k2 _ _ hra (by simp)
   rw[hA];clear hA hB A B;refine ao λM hM=>?_;exists aH hr2,a2;refine⟨rfl,_,_,j,[],rfl,rfl,rP hj,?_⟩;exists aC L2'.ob,qG h8 hj;rw[hM];clear hM M;walk_at "rz";intro d hd;have k3:KB [] H2 (upd H2 d (.dK [])):=KB.new hd;have s3:upd H2 d (.dK []) d=_:=aa;generalize upd H2 d (.dK [])=H3 at *;have L3:=L2'.kb k3;exists aC L3.ob,qG h8 hi;refine⟨s3,[(.inr (Str.ofString "add"),.int (dz st.bs i+dz st.bs j)),(.inr (Str.ofString "sub"),.int (dz st.bs i-dz st.bs j)),(.inr (Str.ofString "copy"),.int (dz st.bs j))],rfl,(show 3<=15 by decide),?_⟩
   have d3:∀{x:Addr} {o:HO},H2 x=some o->x≠d:=λe z=>by rw[z,hd] at e;cases e
   have kd:KB [] H2 (upd H3 d (.dK (cz [] [(.inr (Str.ofString "add"),.int (dz st.bs i+dz st.bs j)),(.inr (Str.ofString "sub"),.int (dz st.bs i-dz st.bs j)),(.inr (Str.ofString "copy"),.int (dz st.bs j))]))):=λc o e _=>by rw[ae (d3 e)];exact k3 _ _ e (by simp)
   have s4:upd H3 d (.dK (cz [] [(.inr (Str.ofString "add"),.int (dz st.bs i+dz st.bs j)),(.inr (Str.ofString "sub"),.int (dz st.bs i-dz st.bs j)),(.inr (Str.ofString "copy"),.int (dz st.bs j))])) d=_:=aa;generalize upd H3 d (.dK (cz [] [(.inr (Str.ofString "add"),.int (dz st.bs i+dz st.bs j)),(.inr (Str.ofString "sub"),.int (dz st.bs i-dz st.bs j)),(.inr (Str.ofString "copy"),.int (dz st.bs j))]))=H4 at *;have k4:=k2.trans kd;have L4:=L.kb k4;have hr4:=k4 _ _ hra (by simp)
   exists aH hr4,a0;generalize hv:(match u with|0=>dz st.bs i+dz st.bs j|1=>dz st.bs i-dz st.bs j|2=>dz st.bs j)=v
   have hlk:fX H4 d (.str (w2 u)) (some (.int v)):=by
    have:=fX.k (k:=.inr (w2 u)) s4;rw[zC] at this;rw[<- hv];rcases yg u with rfl|rfl|rfl<;>exact this
   refine⟨d,_,rfl,hlk,?_⟩;exists L4.ob,wI h8 hi,mh;refine⟨by decide,?_⟩
   have L5:LS (upd H4 b (.lst (iV (st.bs.set i (v % 65536))))) s b g t {st with bs:=st.bs.set i (v % 65536)}:=⟨by rw[ae L.bs.symm];exact L4.os,aa,by rw[ae L.bg.symm];exact L4.og,by rw[ae L.bt.symm];exact L4.ot,L.bs,L.gs,L.ts,L.bg,L.bt,L.gt⟩
   have k5:KB [b,g,t] H (upd H4 b (.lst (iV (st.bs.set i (v % 65536))))):=k4.all.trans (KB.set (by simp))
   have hr5:upd H4 b (.lst (iV (st.bs.set i (v % 65536)))) ra=_:=(ae (rne L.ob)).trans hr4;generalize upd H4 b (.lst (iV (st.bs.set i (v % 65536))))=H5 at *;rw[hN];clear hN N;refine ao λN hN=>?_;exists aH hr5,a0,Gj ((show ∀u,¬ w2 u="tell" by decide +kernel) u)
   rw[hN];clear hN N;exists aH hr5,a0,Gj ((show ∀u,¬ w2 u="hear" by decide +kernel) u)
   refine q H5 ?_ k5;have e:(carry st (.two u i j)).2={st with bs:=st.bs.set i (v % 65536)}:=by
    rw[<- hv];rcases yg u with rfl|rfl|rfl<;>rfl
   rw[e];exact L5
  |one u i =>
   have hi:i<8:=aU;have a0:bV (bC.one u i).vs 0=some (.str (w1 u)):=rfl;have a1:bV (bC.one u i).vs 1=some (.str (bU i)):=rfl;refine ao λN hN=>?_;exists sr,a1;refine⟨rfl,_,_,i,[],rfl,rfl,rP hi,?_⟩;rw[hN];clear hN N;refine ao λN hN=>?_;exists sr,a0,Gj ((show ∀u,w1 u≠"put" by decide +kernel) u)
   rw[hN];clear hN N;refine ao λN hN=>?_;exists sr,a0,((show ∀u,pY (.str (w1 u)) [.str "add",.str "sub",.str "copy"]=false by decide +kernel) u)
   refine⟨by decide,λt0 ht0=>⟨rfl,rfl,?_⟩⟩
   have k2:KB [] H (upd H t0 (.tup [.str "add",.str "sub",.str "copy"])):=KB.new ht0;generalize upd H t0 (.tup [.str "add",.str "sub",.str "copy"])=H2 at *;have L2':=L.kb k2;have hr2:=k2 _ _ hra (by simp)
   rw[hN];clear hN N;refine ao λN hN=>?_;rcases mP u with rfl|rfl
   ·exists aH hr2,a0,Gn (show w1 0="tell" from rfl),aC L2'.ob,qG h8 hi;refine⟨.inl ⟨rfl,_,bY.of L2'.ot⟩,t,_,_,rfl,rfl,L2'.ot,GK (show _<200000 by rw[bR];lia) oP,?_⟩
    have e9:iV st.told++[V.int (dz st.bs i)]=iV (st.told++[dz st.bs i]):=(mw st.told [_]).symm;rw[e9];have L3:LS (upd H2 t (.lst (iV (st.told++[dz st.bs i])))) s b g t {st with told:=st.told++[dz st.bs i]}:=⟨by rw[ae L.ts.symm];exact L2'.os,by rw[ae L.bt];exact L2'.ob,by rw[ae L.gt];exact L2'.og,aa,L.bs,L.gs,L.ts,L.bg,L.bt,L.gt⟩
    have k3:KB [b,g,t] H (upd H2 t (.lst (iV (st.told++[dz st.bs i])))):=k2.all.trans (KB.set (by simp))
    have hr3:upd H2 t (.lst (iV (st.told++[dz st.bs i]))) ra=_:=(ae (rne L.ot)).trans hr2;generalize upd H2 t (.lst (iV (st.told++[dz st.bs i])))=H3 at *;rw[hN];clear hN N;exists aH hr3,a0,Gj (by decide +kernel:¬ w1 0="hear")
    exact q H3 L3 k3
   ·exists aH hr2,a0,Gj (by decide +kernel:¬ w1 1="tell")
    rw[hN];clear hN N;refine my λA B hA hB=>?_;exists aH hr2,a0,Gn (show w1 1="hear" from rfl);rw[hA];clear hA hB A B;refine ao λN hN=>?_;have hr8:(st.given.drop st.heard).length<=100000:=by rw[Hf];lia
    walk_at "rz";refine⟨by decide,λz0 hz0=>?_⟩
    have k3:KB [] H2 (upd H2 z0 (.lst [.int 0])):=KB.new hz0;have s3:upd H2 z0 (.lst [.int 0]) z0=_:=aa;generalize upd H2 z0 (.lst [.int 0])=H3 at *;have L3:=L2'.kb k3;exists L3.og,s3;refine⟨Gr (show _<=200000 by rw[bR];show _+1<=_;lia) oP,λc0 hc0=>?_⟩
    have k4:KB [] H3 (upd H3 c0 (.lst (iV (st.given.drop st.heard)++[.int 0]))):=KB.new hc0;generalize upd H3 c0 (.lst (iV (st.given.drop st.heard)++[.int 0]))=H4 at *;have L4:=L3.kb k4;have k04:=k2.trans (k3.trans k4);have hr4:=k04 _ _ hra (by simp)
    obtain⟨x,ex,e2⟩:∃x:Int,bV (iV (st.given.drop st.heard)++[.int 0]) 0=some (.int x)/\((carry st (.one 1 i)).2={(cx st).2 with bs:=st.bs.set i (x % 65536)}/\((st.given.drop st.heard=[]/\(cx st).2=st)\/∃rest,st.given.drop st.heard=x::rest/\(cx st).2={st with heard:=st.heard+1}/\st.given.drop (st.heard+1)=rest)):=by
     cases er:st.given.drop st.heard with
     |nil =>
      have h9:st.given[st.heard]?=none:=GX.mpr (List.drop_eq_nil_iff.mp er);have e3:cx st=(0,st):=by unfold cx;rw[h9]
      refine⟨0,rfl,?_,.inl ⟨rfl,by rw[e3]⟩⟩
      unfold carry bN;rw[e3]
     |cons x rest =>
      have h9:st.given[st.heard]?=some x:=by
       have:=Hj (λl:List Int=>l[0]?) er
       simpa using this
      have e3:cx st=(x,{st with heard:=st.heard+1}):=by unfold cx;rw[h9]
      refine⟨x,Bo (V.int x) (iV rest++[V.int 0]),?_,.inr ⟨rest,rfl,by rw[e3],by rw[<- List.drop_drop,er];rfl⟩⟩
      unfold carry bN;rw[e3]
    obtain⟨e2,e3⟩:=e2;exists ex,L4.ob,wI h8 hi,mh;refine⟨by decide,?_⟩
    have L5:LS (upd H4 b (.lst (iV (st.bs.set i (x % 65536))))) s b g t {st with bs:=st.bs.set i (x % 65536)}:=⟨by rw[ae L.bs.symm];exact L4.os,aa,by rw[ae L.bg.symm];exact L4.og,by rw[ae L.bt.symm];exact L4.ot,L.bs,L.gs,L.ts,L.bg,L.bt,L.gt⟩
    have k5:KB [b,g,t] H (upd H4 b (.lst (iV (st.bs.set i (x % 65536))))):=k04.all.trans (KB.set (by simp))
    generalize upd H4 b (.lst (iV (st.bs.set i (x % 65536))))=H5 at *;rw[hN];clear hN N;refine jN λN hN=>?_;refine my λA B hA hB=>?_;walk_at "rz";refine⟨by decide,λe0 he0=>?_⟩
    have k6:KB [] H5 (upd H5 e0 (.lst [])):=KB.new he0;have s6:upd H5 e0 (.lst []) e0=_:=aa;generalize upd H5 e0 (.lst [])=H6 at *;have L6:=L5.kb k6;have L6g:H6 g=some (.lst (iV (st.given.drop st.heard))):=L6.og;refine⟨g,e0,_,rfl,rfl,bY.of L6g,bY.of s6,_,rfl,?_⟩;rcases e3 with ⟨er,eh⟩|⟨rest,er,eh,ed⟩
    ·rw[Gj (by rw[er];decide),hB]
     show N _ _;rw[hN];refine q H6 ?_ (k5.trans k6.all);rw[e2,eh];exact L6
    ·rw[Gn (by rw[er];rfl),hA]
     walk_at "rz";rw[er] at L6g;refine⟨.inl ⟨rfl,_,bY.of L6g⟩,g,_,0,0,.int x,rfl,rfl,L6g,by decide,by decide,by unfold seqIndex?;rw[Gn (by simp[iV])];rfl,rfl,?_⟩
     rw[hN];refine q _ ?_ ((k5.trans k6.all).trans (KB.set (by simp)))
     rw[e2,eh];refine⟨by rw[ae L.gs.symm];exact L6.os,by rw[ae L.bg];exact L6.ob,?_,by rw[ae L.gt.symm];exact L6.ot,L.bs,L.gs,L.ts,L.bg,L.bt,L.gt⟩
     rw[aa,ed];rfl
theorem mr{cd:List (List (List Nat))}{p:Int}{y:RW×Nat}(hR:xB cd)(h:jD cd z p=some y):∃n:Nat,p=n/\n<z.length/\Cu cd z n=some y:=by
 unfold jD at h;by_cases c:p<0
 ·rw[Gn c] at h;cases h
 ·rw[Gj c] at h;obtain⟨_,_,_,h1,h2⟩:=AR hR h;exact⟨p.toNat,by lia,by lia,h⟩
theorem yR{x y:Str}{σ:L2.St}{Q:Bool->Hp->Prop}(h:σ[i]?=some (some (.str x)))(q:Q (decide (x=y)) H):iz (tW Am (pI i) (tC (.str y))) σ H Q:=⟨_,h,(L2.Ap.za x y H λx H'=>∃k,x=V.bl k/\Q k H').mpr ⟨_,rfl,q⟩⟩
theorem zf{st:hV}(h:st.bs.length=8)(r:bC):(carry st r).2.bs.length=8:=by
 have hh:(cx st).2.bs=st.bs:=by unfold cx;split<;>rfl
 cases r with
 |put b n=>exact (HE ..).trans h
 |two u a b=>exact (HE ..).trans h
 |one u b =>
  rcases mP u with rfl|rfl
  ·exact h
  ·show ((cx st).2.bs.set b _).length=8;rw[HE,hh];exact h
 |jump g=>exact h
 |zero b g=>exact h
 |halt=>exact h
theorem yV{st:hV}{g:List Int}(h1:st.given=g)(h2:st.heard<=g.length)(r:bC):(carry st r).2.given=g/\(carry st r).2.heard<=g.length:=by
 have hh:(cx st).2.given=g/\(cx st).2.heard<=g.length:=by
  unfold cx;split
  ·rename_i x e;have:=(Gm.mp e).1;exact⟨h1,by show st.heard+1<=_;rw[<- h1];exact this⟩
  ·exact⟨h1,h2⟩
 cases r with
 |put b n=>exact⟨h1,h2⟩
 |two u a b=>exact⟨h1,h2⟩
 |one u b =>
  rcases mP u with rfl|rfl
  ·exact⟨h1,h2⟩
  ·exact hh
 |jump g=>exact⟨h1,h2⟩
 |zero b g=>exact⟨h1,h2⟩
 |halt=>exact⟨h1,h2⟩
noncomputable def vc(K:LA):Sp:=λvs H Q _=>∃(b gv:Addr) (bk:List (List Int)) (z:List Nat) (g:List Int) (most:Nat),vs=[.str (wd z),.ref b,.ref gv,.int (most:Nat)]/\tY H b bk/\H gv=some (.tup (iV g))/\Bk bk/\EW (fI bk)/\dw z/\z.length<=1000000/\most<=10000/\g.length<=10000/\∀l v (k:Nat) H',KB [] H H'->H' l=some (.lst [v,.int (k:Nat)])->k<=most->ql H' v (fI bk) z (dm (fI bk) z most (C9 g))->Q (.ref l) H'
theorem yL(T:Txt K mg)(h_law_tables:aq P w K mg base bc 3 "_law_tables" ["book"] (ou K))(h_law_row_at:aq P w K mg base bc 3 "_law_row_at" ["tables","bits","at"] (vV K))(h_law_done:aq P w K mg base bc 1 "_law_done" ["state","row"] uN)(F:HasFn K mg "_law_run" ff ["bits","book","given","most"]):aq P w K mg base bc 4 "_law_run" ["bits","book","given","most"] (vc K):=by
 refine F.fW aO (λvs H Q E h=>?_) (λf cdv A outer s0 H vs Q E hr h=>?_)
 ·obtain⟨b,gv,bk,z,g,most,rfl,_⟩:=h;rfl
 ·have hu:=a_ hr;obtain⟨bb,gv,bk,z,g,most,rfl,hbk,hgv,hBk,hR,hb,hz,hmo,hgl,q⟩:=h;refine⟨_,(Z.ag (Z.set (i:=4) aO.nd rfl (by right) (Z.fn h_law_tables (hr.mono (by decide)) rfl aA (Z.cons (Z.v 1) Z.nil)))
   (Z.ag (Z.set (i:=5) aO.nd rfl (by right) (Z.lst (Z.cons (Z.op cp (Z.lst (Z.cons Z.int Z.nil)) Z.int) (Z.cons (Z.ct (Z.Cn K rfl) rfl T.u7 (by decide +kernel) (Z.cons (Z.v 2) Z.nil)) (Z.cons (Z.lst Z.nil) Z.nil)))))
   (Z.ag (Z.set (i:=6) aO.nd rfl (by right) Z.int)
   (Z.ag (Z.set (i:=7) aO.nd rfl (by right) Z.int)
   (Z.ag (Z.set (i:=8) aO.nd rfl (by right) Z.int)
   (Z.ag (Z.set (i:=9) aO.nd rfl (by right) Z.str)
   (Z.ag (Z.pA GP (Z.aS aQ (Z.v 9) Z.str) (Z.ag (Z.set (i:=10) aO.nd rfl (by right) Z.aP)
   (Z.ag (Z.cG (Z.vg (zX) (gB) Z.int (Z.v 6) (Z.cb (Z.bB K rfl) rfl T.b8 (by decide +kernel) (Z.cons (Z.v 0) Z.nil))) (Z.ar (Z.set (i:=10) aO.nd rfl (by right) (Z.fn h_law_row_at (hr.mono (by decide)) rfl aA (Z.cons (Z.v 4) (Z.cons (Z.v 0) (Z.cons (Z.v 6) Z.nil)))))) Z.bp)
   (Z.ar (Z.cG (Z.aS aQ (Z.v 6) (Z.cb (Z.bB K rfl) rfl T.b8 (by decide +kernel) (Z.cons (Z.v 0) Z.nil))) (Z.ar (Z.set (i:=9) aO.nd rfl (by right) Z.str)) (Z.ar (Z.cG (Z.aS cF (Z.v 10) Z.aP) (Z.ar (Z.set (i:=9) aO.nd rfl (by right) Z.str)) (Z.ar (Z.cG (Z.aS aQ (Z.v 8) (Z.v 3)) (Z.ar (Z.set (i:=9) aO.nd rfl (by right) Z.str)) (Z.ag (Z.asg (Z.v 10) (Z.rJ (n:=2) K rfl rfl (Z.cC (Z.ba (i:=11) aO.nd rfl (by right)) (Z.cC (Z.ba (i:=12) aO.nd rfl (by right)) Z.jl))))
   (Z.ag (Z.set (i:=8) aO.nd rfl (by right) (Z.op (Z.aN K rfl) (Z.v 8) Z.int))
   (Z.ag (Z.set (i:=7) aO.nd rfl (by right) (Z.op bZ (Z.op (Z.aN K rfl) (Z.v 7) (Z.v 12)) (Z.v 6)))
   (Z.ag (Z.set (i:=6) aO.nd rfl (by right) (Z.v 12))
   (Z.ar (Z.cG (Z.aS aQ (Z.ix (Z.ay K rfl hu) (Z.v 11) Z.int) Z.str) (Z.ar (Z.set (i:=9) aO.nd rfl (by right) Z.str)) (Z.ar (Z.cG (Z.tw (Z.EA (Z.aS aQ (Z.ix (Z.ay K rfl hu) (Z.v 11) Z.int) Z.str) (Z.xJ (Z.tw (Z.se (Z.aS aQ (Z.ix (Z.ay K rfl hu) (Z.v 11) Z.int) Z.str) (Z.kr (Z.aS aQ (Z.ix (Z.ay K rfl hu) (Z.ix (Z.ay K rfl hu) (Z.v 5) Z.int) (Z.bm K rfl PySem.F.plainAttrs_str PySem.F.slot_str_index PySem.F.type_str_index Y.f9 Z.str (Z.cons (Z.ix (Z.ay K rfl hu) (Z.v 11) Z.int) Z.nil))) Z.int))))))) (Z.ar (Z.set (i:=6) aO.nd rfl (by right) (Z.op (Z.aN K rfl) (Z.v 12) (Z.ix (Z.ay K rfl hu) (Z.v 11) (Z.un gp Z.int))))) (Z.ar (Z.cG (Z.aS js (Z.ix (Z.ay K rfl hu) (Z.v 11) Z.int) Z.str) (Z.ar (Z.expr (Z.fn h_law_done (hr.mono (by decide)) rfl aA (Z.cons (Z.v 5) (Z.cons (Z.v 11) Z.nil))))) Z.bp)))))))))))))))))))
   (Z.ar (Z.ret (Z.lst (Z.cons (Z.tup (Z.cons (Z.v 9) (Z.cons (Z.ct (Z.c_ K rfl) rfl T.cB (by decide +kernel) (Z.cons (Z.ix (Z.ay K rfl hu) (Z.v 5) Z.int) Z.nil)) (Z.cons (Z.v 7) (Z.cons (Z.ct (Z.c_ K rfl) rfl T.cB (by decide +kernel) (Z.cons (Z.ix (Z.ay K rfl hu) (Z.v 5) Z.int) Z.nil)) Z.nil))))) (Z.cons (Z.v 8) Z.nil)))))))))))),?_⟩
  refine ao λN hN=>?_;walk_at "rz";refine⟨bb,bk,rfl,hbk,hBk,hR.pf,λta H1 ta0 k1 T1=>?_⟩;rw[hN];clear hN N;generalize fI bk=cd at *;refine ao λN hN=>?_;walk_at "rz";refine⟨by decide,λz0 hz0=>?_⟩
  refine⟨z0,8,_,rfl,rfl,aa,by decide,by decide,by decide,λb hb0=>?_⟩
  have k2:KB [] H1 (upd (upd H1 z0 (.lst [.int 0])) b (.lst (List.replicate (8:Int).toNat [V.int 0]).flatten)):=(KB.new hz0).trans (KB.new hb0);have s2:upd (upd H1 z0 (.lst [.int 0])) b (.lst (List.replicate (8:Int).toNat [V.int 0]).flatten) b=some (.lst (iV (Ah g).bs)):=aa;have b1:H1 b=none:=(KB.new (ex:=[]) hz0).free (by simp) hb0
  generalize upd (upd H1 z0 (.lst [.int 0])) b (.lst (List.replicate (8:Int).toNat [V.int 0]).flatten)=H2 at *;have hgv2:=(k1.trans k2) _ _ hgv (by simp)
  refine⟨gv,_,rfl,.inr (bz.of hgv2),λgl hgl0=>?_⟩;have k3:KB [] H2 (upd H2 gl (.lst (iV g))):=KB.new hgl0;have s3:upd H2 gl (.lst (iV g)) gl=some (.lst (iV g)):=aa;generalize upd H2 gl (.lst (iV g))=H3 at *;refine⟨by decide,λtl htl=>?_⟩
  have k4:KB [] H3 (upd H3 tl (.lst [])):=KB.new htl;have s4:upd H3 tl (.lst []) tl=some (.lst (iV (Ah g).told)):=aa;generalize upd H3 tl (.lst [])=H4 at *;refine⟨by decide,λs hs=>?_⟩
  have k5:KB [] H4 (upd H4 s (.lst [.ref b,.ref gl,.ref tl])):=KB.new hs;have s5:upd H4 s (.lst [.ref b,.ref gl,.ref tl]) s=_:=aa;generalize upd H4 s (.lst [.ref b,.ref gl,.ref tl])=H5 at *;have ob4:=(k3.trans k4) _ _ s2 (by simp)
  have og4:=k4 _ _ s3 (by simp)
  have L5:LS H5 s b gl tl (Ah g):=⟨s5,k5 _ _ ob4 (by simp),k5 _ _ og4 (by simp),k5 _ _ s4 (by simp),ai ob4 hs,ai og4 hs,ai s4 hs,ai s2 hgl0,ai (k3 _ _ s2 (by simp)) htl,ai s3 htl⟩
  have k15:KB [] H1 H5:=k2.trans (k3.trans (k4.trans k5));have T5:=T1.keep k15 (by simp) (by simp)
  have n0:∀x∈[b,gl,tl],H1 x=none:=λx hx=>by
   simp only[Gs,GI,Hn] at hx;rcases hx with rfl|rfl|rfl
   ·exact b1
   ·exact k2.free (by simp) hgl0
   ·exact (k2.trans k3).free (by simp) htl
  have nta:ta∉[b,gl,tl]:=λzz=>by
   obtain⟨_,_,_,e,_⟩:=T1;rw[n0 _ zz] at e;cases e
  have keepH:∀{G G':Hp},KB [] H G->KB [b,gl,tl] G G'->KB [] H G':=λo k c u e _=>k _ _ (o _ _ e (by simp)) λzz=>by
   have:=k1 _ _ e (by simp)
   rw[n0 _ zz] at this;cases this
  have keepT:∀{G G':Hp} {st:hV},LS G s b gl tl st->xC G ta cd->KB [b,gl,tl] G G'->xC G' ta cd:=λL t k=>t.keep k nta λx hx kvs e=>by
   simp only[Gs,GI,Hn] at hx;rcases hx with rfl|rfl|rfl
   ·rw[L.ob] at e;cases e
   ·rw[L.og] at e;cases e
   ·rw[L.ot] at e;cases e
  have h05:=k1.trans k15;clear k2 k3 k4 k5 k15 s2 s3 s4 s5 ob4 og4 hs htl hgl0 hz0 hb0 b1 hgv2 T1;rw[hN];clear hN N;refine ao λN hN=>?_;walk_at "rz";rw[hN];clear hN N;refine ao λN hN=>?_;walk_at "rz";rw[hN];clear hN N;refine ao λN hN=>?_;walk_at "rz";rw[hN];clear hN N;refine ao λN hN=>?_;walk_at "rz";rw[hN];clear hN N;have hR':=hR.1;obtain⟨R,eR⟩:∃R,R=dm cd z most (C9 g):=⟨_,rfl⟩;rw[<- eR] at q;have lz:(wd z).length<=sizeLine:=by rw[av];exact Gr hz (by decide)
  refine ao λN hN=>?_;refine⟨λm σ H'=>∃(k:Nat) (c:BS) (how:Str) (o10 o11 o12:Option V),k<=most/\c.st.told.length<=k/\c.st.bs.length=8/\c.st.given=g/\c.st.heard<=g.length/\((how=""/\m=most-k+1/\R=dm cd z (most-k) c)\/(how≠""/\m=0/\how=jX cd z R/\c.st=R.st/\c.rd=R.rd))/\LS H' s b gl tl c.st/\KB [] H H'/\xC H' ta cd/\σ=[some (.str (wd z)),some (.ref bb),some (.ref gv),some (.int (most:Nat)),some (.ref ta),some (.ref s),some (.int c.at_),some (.int c.rd),some (.int (k:Nat)),some (.str how),o10,o11,o12],⟨most+1,0,C9 g,"",none,none,none,GH _,GH _,rfl,rfl,GH _,.inl ⟨rfl,rfl,eR⟩,L5,h05,T5,rfl⟩,?_⟩;clear L5 h05 T5;rintro m σ H6 ⟨k,c,how,o10,o11,o12,hk,hto,h8,hgvn,hhd,hW,L6,h06,T6,rfl⟩;rcases hW with ⟨rfl,rfl,hrun⟩|⟨hne,rfl,eh,est,erd⟩
  rotate_left
  ·exists Gj hne;rw[hN];clear hN N;exists aC L6.os,aC L6.ot;intro p1 hp1;have k7:KB [] H6 (upd H6 p1 (.tup (iV c.st.told))):=KB.new hp1;have t7:upd H6 p1 (.tup (iV c.st.told)) p1=_:=aa;generalize upd H6 p1 (.tup (iV c.st.told))=H7 at *;have L7:=L6.kb k7;exists aC L7.os,aC L7.ob;intro p2 hp2;have k8:KB [] H7 (upd H7 p2 (.tup (iV c.st.bs))):=KB.new hp2;have t8:upd H7 p2 (.tup (iV c.st.bs)) p2=_:=aa;generalize upd H7 p2 (.tup (iV c.st.bs))=H8 at *;refine⟨by decide,λp3 hp3=>?_⟩
   have k9:KB [] H8 (upd H8 p3 (.tup [.str how,.ref p1,.int c.rd,.ref p2])):=KB.new hp3;have t9:upd H8 p3 (.tup [.str how,.ref p1,.int c.rd,.ref p2]) p3=_:=aa;generalize upd H8 p3 (.tup [.str how,.ref p1,.int c.rd,.ref p2])=H9 at *;refine⟨by decide,λl hl=>?_⟩
   have kx:KB [] H9 (upd H9 l (.lst [.ref p3,.int (k:Nat)])):=KB.new hl;refine q l _ k _ (h06.trans (k7.trans (k8.trans (k9.trans kx)))) aa hk ⟨p3,p1,p2,rfl,?_,?_,?_⟩
   ·rw[<- eh,<- erd];exact kx _ _ t9 (by simp)
   ·rw[<- est];exact (k8.trans (k9.trans kx)) _ _ t7 (by simp)
   ·rw[<- est];exact (k9.trans kx) _ _ t8 (by simp)
  refine yR (x:=Str.ofString "") rfl ?_;rw[Gn (GZ rfl)];refine⟨_,λ_ _ h=>h,?_⟩;refine jN λM hM=>?_;have stop:∀(how:Str) (k':Nat) (c':BS) (G:Hp) (o10 o11 o12:Option V),k'<=most->how≠""->how=jX cd z R->c'.st=R.st->c'.rd=R.rd->c'.st.told.length<=k'->c'.st.bs.length=8->c'.st.given=g->c'.st.heard<=g.length->LS G s b gl tl c'.st->KB [] H G->xC G ta cd->M [some (.str (wd z)),some (.ref bb),some (.ref gv),some (.int (most:Nat)),some (.ref ta),some (.ref s),some (.int c'.at_),some (.int c'.rd),some (.int (k':Nat)),some (.str how),o10,o11,o12] G:=λhow k' c' G o10 o11 o12 h1 h2 h3 h4 h5 h6 h7 h8 h9 h10 h11 h12=>by
   rw[hM];exact⟨0,Nat.succ_pos _,k',c',how,o10,o11,o12,h1,h6,h7,h8,h9,.inr ⟨h2,rfl,h3,h4,h5⟩,h10,h11,h12,rfl⟩
  have go:∀(c':BS) (G:Hp) (o10 o11 o12:Option V),k<most->R=dm cd z (most-(k+1)) c'->c'.st.told.length<=k+1->c'.st.bs.length=8->c'.st.given=g->c'.st.heard<=g.length->LS G s b gl tl c'.st->KB [] H G->xC G ta cd->M [some (.str (wd z)),some (.ref bb),some (.ref gv),some (.int (most:Nat)),some (.ref ta),some (.ref s),some (.int c'.at_),some (.int c'.rd),some (.int ((k+1:Nat):Int)),some (.str ""),o10,o11,o12] G:=λc' G o10 o11 o12 h1 h2 h6 h7 h8 h9 h10 h11 h12=>by
   rw[hM];exact⟨most-(k+1)+1,by lia,k+1,c',"",o10,o11,o12,h1,h6,h7,h8,h9,.inl ⟨rfl,rfl,h2⟩,h10,h11,h12,rfl⟩
  clear hM hN;refine ao λN1 hN1=>?_;walk_at "rz";rw[hN1];clear hN1 N1;refine ao λN2 hN2=>?_;have next:∀(v:V) (G:Hp),KB [] H6 G->yA G v (jD cd z c.at_)->N2 [some (.str (wd z)),some (.ref bb),some (.ref gv),some (.int (most:Nat)),some (.ref ta),some (.ref s),some (.int c.at_),some (.int c.rd),some (.int (k:Nat)),some (.str ""),some v,o11,o12] G:=λv G kG o=>by
   rw[hN2];clear hN2 N2;have LG:=L6.kb kG;have h0G:=h06.trans kG;have TG:=T6.keep kG (by simp) (by simp)
   dsimp only;refine my λA B hA hB=>?_;walk_at "rz";refine⟨lz,?_⟩;rw[av];by_cases c1:c.at_=(z.length:Nat)
   ·have hx:jD cd z c.at_=none:=by
     cases hx:jD cd z c.at_ with
     |none=>rfl
     |some y=>obtain⟨n,e,hn,_⟩:=mr hR' hx;lia
    have hc:R=c:=by rw[hrun];exact fe hx
    rw[Gn c1,hA];clear hA hB;walk_at "rz";refine stop "halt" k c G _ _ _ hk (by decide +kernel) ?_ (by rw[hc]) (by rw[hc]) hto h8 hgvn hhd LG h0G TG
    rw[hc];unfold jX;rw[Gn c1]
   rw[Gj c1,hB];clear hA hB A B;refine my λA B hA hB=>?_;walk_at "rz"
   cases hx:jD cd z c.at_ with
   |none =>
    rw[hx] at o;obtain rfl:v=.aP:=o;have hc:R=c:=by rw[hrun];exact fe hx
    rw[Gn rfl,hA];clear hA hB;walk_at "rz";refine stop "bad" k c G _ _ _ hk (by decide +kernel) ?_ (by rw[hc]) (by rw[hc]) hto h8 hgvn hhd LG h0G TG
    rw[hc];unfold jX AS;rw[Gj c1,hx];rfl
   |some y =>
    rw[hx] at o;obtain⟨fa,ra,rfl,ofa,ora⟩:=o;rw[Gj (show ¬ V.ref fa=V.aP from V.noConfusion),hB];clear hA hB A B;refine my λA B hA hB=>?_;walk_at "rz";by_cases c2:((k:Nat):Int)=(most:Nat)
    ·have hc:R=c:=by rw[hrun,show most-k=0 by lia];rfl
     rw[Gn c2,hA];clear hA hB;walk_at "rz";refine stop "more" k c G _ _ _ hk (by decide +kernel) ?_ (by rw[hc]) (by rw[hc]) hto h8 hgvn hhd LG h0G TG
     rw[hc];unfold jX AS;rw[Gj c1,hx];rfl
    have hkm:k<most:=by lia
    rw[Gj c2,hB];clear hA hB A B;obtain⟨p,hp,hpl,hpx⟩:=mr hR' hx;obtain⟨mok,_,ml,_,_⟩:=AR hR' hpx;rw[ml] at ora;have nx:R=dm cd z (most-(k+1)) (dv z c (tX y,y.2)):=by
     rw[hrun,show most-k=(most-(k+1))+1 by lia]
     exact ju hx
    clear hx ml hpx hrun;generalize tX y=r at *;generalize y.2=e at *;refine ao λN3 hN3=>?_;refine⟨_,rfl,fa,_,rfl,bz.of ofa,rfl,_,_,rfl,_,_,rfl,rfl,?_⟩;show N3 [some (.str (wd z)),some (.ref bb),some (.ref gv),some (.int (most:Nat)),some (.ref ta),some (.ref s),some (.int c.at_),some (.int c.rd),some (.int (k:Nat)),some (.str ""),some (.ref fa),some (.ref ra),some (.int (e:Nat))] G;rw[hN3];clear hN3 N3;refine ao λN3 hN3=>?_;walk_at "rz";rw[hN3];clear hN3 N3;refine ao λN3 hN3=>?_;walk_at "rz";rw[hN3];clear hN3 N3;refine ao λN3 hN3=>?_;walk_at "rz";rw[hN3];clear hN3 N3;rw[show ((k:Nat):Int)+1=((k+1:Nat):Int) from rfl];have sr:=aH ora;have rdE:c.rd+(e:Nat)-c.at_=(dv z c (r,e)).rd:=rfl;rw[rdE];have tle:=qw c.st r;have B8:(carry c.st r).2.bs.length=8:=zf h8 r;have BG:(carry c.st r).2.given=g/\(carry c.st r).2.heard<=g.length:=yV hgvn hhd r;refine my λA B hA hB=>?_
    cases r with
    |halt =>
     have a0:bV ((bC.halt).rel e).vs 0=some (.str "halt"):=rfl;exists sr,a0;rw[hA];walk_at "rz";have hc:R=dv z c (.halt,e):=by
      rw[nx];refine fe ?_;show jD cd z (z.length:Nat)=none
      cases hx:jD cd z (z.length:Nat) with
      |none=>rfl
      |some y=>obtain⟨n,e,hn,_⟩:=mr hR' hx;lia
     refine stop "halt" (k+1) {dv z c (.halt,e) with at_:=(e:Nat)} G _ _ _ hkm (by decide +kernel) ?_ (by rw[hc]) (by rw[hc]) (by show c.st.told.length<=_;lia) h8 hgvn hhd LG h0G TG
     rw[hc];unfold jX;exact (Gn rfl).symm
    |jump gg =>
     have a0:bV ((bC.jump gg).rel e).vs 0=some (.str "jump"):=rfl;have a9:bV ((bC.jump gg).rel e).vs (-1)=some (.int (gg-e)):=rfl;exists sr,a0,Gj (by decide +kernel:¬ ("jump":Str)="halt")
     rw[hB];clear hA hB A B;refine my λA B hA hB=>?_;exists sr,a0;rw[hA];exists sr,a9;rw[show (e:Int)+(gg-e)=gg by lia]
     exact go (dv z c (.jump gg,e)) G _ _ _ hkm nx (by show c.st.told.length<=_;lia) h8 hgvn hhd LG h0G TG
    |zero bx gg =>
     have hb8:bx<8:=mok;have a0:bV ((bC.zero bx gg).rel e).vs 0=some (.str "zero"):=rfl;have a1:bV ((bC.zero bx gg).rel e).vs 1=some (.str (bU bx)):=rfl;have a9:bV ((bC.zero bx gg).rel e).vs (-1)=some (.int (gg-e)):=rfl;exists sr,a0,Gj (by decide +kernel:¬ ("zero":Str)="halt")
     rw[hB];clear hA hB A B;refine my λA B hA hB=>?_;exists sr,a0,a1,Gj (by decide +kernel:¬ ("zero":Str)="jump"),aC LG.os
     refine⟨rfl,_,_,bx,[],rfl,rfl,rP hb8,?_⟩;exists aC LG.ob,qG h8 hb8;by_cases c3:dz c.st.bs bx=0
     ·rw[Gn c3,hA];exists sr,a9;rw[show (e:Int)+(gg-e)=gg by lia]
      have ep:(dv z c (.zero bx gg,e)).at_=gg:=by
       show (if (decide (dz c.st.bs bx=0))=true then gg else _)=gg
       rw[Gn (GZ c3)]
      have:=go (dv z c (.zero bx gg,e)) G (some (.ref fa)) (some (.ref ra)) (some (.int (e:Nat))) hkm nx (by show c.st.told.length<=_;lia) h8 hgvn hhd LG h0G TG
      rw[ep] at this;exact this
     ·rw[Gj c3,hB];exists sr,a0;have ep:(dv z c (.zero bx gg,e)).at_=(e:Nat):=by
       show (if (decide (dz c.st.bs bx=0))=true then gg else _)=_
       rw[Gj (by rw[GJ c3];exact Gx)]
      have:=go (dv z c (.zero bx gg,e)) G (some (.ref fa)) (some (.ref ra)) (some (.int (e:Nat))) hkm nx (by show c.st.told.length<=_;lia) h8 hgvn hhd LG h0G TG
      rw[ep] at this;exact this
    |put bx n =>
     have a0:bV ((bC.put bx n).rel e).vs 0=some (.str "put"):=rfl;exists sr,a0,Gj (by decide +kernel:¬ ("put":Str)="halt")
     rw[hB];clear hA hB A B;exists sr,a0,Gj (by decide +kernel:¬ ("put":Str)="jump"),Gj (by decide +kernel:¬ ("put":Str)="zero")
     refine⟨s,b,gl,tl,ra,.put bx n,c.st,rfl,LG,ora,mok,rfl,h8,by lia,by lia,by lia,λH9 L9 k9=>?_⟩
     exact go (dv z c (.put bx n,e)) H9 _ _ _ hkm nx (by show (carry c.st _).2.told.length<=_;lia) B8 BG.1 BG.2 L9 (keepH h0G k9) (keepT LG TG k9)
    |two u bx by' =>
     have a0:bV ((bC.two u bx by').rel e).vs 0=some (.str (w2 u)):=rfl
     exists sr,a0,Gj ((show ∀u,¬ w2 u="halt" by decide +kernel) u)
     rw[hB];clear hA hB A B;exists sr,a0,Gj ((show ∀u,¬ w2 u="jump" by decide +kernel) u),Gj ((show ∀u,¬ w2 u="zero" by decide +kernel) u)
     rw[Gn ((show ∀u,¬ w2 u="zero" by decide +kernel) u)]
     refine⟨s,b,gl,tl,ra,.two u bx by',c.st,rfl,LG,ora,mok,rfl,h8,by lia,by lia,by lia,λH9 L9 k9=>?_⟩
     exact go (dv z c (.two u bx by',e)) H9 _ _ _ hkm nx (by show (carry c.st _).2.told.length<=_;lia) B8 BG.1 BG.2 L9 (keepH h0G k9) (keepT LG TG k9)
    |one u bx =>
     have a0:bV ((bC.one u bx).rel e).vs 0=some (.str (w1 u)):=rfl;exists sr,a0,Gj ((show ∀u,¬ w1 u="halt" by decide +kernel) u)
     rw[hB];clear hA hB A B;exists sr,a0,Gj ((show ∀u,¬ w1 u="jump" by decide +kernel) u),Gj ((show ∀u,¬ w1 u="zero" by decide +kernel) u)
     rw[Gn ((show ∀u,¬ w1 u="zero" by decide +kernel) u)]
     refine⟨s,b,gl,tl,ra,.one u bx,c.st,rfl,LG,ora,mok,rfl,h8,by lia,by lia,by lia,λH9 L9 k9=>?_⟩
     have ep:(dv z c (.one u bx,e)).at_=(e:Nat):=by
      show (if (carry c.st (.one u bx)).1=true then _ else _)=_
      rcases mP u with rfl|rfl<;>rfl
     have:=go (dv z c (.one u bx,e)) H9 (some (.ref fa)) (some (.ref ra)) (some (.int (e:Nat))) hkm nx (by show (carry c.st _).2.told.length<=_;lia) B8 BG.1 BG.2 L9 (keepH h0G k9) (keepT LG TG k9)
     rw[ep] at this;exact this
  clear hN2;refine my λA B hA hB=>?_;walk_at "rz";have no:(jD cd z c.at_=none)->B [some (.str (wd z)),some (.ref bb),some (.ref gv),some (.int (most:Nat)),some (.ref ta),some (.ref s),some (.int c.at_),some (.int c.rd),some (.int (k:Nat)),some (.str ""),some .aP,o11,o12] H6:=λhx=>by
   rw[hB];exact next .aP H6 (KB.refl _ _) (by rw[hx];rfl)
  have out:∀{P1:Prop},¬ (0<=c.at_/\c.at_<((wd z).length:Nat))->(jD cd z c.at_=none->P1)->P1:=λh f=>f (by
   cases hx:jD cd z c.at_ with
   |none=>rfl
   |some y=>obtain⟨n,e,hn,_⟩:=mr hR' hx;exact absurd ⟨by lia,by rw[av];lia⟩ h)
  by_cases d1:0<=c.at_
  ·rw[Gn d1];refine⟨lz,?_⟩;by_cases d2:c.at_<((wd z).length:Nat)
   ·rw[Gn d2,hA];rw[av] at d2;obtain⟨p,hp⟩:∃p:Nat,c.at_=p:=⟨c.at_.toNat,by lia⟩
    rw[hp] at next d2 ⊢
    walk_at "rz";refine⟨ta,cd,z,p,rfl,T6,hR,hb,hz,by lia,λv G kG o=>?_⟩
    exact next v G kG (by rw[rh];exact o)
   ·rw[Gj d2];exact out (λh=>d2 h.2) no
  ·rw[Gj d1];exact out (λh=>d1 h.1) no
theorem qy{n:Nat}{a b:Addr}(ha:H a=some (.tup (iV xs)))(hb:H b=some (.tup (iV xs))):Sm H (n+1) (.ref a) (.ref b):=.inr ⟨a,b,_,_,rfl,rfl,ha,hb,rfl,λi u v h1 h2=>by
 rw[h1] at h2;cases h2;obtain⟨_,rfl⟩:=jL h1
 cases n with
 |zero=>exact⟨rfl,.inl ⟨_,rfl⟩⟩
 |succ n=>exact .inl ⟨rfl,.inl ⟨_,rfl⟩⟩⟩
theorem Co{v w':V}{cd:List (List (List Nat))}{c:BS}(h1:ql H v cd z c)(h2:ql H w' cd z c):Sm H 3 v w':=by
 obtain⟨t,p1,p2,rfl,a1,a2,a3⟩:=h1;obtain⟨t',p1',p2',rfl,b1,b2,b3⟩:=h2;refine .inr ⟨t,t',_,_,rfl,rfl,a1,b1,rfl,λi u v e1 e2=>?_⟩;have hi:i<4:=(Gm.mp e1).1;have:i=0\/i=1\/i=2\/i=3:=by lia
 rcases this with rfl|rfl|rfl|rfl
 ·cases e1;cases e2;exact .inl ⟨rfl,.inr ⟨_,rfl⟩⟩
 ·cases e1;cases e2;exact qy a2 b2
 ·cases e1;cases e2;exact .inl ⟨rfl,.inl ⟨_,rfl⟩⟩
 ·cases e1;cases e2;exact qy a3 b3
theorem ql.kb{v:V}{cd:List (List (List Nat))}{c:BS}(h:ql H v cd z c)(k:KB [] H H'):ql H' v cd z c:=by
 obtain⟨t,p1,p2,e,a1,a2,a3⟩:=h;exact⟨t,p1,p2,e,k _ _ a1 (by simp),k _ _ a2 (by simp),k _ _ a3 (by simp)⟩
theorem vv(l:List Nat):Y.fF (wd l) none (some (-1))=wd l.dropLast:=qI (by
 show (Y.jt l none (some (-1))).toArray.toList=_;rw[Ji];unfold Y.jt;rw[HT.fC,HL,K8,Lm];congr 1;show (if (-1:Int)<0 then ((-1:Int)+(l.length:Int)).toNat else min (-1:Int).toNat l.length)=_
 rw[Gn (by decide)]
 lia)
theorem Bt(T:Txt K mg)(F:jy K "law" "law" f7 f fd)(h_law_deck:aq P w K mg base bc 1 "_law_deck" ["script"] (uj K))(h_law_book:aq P w K mg base bc 4 "_law_book" ["deck"] (xx K))(h_law_edge_bits:aq P w K mg base bc 5 "_law_edge_bits" ["deck","book"] (uv K))(h_law_draw:aq P w K mg base bc 2 "_law_draw" ["deck","most"] gu)(hrun_bits:aq P w K mg base bc 7 "run_bits" ["bits","book","given","most"] (uy K))(h_law_run:aq P w K mg base bc 4 "_law_run" ["bits","book","given","most"] (vc K))(h_law_same:aq P w K mg base bc 5 "_law_same" ["found","due"] (oZ 3)):cy P w K mg base bc 8 f fd ["script"] (oE K):=by
 refine yO F eQ (λvs H Q E h=>?_) (λcdv A outer s H vs Q E hr h=>?_)
 ·obtain⟨a,ns,rfl,_⟩:=h;rfl
 ·obtain⟨a,ns,rfl,hS,hl,q⟩:=h;have hu:=a_ hr;refine⟨_,(Z.ag (Z.set (i:=1) eQ.nd rfl (by right) (Z.fn h_law_deck (hr.mono (by decide)) rfl aA (Z.cons (Z.v 0) Z.nil)))
   (Z.ag (Z.eF GP rfl (Z.mV rfl T.cZ (Z.cons Z.int Z.nil)) (Z.ba (i:=2) eQ.nd rfl (by right)) (Z.ag (Z.set (i:=3) eQ.nd rfl (by right) (Z.fn h_law_book (hr.mono (by decide)) rfl aA (Z.cons (Z.v 1) Z.nil)))
   (Z.ag (Z.set (i:=4) eQ.nd rfl (by right) (Z.fn h_law_edge_bits (hr.mono (by decide)) rfl aA (Z.cons (Z.v 1) (Z.cons (Z.v 3) Z.nil))))
   (Z.ag (Z.set (i:=5) eQ.nd rfl (by right) (Z.ct (Z.c_ K rfl) rfl T.cB (by decide +kernel) (Z.cons (Z.comp (osc:=af f7) (ON:=["script","deck","turn","book","bits","given","carried","some","most"]) (own:=["k"]) (N:=["k","script","deck","turn","book","bits","given","carried","some","most"]) ⟨rfl,by decide +kernel,rfl,by decide +kernel,by decide +kernel,by decide +kernel,by decide +kernel,by decide +kernel⟩ rfl rfl rfl (Z.mV rfl T.cZ (Z.cons (Z.fn h_law_draw (hr.mono (by decide)) rfl aA (Z.cons (Z.v 1) (Z.cons Z.int Z.nil))) Z.nil)) (λ_ _ _ _=>(Z.ba (i:=0) (show List.Nodup (["k","script","deck","turn","book","bits","given","carried","some","most"]:List Str) by decide +kernel) rfl (by right))) (λ_ _ _ _=>Z.zr) (λ_ _ _ _=>(Z.fn h_law_draw (hr.mono (by decide)) rfl aA (Z.cons (Z.v 2) (Z.cons Z.int Z.nil))))) Z.nil)))
   (Z.ag (Z.set (i:=6) eQ.nd rfl (by right) (Z.ix (Z.ay K rfl hu) (Z.fn h_law_run (hr.mono (by decide)) rfl aA (Z.cons (Z.v 4) (Z.cons (Z.v 3) (Z.cons (Z.v 5) (Z.cons Z.int Z.nil))))) Z.int))
   (Z.ar (Z.eF GP rfl (Z.any K rfl (Z.lst (Z.cons (Z.v 4) (Z.cons (Z.slice Y.dZ (Z.v 4) Z.AI (Z.ll (Z.un gp Z.int))) (Z.cons Z.str Z.nil))))) (Z.ba (i:=7) eQ.nd rfl (by right)) (Z.ar (Z.eF GP rfl (Z.any K rfl (Z.lst (Z.cons Z.int (Z.cons (Z.cb (sF rfl) rfl T.En (by decide +kernel) (Z.cons Z.int (Z.cons (Z.op bZ (Z.v 6) Z.int) Z.nil))) (Z.cons (Z.v 6) (Z.cons (Z.op (Z.aN K rfl) (Z.v 6) Z.int) (Z.cons Z.int Z.nil))))))) (Z.ba (i:=8) eQ.nd rfl (by right)) (Z.ar (Z.cG (Z.vm (Z.mx K rfl (Z.fn h_law_same (hr.mono (by decide)) rfl aA (Z.cons (Z.fn hrun_bits (hr.mono (by decide)) rfl aA (Z.cons (Z.v 7) (Z.cons (Z.v 3) (Z.cons (Z.v 5) (Z.cons (Z.v 8) Z.nil))))) (Z.cons (Z.ix (Z.ay K rfl hu) (Z.fn h_law_run (hr.mono (by decide)) rfl aA (Z.cons (Z.v 7) (Z.cons (Z.v 3) (Z.cons (Z.v 5) (Z.cons (Z.v 8) Z.nil))))) Z.int) Z.nil))))) (Z.ar (Z.ret Z.bl)) Z.bp)))))))))))
   (Z.ar (Z.ret Z.bl)))),?_⟩
  refine ao λN hN=>?_;walk_at "rz";refine⟨a,ns,rfl,hS,λp dq H1 D1 k1=>?_⟩;rw[hN];clear hN N;refine ao λN hN=>?_;walk_at "rz";refine⟨by decide,by decide,?_⟩
  refine cf (n:=4) (λi σ H'=>∃s2 s3 s4 s5 s6 s7 s8:Option V,bK H' p dq (2000*i)/\σ=[some (.ref a),some (.ref p),s2,s3,s4,s5,s6,s7,s8]) ⟨none,none,none,none,none,none,none,D1,rfl⟩ ?_ ?_
  ·rintro i σ H' hi ⟨s2,s3,s4,s5,s6,s7,s8,hD,rfl⟩;generalize (0:Int)+((i:Nat):Int)=kI;unfold bj;refine ao λM hM=>?_;walk_at "rz";refine⟨p,dq,_,rfl,hD,by lia,λbk b H2 D2 k2 hb hB=>?_⟩
   rw[hM];clear hM M;refine ao λM hM=>?_;walk_at "rz";refine⟨p,dq,b,bk,_,rfl,D2,by lia,hb,hB,λz H3 hbz hz D3 k3=>?_⟩
   have hb3:=hb.keep k3 D2.nt;rw[hM];clear hM M;refine ao λM hM=>?_;walk_at "rz";refine⟨p,dq,4,_,rfl,D3,by lia,by decide,by decide,λv3 H4 hv3 D4 k4=>?_⟩
   have hb4:=hb3.keep k4 D3.nt;walk_at "rz";refine⟨by lia,by lia,?_⟩
   rw[GW];refine ng (Gr (show v3<=101 by lia) (by decide)) (λL j ys G=>H4 L=none/\G L=some (.lst ys)/\bK G p dq (2000*i+700+j)/\KB [p,dq] H4 G/\∃cs:List Int,ys=iV cs/\cs.length=j) (λL hL=>⟨hL,aa,(D4.kb (KB.new hL)).mono (by lia),KB.new hL,[],rfl,rfl⟩) (λL j ys G h=>⟨h.2.1,by obtain⟨_,_,_,_,cs,rfl,e⟩:=h;rw[bR,e]⟩) ?_ ?_
   ·rintro L j ys G R hj ⟨g0,g1,gD,gk,cs,rfl,gl⟩ kk;have nL:=D4.new g0;walk_at "rz";refine⟨p,dq,3,_,rfl,gD,by lia,by decide,by decide,λv4 G2 hv4 D9 k9=>?_⟩
    have pL:p≠L:=λz=>nL (by simp[z])
    have qL:dq≠L:=λz=>nL (by simp[z])
    exact kk _ _ (k9 _ _ g1 nL) ⟨g0,aa,(D9.keep (KB.set (ex:=[L]) (by simp)) (by simpa using pL) (by simpa using qL)).mono (by lia),λu o e z=>by rw[ae (ai e g0)];exact k9 _ _ (gk _ _ e z) z,cs++[(v4:Int)],by rw[mw];rfl,by rw[Gk,gl];rfl⟩
   rintro L ys G ⟨g0,g1,gD,gk,g,rfl,gl⟩;exists aC g1;intro ga hga;have k6:KB [] G (upd G ga (.tup (iV g))):=KB.new hga;have s6':upd G ga (.tup (iV g)) ga=_:=aa;generalize upd G ga (.tup (iV g))=H6 at *;have hb6:=(hb4.keep gk D4.nt).kb k6;have D6:=gD.kb k6;rw[hM];clear hM M;clear k2 k3 k4 gk k6 hb hb3 hb4 D2 D3 D4 g0 g1 gD hga;have hR:=uC hB;refine ao λM hM=>?_;walk_at "rz";refine⟨b,ga,bk,z,g,20,rfl,hb6,s6',hB,hR,hbz,by lia,by lia,by lia,λl v k H7 k7 sl hk _=>?_⟩
   exists aC sl;have hb7:=hb6.kb k7;have s7':=k7 _ _ s6' (by simp)
   have D7:=D6.kb k7;rw[hM];clear hM M;clear k7 sl hb6 s6' D6;dsimp only;refine jN λM hM=>?_;walk_at "rz";refine⟨_,rfl,by rw[av];exact Nat.le_trans (show _<=10000 by lia) (by decide),?_⟩
   rw[vv];refine⟨by decide,λl8 hl8=>?_⟩
   have k8:KB [] H7 (upd H7 l8 (.lst [.str (wd z),.str (wd z.dropLast),.str (Str.ofString "")])):=KB.new hl8;have s8':upd H7 l8 (.lst [.str (wd z),.str (wd z.dropLast),.str (Str.ofString "")]) l8=_:=aa;generalize upd H7 l8 (.lst [.str (wd z),.str (wd z.dropLast),.str (Str.ofString "")])=H8 at *;have hzs:∀(j:Nat) (v:V),[V.str (wd z),.str (wd z.dropLast),.str (Str.ofString "")][j]?=some v->∃y:List Nat,v=.str (wd y)/\dw y/\y.length<=2000:=λj v e=>by
    have hj:j<3:=(Gm.mp e).1;rcases pj hj with rfl|rfl|rfl
    ·cases e;exact⟨z,rfl,hbz,hz⟩
    ·cases e;exact⟨_,rfl,λc hc=>hbz c (List.dropLast_subset _ hc),by rw[JV];lia⟩
    ·cases e;exact⟨[],by rw[jH],(λc hc=>absurd hc GI),by decide⟩
   try simp only[aC s8']
   refine eM (xs:=[V.str (wd z),.str (wd z.dropLast),.str (Str.ofString "")]) (λj σ G=>∃s7 s8:Option V,KB [] H8 G/\σ=[some (.ref a),some (.ref p),some (.int kI),some (.ref b),some (.str (wd z)),some (.ref ga),some (.int (k:Nat)),s7,s8]) ⟨s7,s8,KB.refl _ _,rfl⟩ (λj σ G _ h=>by obtain⟨_,_,k,_⟩:=h;exact bY.of (k _ _ s8' (by simp))) ?_ ?_
   ·rintro j v σ G hv ⟨s7,s8,kG,rfl⟩;obtain⟨y,rfl,hby,hy⟩:=hzs j v hv;refine jN λM3 hM3=>?_;walk_at "rz";refine⟨by decide,λl9 hl9=>?_⟩
    have k9:KB [] G (upd G l9 (.lst [.int 0,.int (if (k:Int)-1 > 0 then (k:Int)-1 else 0),.int (k:Nat),.int ((k:Int)+1),.int 40])):=KB.new hl9
    have s9:upd G l9 (.lst [.int 0,.int (if (k:Int)-1 > 0 then (k:Int)-1 else 0),.int (k:Nat),.int ((k:Int)+1),.int 40]) l9=_:=aa
    generalize upd G l9 (.lst [.int 0,.int (if (k:Int)-1 > 0 then (k:Int)-1 else 0),.int (k:Nat),.int ((k:Int)+1),.int 40])=G9 at *
    have hms:∀(j:Nat) (v:V),[V.int 0,.int (if (k:Int)-1 > 0 then (k:Int)-1 else 0),.int (k:Nat),.int ((k:Int)+1),.int 40][j]?=some v->∃m:Nat,v=.int (m:Nat)/\m<=100:=λj v e=>by
     have hj:j<5:=(Gm.mp e).1;have:j=0\/j=1\/j=2\/j=3\/j=4:=by lia
     rcases this with rfl|rfl|rfl|rfl|rfl
     ·cases e;exact⟨0,rfl,by decide⟩
     ·cases e;by_cases c:(k:Int)-1 > 0
      ·rw[Gn c];exact⟨k-1,Hj V.int (by lia),by lia⟩
      ·rw[Gj c];exact⟨0,rfl,by decide⟩
     ·cases e;exact⟨k,rfl,by lia⟩
     ·cases e;exact⟨k+1,rfl,by lia⟩
     ·cases e;exact⟨40,rfl,by decide⟩
    try simp only[aC s9]
    refine eM (xs:=[V.int 0,.int (if (k:Int)-1 > 0 then (k:Int)-1 else 0),.int (k:Nat),.int ((k:Int)+1),.int 40]) (λj σ G=>∃s8:Option V,KB [] G9 G/\σ=[some (.ref a),some (.ref p),some (.int kI),some (.ref b),some (.str (wd z)),some (.ref ga),some (.int (k:Nat)),some (.str (wd y)),s8]) ⟨s8,KB.refl _ _,rfl⟩ (λj σ G _ h=>by obtain⟨_,k,_⟩:=h;exact bY.of (k _ _ s9 (by simp))) ?_ ?_
    ·rintro j v σ G2 hv2 ⟨s8,kG2,rfl⟩;obtain⟨m,rfl,hm⟩:=hms j v hv2;have kk:=k8.trans (kG.trans (k9.trans kG2));have hbG:=hb7.kb kk;have hgG:=kk _ _ s7' (by simp)
     refine jN λM2 hM2=>?_;refine my λA B hA hB'=>?_;walk_at "rz";refine⟨b,ga,bk,y,g,m,rfl,hbG,hgG,hB,hR.1,hby,by lia,by lia,λv1 G3 kG3 o1=>?_⟩
     refine⟨b,ga,bk,y,g,m,rfl,hbG.kb kG3,kG3 _ _ hgG (by simp),hB,hR,hby,by lia,by lia,by lia,λl2 v2 k2 G4 kG4 sl2 _ o2=>?_⟩
     exists aC sl2;refine⟨_,_,rfl,Co (o1.kb kG4) o2,λG5 kG5=>?_⟩;exists Bool.not_true;rw[Gj (by simp),hB']
     show M2 _ _;rw[hM2];exact⟨some _,kG2.trans (kG3.trans (kG4.trans kG5)),rfl⟩
    ·rintro σ G2 ⟨s8,kG2,rfl⟩;show M3 _ _;rw[hM3];exact⟨some _,s8,kG.trans (k9.trans kG2),rfl⟩
   ·rintro σ G ⟨s7,s8,kG,rfl⟩;show M _ _;rw[hM];exact⟨some _,some _,some _,some _,some _,s7,s8,(D7.kb (k8.trans kG)).mono (by lia),rfl⟩
  ·rintro σ H' ⟨s2,s3,s4,s5,s6,s7,s8,_,rfl⟩;show N _ _;rw[hN];clear hN N;walk_at "rz";exact q _
theorem A2(T:Txt K mg)(f_goal_of:HasFn K mg "goal_of" fM ["row"])(f_can_be:HasFn K mg "can_be" gC ["lengths"])(f_code_of:HasFn K mg "code_of" cK ["lengths"])(f_word_behind:HasFn K mg "word_behind" cX ["ahead","length"])(f_thing_at:HasFn K mg "thing_at" eV ["code","bits","place"])(f_codes_of:HasFn K mg "codes_of" dD ["book"])(f_row_at:HasFn K mg "row_at" gU ["codes","bits","place"])(f_coded_at:HasFn K mg "coded_at" eX ["code","bits","place"])(f_part_at:HasFn K mg "part_at" fS ["kind","codes","bits","place"])(f_number_at:HasFn K mg "number_at" dY ["code","bits","place"])(f_goal_at:HasFn K mg "goal_at" fK ["bits","place"])(f_run_bits:HasFn K mg "run_bits" eW ["bits","book","given","most"])(l_deck:HasFn K mg "_law_deck" dj ["script"])(l_mix:HasFn K mg "_law_mix" eO ["number","turn"])(l_draw:HasFn K mg "_law_draw" dU ["deck","most"])(l_words:HasFn K mg "_law_words" d8 [])(l_bits:HasFn K mg "_law_bits" dW ["number","many"])(l_code:HasFn K mg "_law_code" du ["lengths"])(l_lengths:HasFn K mg "_law_lengths" cN ["deck","many"])(l_book:HasFn K mg "_law_book" dn ["deck"])(l_number:HasFn K mg "_law_number" de ["deck"])(l_plain:HasFn K mg "_law_plain" d7 ["row","codes"])(l_tables:HasFn K mg "_law_tables" dc ["book"])(l_thing_at:HasFn K mg "_law_thing_at" cA ["table","bits","at"])(l_value:HasFn K mg "_law_value" d6 ["text"])(l_way_at:HasFn K mg "_law_way_at" cY ["bits","at"])(l_number_at:HasFn K mg "_law_number_at" cq ["table","bits","at"])(l_row_at:HasFn K mg "_law_row_at" cW ["tables","bits","at"])(l_same:HasFn K mg "_law_same" cJ ["found","due"])(l_done:HasFn K mg "_law_done" dR ["state","row"])(l_run:HasFn K mg "_law_run" ff ["bits","book","given","most"])(l_plain_row:HasFn K mg "_law_plain_row" cm ["deck"])(l_edge_bits:HasFn K mg "_law_edge_bits" bP ["deck","book"])(F:jy K "law" "law" f7 f fd):cy P w K mg base bc 8 f fd ["script"] (oE K):=by
 have dr:=yH (P:=P) (w:=w) (base:=base) T l_draw (Bu l_mix);have lb:=vZ (P:=P) (w:=w) (base:=base) T l_bits;have ca:=xi (P:=P) (w:=w) (base:=base) T f_coded_at (vh T f_thing_at);have lc:=wb (P:=P) (w:=w) (base:=base) T l_code lb;have wo:=tS (P:=P) (w:=w) (base:=base) l_words;have va:=vN (P:=P) (w:=w) (base:=base) T l_value;have lt:=tM (P:=P) (w:=w) (base:=base) T l_thing_at;have co:=zR (P:=P) (w:=w) (base:=base) T f_code_of (Ba T f_can_be) (sO T f_word_behind);have rb:=zx (P:=P) (w:=w) (base:=base) T (xh T f_goal_of) (uG T f_codes_of co) (uU T f_row_at ca (sj T f_part_at ca (vA T f_number_at ca) (rO T f_goal_at ca))) f_run_bits;have lr:=yL (P:=P) (w:=w) (base:=base) T (rS T l_tables lc) (y8 T l_row_at lt (yE T l_number_at lt va) (zQ T l_way_at va) wo) (zP T l_done) l_run;exact Bt T F (y_ T l_deck) (zo T l_book dr (uF T l_lengths dr)) (yN T l_edge_bits lc (w_ T l_plain wo lb) (xX T l_plain_row dr (rL T l_number dr)) dr lb) dr rb lr (yp T l_same)
local macro_rules | `(tactic| walk_at "b1") => `(tactic| (intro _ _ _ _ _ _ us hl; obtain ⟨_, e⟩ := L2.Y.sU hl; subst e; rfl))
theorem fZ{x:Str}{st:Stmt}{ps:List Str}{oc:Value}{od an:Option Addr}{osl:Array (Option Value)}{kV doc pm cdv ct:Value}(X:K.In h)(G:h.Ns mainGlobals mg)(a:PySem.W.nsIn K mainGlobals x=some (some (.ref f)))
  (l:K.lookup f=some ⟨oc,od,.func (PySem.W.fnOf x x (bL st) (aR st) (af st) .none kV doc pm an cdv ct),osl⟩) (c:PySem.W.codeIn K cdv x=true) (k:PySem.W.keepIn K (.ref f)=true)
  (hb:∀(kV doc pm:Value) (an:Option Addr) (cdv ct:Value) (us:List Value),us.length=ps.length->bindArgs (PySem.W.fnOf x x (bL st) (aR st) (af st) .none kV doc pm an cdv ct) ⟨us,[]⟩=pure (ps.zip us)):HasFn K mg x st ps:=
 ⟨f,_,ck l c k,(ck l c k).binds hb,PySem.W.mg_of X G a⟩
theorem all_mk{l:PySem.W.OpenLaw}{w:World}{fa:Addr}(X:K.In h)(G:h.Ns mainGlobals mg)(hfa:mg "law"=some (.ref fa))
  {f2 f33:Addr} {od2 an2 od33 an33:Option Addr} {sl2 sl33:Array (Option Value)} {oc2 kV2 dc2 pm2 cd2 ct2 oc33 kV33 dc33 pm33 cd33 ct33:Value}
  {q0:Addr} {qd0:Option Addr} {qn0:Nat} {qs0:Array (Option Value)} {w0_0 w0_1 w0_2 w0_3 w0_4 w0_5 w0_6 w0_7:Tok}
  {q1:Addr} {qd1:Option Addr} {qn1:Nat} {qs1:Array (Option Value)} {w1_0 w1_1 w1_2:Tok}
  {q2:Addr} {qd2:Option Addr} {qn2:Nat} {qs2:Array (Option Value)} {w2_0 w2_1 w2_2:Tok}
  {w3_0:Tok}
  {w4_0:Tok}
  {w5_0:Tok}
  {w6_0:Tok}
  {q7:Addr} {qd7:Option Addr} {qn7:Nat} {qs7:Array (Option Value)} {w7_0 w7_1 w7_2:Tok}
  {dd0:Addr} {dh0_ep:Nat} {dh0_0 dh0_1 dh0_2 dh0_3 dh0_4 dh0_5 dh0_6 dh0_7 dh0_8:Int} {dp0_0 dp0_1 dp0_2 dp0_3 dp0_4 dp0_5 dp0_6 dp0_7 dp0_8:Addr} {do0_0 do0_1 do0_2 do0_3 do0_4 do0_5 do0_6 do0_7 do0_8:Option Addr} {dn0_0 dn0_1 dn0_2 dn0_3 dn0_4 dn0_5 dn0_6 dn0_7 dn0_8:Nat} {ds0_0 ds0_1 ds0_2 ds0_3 ds0_4 ds0_5 ds0_6 ds0_7 ds0_8:Array (Option Value)} {dt0_0 dt0_1 dt0_2 dt0_3 dt0_4 dt0_5 dt0_6 dt0_7 dt0_8 dw0_0_0 dw0_0_1 dw0_1_0 dw0_1_1 dw0_2_0 dw0_2_1 dw0_3_0 dw0_3_1 dw0_4_0 dw0_5_0 dw0_6_0 dw0_7_0 dw0_7_1:Tok}
  {mC mf0 mf1 mf2 mf3 mf4 mf5 mf6:Addr} {mod0 man0 mod1 man1 mod2 man2 mod3 man3 mod4 man4 mod5 man5 mod6 man6:Option Addr} {msl0 msl1 msl2 msl3 msl4 msl5 msl6:Array (Option Value)} {moc0 mkV0 mdc0 mpm0 mcd0 mct0 moc1 mkV1 mdc1 mpm1 mcd1 mct1 moc2 mkV2 mdc2 mpm2 mcd2 mct2 moc3 mkV3 mdc3 mpm3 mcd3 mct3 moc4 mkV4 mdc4 mpm4 mcd4 mct4 moc5 mkV5 mdc5 mpm5 mcd5 mct5 moc6 mkV6 mdc6 mpm6 mcd6 mct6:Value}
      
  (F0:HasFn K mg "goal_of" fM ["row"])
  (F1:HasFn K mg "can_be" gC ["lengths"])
  (a2:PySem.W.nsIn K mainGlobals "code_of"=some (some (.ref f2))) (l2:K.lookup f2=some ⟨oc2,od2,.func (PySem.W.fnOf "code_of" "code_of" (bL cK) (aR cK) (af cK) .none kV2 dc2 pm2 an2 cd2 ct2),sl2⟩) (c2:PySem.W.codeIn K cd2 "code_of"=true) (k2:PySem.W.keepIn K (.ref f2)=true)
  (F3:HasFn K mg "word_behind" cX ["ahead","length"])
  (F4:HasFn K mg "thing_at" eV ["code","bits","place"])
  (F5:HasFn K mg "codes_of" dD ["book"])
  (F6:HasFn K mg "row_at" gU ["codes","bits","place"])
  (F7:HasFn K mg "coded_at" eX ["code","bits","place"])
  (F8:HasFn K mg "part_at" fS ["kind","codes","bits","place"])
  (F9:HasFn K mg "number_at" dY ["code","bits","place"])
  (F10:HasFn K mg "goal_at" fK ["bits","place"])
  (F11:HasFn K mg "run_bits" eW ["bits","book","given","most"])
  (F12:HasFn K mg "_law_deck" dj ["script"])
  (F13:HasFn K mg "_law_mix" eO ["number","turn"])
  (F14:HasFn K mg "_law_draw" dU ["deck","most"])
  (F15:HasFn K mg "_law_words" d8 [])
  (F16:HasFn K mg "_law_bits" dW ["number","many"])
  (F17:HasFn K mg "_law_code" du ["lengths"])
  (F18:HasFn K mg "_law_lengths" cN ["deck","many"])
  (F19:HasFn K mg "_law_book" dn ["deck"])
  (F20:HasFn K mg "_law_number" de ["deck"])
  (F21:HasFn K mg "_law_plain" d7 ["row","codes"])
  (F22:HasFn K mg "_law_tables" dc ["book"])
  (F23:HasFn K mg "_law_thing_at" cA ["table","bits","at"])
  (F24:HasFn K mg "_law_value" d6 ["text"])
  (F25:HasFn K mg "_law_way_at" cY ["bits","at"])
  (F26:HasFn K mg "_law_number_at" cq ["table","bits","at"])
  (F27:HasFn K mg "_law_row_at" cW ["tables","bits","at"])
  (F28:HasFn K mg "_law_same" cJ ["found","due"])
  (F29:HasFn K mg "_law_done" dR ["state","row"])
  (F30:HasFn K mg "_law_run" ff ["bits","book","given","most"])
  (F31:HasFn K mg "_law_plain_row" cm ["deck"])
  (F32:HasFn K mg "_law_edge_bits" bP ["deck","book"])
  (a33:PySem.W.nsIn K mainGlobals "law"=some (some (.ref f33))) (l33:K.lookup f33=some ⟨oc33,od33,.func (PySem.W.fnOf "law" "law" (bL f7) (aR f7) (af f7) .none kV33 dc33 pm33 an33 cd33 ct33),sl33⟩) (c33:PySem.W.codeIn K cd33 "law"=true) (k33:PySem.W.keepIn K (.ref f33)=true)
  (z0:PySem.W.nsIn K mainGlobals "abs"=some none)
  (z1:PySem.W.nsIn K mainGlobals "bool"=some none)
  (z2:PySem.W.nsIn K mainGlobals "dict"=some none)
  (z3:PySem.W.nsIn K mainGlobals "enumerate"=some none)
  (z4:PySem.W.nsIn K mainGlobals "int"=some none)
  (z5:PySem.W.nsIn K mainGlobals "isinstance"=some none)
  (z6:PySem.W.nsIn K mainGlobals "len"=some none)
  (z7:PySem.W.nsIn K mainGlobals "list"=some none)
  (z8:PySem.W.nsIn K mainGlobals "max"=some none)
  (z9:PySem.W.nsIn K mainGlobals "min"=some none)
  (z10:PySem.W.nsIn K mainGlobals "range"=some none)
  (z11:PySem.W.nsIn K mainGlobals "sorted"=some none)
  (z12:PySem.W.nsIn K mainGlobals "str"=some none)
  (z13:PySem.W.nsIn K mainGlobals "sum"=some none)
  (z14:PySem.W.nsIn K mainGlobals "tuple"=some none)
  (z15:PySem.W.nsIn K mainGlobals "zip"=some none)
  (g0:PySem.W.nsIn K mainGlobals "BOXES"=some (some (.ref q0))) (m0:K.lookup q0=some ⟨.type "tuple",qd0,.seq #[.str "a" w0_0,.str "b" w0_1,.str "c" w0_2,.str "d" w0_3,.str "e" w0_4,.str "f" w0_5,.str "g" w0_6,.str "h" w0_7] qn0,qs0⟩)
  (g1:PySem.W.nsIn K mainGlobals "HALVES"=some (some (.ref q1))) (m1:K.lookup q1=some ⟨.type "tuple",qd1,.seq #[.int 8 w1_0,.int 128 w1_1,.int 32768 w1_2] qn1,qs1⟩)
  (g2:PySem.W.nsIn K mainGlobals "HEADS"=some (some (.ref q2))) (m2:K.lookup q2=some ⟨.type "tuple",qd2,.seq #[.str "0" w2_0,.str "10" w2_1,.str "11" w2_2] qn2,qs2⟩)
  (g3:PySem.W.nsIn K mainGlobals "OF_BOXES"=some (some (.int 2 w3_0)))
  (g4:PySem.W.nsIn K mainGlobals "OF_CLASSES"=some (some (.int 1 w4_0)))
  (g5:PySem.W.nsIn K mainGlobals "OF_WORDS"=some (some (.int 0 w5_0)))
  (g6:PySem.W.nsIn K mainGlobals "WHOLE"=some (some (.int 65536 w6_0)))
  (g7:PySem.W.nsIn K mainGlobals "WIDTHS"=some (some (.ref q7))) (m7:K.lookup q7=some ⟨.type "tuple",qd7,.seq #[.int 4 w7_0,.int 8 w7_1,.int 16 w7_2] qn7,qs7⟩)
  (dg0:PySem.W.nsIn K mainGlobals "SHAPES"=some (some (.ref dd0))) (dz0:(dd0 == sysModules)=false) (dl0:K.lookup dd0=some ⟨.type "dict",none,.dict #[⟨dh0_0,.str "put" dt0_0,.ref dp0_0⟩,⟨dh0_1,.str "add" dt0_1,.ref dp0_1⟩,⟨dh0_2,.str "sub" dt0_2,.ref dp0_2⟩,⟨dh0_3,.str "copy" dt0_3,.ref dp0_3⟩,⟨dh0_4,.str "tell" dt0_4,.ref dp0_4⟩,⟨dh0_5,.str "hear" dt0_5,.ref dp0_5⟩,⟨dh0_6,.str "jump" dt0_6,.ref dp0_6⟩,⟨dh0_7,.str "zero" dt0_7,.ref dp0_7⟩,⟨dh0_8,.str "halt" dt0_8,.ref dp0_8⟩] dh0_ep,#[]⟩)
  (dm0_0:K.lookup dp0_0=some ⟨.type "tuple",do0_0,.seq #[.str "box" dw0_0_0,.str "number" dw0_0_1] dn0_0,ds0_0⟩)
  (dm0_1:K.lookup dp0_1=some ⟨.type "tuple",do0_1,.seq #[.str "box" dw0_1_0,.str "box" dw0_1_1] dn0_1,ds0_1⟩)
  (dm0_2:K.lookup dp0_2=some ⟨.type "tuple",do0_2,.seq #[.str "box" dw0_2_0,.str "box" dw0_2_1] dn0_2,ds0_2⟩)
  (dm0_3:K.lookup dp0_3=some ⟨.type "tuple",do0_3,.seq #[.str "box" dw0_3_0,.str "box" dw0_3_1] dn0_3,ds0_3⟩)
  (dm0_4:K.lookup dp0_4=some ⟨.type "tuple",do0_4,.seq #[.str "box" dw0_4_0] dn0_4,ds0_4⟩)
  (dm0_5:K.lookup dp0_5=some ⟨.type "tuple",do0_5,.seq #[.str "box" dw0_5_0] dn0_5,ds0_5⟩)
  (dm0_6:K.lookup dp0_6=some ⟨.type "tuple",do0_6,.seq #[.str "goal" dw0_6_0] dn0_6,ds0_6⟩)
  (dm0_7:K.lookup dp0_7=some ⟨.type "tuple",do0_7,.seq #[.str "box" dw0_7_0,.str "goal" dw0_7_1] dn0_7,ds0_7⟩)
  (dm0_8:K.lookup dp0_8=some ⟨.type "tuple",do0_8,.seq #[] dn0_8,ds0_8⟩)
  (mq0:PySem.W.nsIn K mainGlobals "Machine"=some (some (.ref mC)))
  (mq1:PySem.W.plainGet K mC Str.empty=true)
  (mq2:PySem.W.hasDictIn K mC=true)
  (mq3:PySem.W.plainOver K mC=true)
  (mq4:PySem.W.findIn K (.ref mC) "__setattr__"=some (some (.builtin "object.__setattr__")))
  (mq5:PySem.W.findIn K (.ref mC) "given"=some none)
  (mq6:PySem.W.findIn K (.ref mC) "heard"=some none)
  (mq7:PySem.W.findIn K (.ref mC) "told"=some none)
  (mq8:PySem.W.findIn K (.ref mC) "boxes"=some none)
  (mq9:PySem.W.findIn K (.ref mC) "__init__"=some (some (.ref mf0)))
  (mq10:PySem.W.isFn K (.ref mf0)=true)
  (mq11:PySem.W.keepIn K (.ref mf0)=true)
  (mq12:K.lookup mf0=some ⟨moc0,mod0,.func (PySem.W.fnOf "__init__" "Machine.__init__" (bL aL) (aR aL) (af aL) .none mkV0 mdc0 mpm0 man0 mcd0 mct0),msl0⟩)
  (mq13:PySem.W.codeIn K mcd0 "Machine.__init__"=true)
  (mq14:PySem.W.makesIn K mC=true)
  (mq15:PySem.W.keepIn K (.ref mC)=true)
  (mq16:PySem.W.findIn K (.ref mC) "place_next"=some (some (.ref mf1)))
  (mq17:PySem.W.isFn K (.ref mf1)=true)
  (mq18:PySem.W.keepIn K (.ref mf1)=true)
  (mq19:K.lookup mf1=some ⟨moc1,mod1,.func (PySem.W.fnOf "place_next" "Machine.place_next" (bL aK) (aR aK) (af aK) .none mkV1 mdc1 mpm1 man1 mcd1 mct1),msl1⟩)
  (mq20:PySem.W.codeIn K mcd1 "Machine.place_next"=true)
  (mq21:PySem.W.findIn K (.ref mC) "carry_out"=some (some (.ref mf2)))
  (mq22:PySem.W.isFn K (.ref mf2)=true)
  (mq23:PySem.W.keepIn K (.ref mf2)=true)
  (mq24:K.lookup mf2=some ⟨moc2,mod2,.func (PySem.W.fnOf "carry_out" "Machine.carry_out" (bL aM) (aR aM) (af aM) .none mkV2 mdc2 mpm2 man2 mcd2 mct2),msl2⟩)
  (mq25:PySem.W.codeIn K mcd2 "Machine.carry_out"=true)
  (mq26:PySem.W.findIn K (.ref mC) "number_for"=some (some (.ref mf3)))
  (mq27:PySem.W.isFn K (.ref mf3)=true)
  (mq28:PySem.W.keepIn K (.ref mf3)=true)
  (mq29:K.lookup mf3=some ⟨moc3,mod3,.func (PySem.W.fnOf "number_for" "Machine.number_for" (bL aJ) (aR aJ) (af aJ) .none mkV3 mdc3 mpm3 man3 mcd3 mct3),msl3⟩)
  (mq30:PySem.W.codeIn K mcd3 "Machine.number_for"=true)
  (mq31:PySem.W.findIn K (.ref mC) "heard_number"=some (some (.ref mf4)))
  (mq32:PySem.W.isFn K (.ref mf4)=true)
  (mq33:PySem.W.keepIn K (.ref mf4)=true)
  (mq34:K.lookup mf4=some ⟨moc4,mod4,.func (PySem.W.fnOf "heard_number" "Machine.heard_number" (bL aG) (aR aG) (af aG) .none mkV4 mdc4 mpm4 man4 mcd4 mct4),msl4⟩)
  (mq35:PySem.W.codeIn K mcd4 "Machine.heard_number"=true)
  (mq36:PySem.W.findIn K (.ref mC) "told_numbers"=some (some (.ref mf5)))
  (mq37:PySem.W.isFn K (.ref mf5)=true)
  (mq38:PySem.W.keepIn K (.ref mf5)=true)
  (mq39:K.lookup mf5=some ⟨moc5,mod5,.func (PySem.W.fnOf "told_numbers" "Machine.told_numbers" (bL aF) (aR aF) (af aF) .none mkV5 mdc5 mpm5 man5 mcd5 mct5),msl5⟩)
  (mq40:PySem.W.codeIn K mcd5 "Machine.told_numbers"=true)
  (mq41:PySem.W.findIn K (.ref mC) "box_numbers"=some (some (.ref mf6)))
  (mq42:PySem.W.isFn K (.ref mf6)=true)
  (mq43:PySem.W.keepIn K (.ref mf6)=true)
  (mq44:K.lookup mf6=some ⟨moc6,mod6,.func (PySem.W.fnOf "box_numbers" "Machine.box_numbers" (bL az) (aR az) (af az) .none mkV6 mdc6 mpm6 man6 mcd6 mct6),msl6⟩)
  (mq45:PySem.W.codeIn K mcd6 "Machine.box_numbers"=true)
  (le_code_of:cd2=.ref lc_code_of) (lk_code_of:K.lookup lc_code_of=some ⟨lO_code_of,lD_code_of,.fields lv_code_of,lS_code_of⟩) (lw_code_of:lv_code_of[11]?=some (.ref lp_code_of))
  : ∃fd:FuncData,(∀(s:Shared) (v:Value),BindsTo s fd ⟨[v],[]⟩ [("script",v)])/\∀base:Heap,K.In base->base.Ns mainGlobals mg->cy l.prog w K mg base bc 30 fa fd ["script"] (oE K):=by
 have e:=hfa.symm.trans (PySem.W.mg_of X G a33);cases e
 have T:Txt K mg:=⟨PySem.W.mg_none_of X G z0,PySem.W.mg_none_of X G z1,PySem.W.mg_none_of X G z2,PySem.W.mg_none_of X G z3,PySem.W.mg_none_of X G z4,PySem.W.mg_none_of X G z5,PySem.W.mg_none_of X G z6,PySem.W.mg_none_of X G z7,PySem.W.mg_none_of X G z8,PySem.W.mg_none_of X G z9,PySem.W.mg_none_of X G z10,PySem.W.mg_none_of X G z11,PySem.W.mg_none_of X G z12,PySem.W.mg_none_of X G z13,PySem.W.mg_none_of X G z14,PySem.W.mg_none_of X G z15,⟨q0,PySem.W.mg_of X G g0,λH=>.inr ⟨_,_,_,m0,rfl,rfl,(by show 8<=sizeLine;decide),(.cons ⟨w0_0,rfl⟩ (.cons ⟨w0_1,rfl⟩ (.cons ⟨w0_2,rfl⟩ (.cons ⟨w0_3,rfl⟩ (.cons ⟨w0_4,rfl⟩ (.cons ⟨w0_5,rfl⟩ (.cons ⟨w0_6,rfl⟩ (.cons ⟨w0_7,rfl⟩ .nil))))))))⟩⟩,⟨q1,PySem.W.mg_of X G g1,λH=>.inr ⟨_,_,_,m1,rfl,rfl,(by show 3<=sizeLine;decide),(.cons ⟨w1_0,rfl⟩ (.cons ⟨w1_1,rfl⟩ (.cons ⟨w1_2,rfl⟩ .nil)))⟩⟩,⟨q2,PySem.W.mg_of X G g2,λH=>.inr ⟨_,_,_,m2,rfl,rfl,(by show 3<=sizeLine;decide),(.cons ⟨w2_0,rfl⟩ (.cons ⟨w2_1,rfl⟩ (.cons ⟨w2_2,rfl⟩ .nil)))⟩⟩,⟨_,PySem.W.mg_of X G g3,⟨_,rfl⟩⟩,⟨_,PySem.W.mg_of X G g4,⟨_,rfl⟩⟩,⟨_,PySem.W.mg_of X G g5,⟨_,rfl⟩⟩,⟨_,PySem.W.mg_of X G g6,⟨_,rfl⟩⟩,⟨q7,PySem.W.mg_of X G g7,λH=>.inr ⟨_,_,_,m7,rfl,rfl,(by show 3<=sizeLine;decide),(.cons ⟨w7_0,rfl⟩ (.cons ⟨w7_1,rfl⟩ (.cons ⟨w7_2,rfl⟩ .nil)))⟩⟩,⟨dd0,PySem.W.mg_of X G dg0,dz0,_,_,_,dl0,⟨rfl,rfl,rfl⟩,rfl,(.cons rfl ⟨dp0_0,rfl,⟨_,_,_,dm0_0,rfl,rfl,(by show 2<=sizeLine;decide),(.cons ⟨dw0_0_0,rfl⟩ (.cons ⟨dw0_0_1,rfl⟩ .nil))⟩⟩ (.cons rfl ⟨dp0_1,rfl,⟨_,_,_,dm0_1,rfl,rfl,(by show 2<=sizeLine;decide),(.cons ⟨dw0_1_0,rfl⟩ (.cons ⟨dw0_1_1,rfl⟩ .nil))⟩⟩ (.cons rfl ⟨dp0_2,rfl,⟨_,_,_,dm0_2,rfl,rfl,(by show 2<=sizeLine;decide),(.cons ⟨dw0_2_0,rfl⟩ (.cons ⟨dw0_2_1,rfl⟩ .nil))⟩⟩ (.cons rfl ⟨dp0_3,rfl,⟨_,_,_,dm0_3,rfl,rfl,(by show 2<=sizeLine;decide),(.cons ⟨dw0_3_0,rfl⟩ (.cons ⟨dw0_3_1,rfl⟩ .nil))⟩⟩ (.cons rfl ⟨dp0_4,rfl,⟨_,_,_,dm0_4,rfl,rfl,(by show 1<=sizeLine;decide),(.cons ⟨dw0_4_0,rfl⟩ .nil)⟩⟩ (.cons rfl ⟨dp0_5,rfl,⟨_,_,_,dm0_5,rfl,rfl,(by show 1<=sizeLine;decide),(.cons ⟨dw0_5_0,rfl⟩ .nil)⟩⟩ (.cons rfl ⟨dp0_6,rfl,⟨_,_,_,dm0_6,rfl,rfl,(by show 1<=sizeLine;decide),(.cons ⟨dw0_6_0,rfl⟩ .nil)⟩⟩ (.cons rfl ⟨dp0_7,rfl,⟨_,_,_,dm0_7,rfl,rfl,(by show 2<=sizeLine;decide),(.cons ⟨dw0_7_0,rfl⟩ (.cons ⟨dw0_7_1,rfl⟩ .nil))⟩⟩ (.cons rfl ⟨dp0_8,rfl,⟨_,_,_,dm0_8,rfl,rfl,(by show 0<=sizeLine;decide),.nil⟩⟩ .nil)))))))))⟩,⟨_,_,_,_,_,_,_,_,_,_,_,_,_,_,_,PySem.W.mg_of X G mq0,⟨mq1,mq2,mq3,mq4⟩,mq5,mq6,mq7,mq8,⟨mq14,mq9,mq10,mq15⟩,ck (st:=aL) mq12 mq13 mq11,(ck (st:=aL) mq12 mq13 mq11).binds (ps:=["self","given"]) (λ_ _ _ _ _ _ us hl=>by obtain⟨_,_,rfl⟩:=Y.uS hl;rfl),⟨mq16,mq17,mq18⟩,ck (st:=aK) mq19 mq20 mq18,(ck (st:=aK) mq19 mq20 mq18).binds (ps:=["self","row","behind","end"]) (λ_ _ _ _ _ _ us hl=>by obtain⟨_,_,_,_,rfl⟩:=Y.DJ hl;rfl),⟨mq21,mq22,mq23⟩,ck (st:=aM) mq24 mq25 mq23,(ck (st:=aM) mq24 mq25 mq23).binds (ps:=["self","row"]) (λ_ _ _ _ _ _ us hl=>by obtain⟨_,_,rfl⟩:=Y.uS hl;rfl),⟨mq26,mq27,mq28⟩,ck (st:=aJ) mq29 mq30 mq28,(ck (st:=aJ) mq29 mq30 mq28).binds (ps:=["self","row"]) (λ_ _ _ _ _ _ us hl=>by obtain⟨_,_,rfl⟩:=Y.uS hl;rfl),⟨mq31,mq32,mq33⟩,ck (st:=aG) mq34 mq35 mq33,(ck (st:=aG) mq34 mq35 mq33).binds (ps:=["self"]) (λ_ _ _ _ _ _ us hl=>by obtain⟨_,rfl⟩:=Y.sU hl;rfl),⟨mq36,mq37,mq38⟩,ck (st:=aF) mq39 mq40 mq38,(ck (st:=aF) mq39 mq40 mq38).binds (ps:=["self"]) (λ_ _ _ _ _ _ us hl=>by obtain⟨_,rfl⟩:=Y.sU hl;rfl),⟨mq41,mq42,mq43⟩,ck (st:=az) mq44 mq45 mq43,(ck (st:=az) mq44 mq45 mq43).binds (ps:=["self"]) (λ_ _ _ _ _ _ us hl=>by obtain⟨_,rfl⟩:=Y.sU hl;rfl)⟩,qB.mk' X G (nc a2 l2 le_code_of lk_code_of lw_code_of)⟩
 have F2:HasFn K mg "code_of" cK ["lengths"]:=fZ X G a2 l2 c2 k2 (by walk_at "b1")
 exact⟨PySem.W.fnOf "law" "law" (bL f7) (aR f7) (af f7) .none kV33 dc33 pm33 an33 cd33 ct33,λs v=>.of_eq rfl,λbase _ _=>(A2 T F0 F1 F2 F3 F4 F5 F6 F7 F8 F9 F10 F11 F12 F13 F14 F15 F16 F17 F18 F19 F20 F21 F22 F23 F24 F25 F26 F27 F28 F29 F30 F31 F32 (ck (st:=f7) l33 c33 k33)).mono (by decide)⟩
theorem walk{l:PySem.W.OpenLaw}{loose:List Str}{XP:(Str->Option Value)->Heap->Prop}{YP:World->Heap->Prop}{d:DefRec}{K:Params->LA}(hn:l.most=some 63)(hdf:d.params.defaults=[])
  (hY:∀(w:World) (h:Heap),YP w h->(K w.params).In h)
  (F:∀(w:World) (mg:Str->Option Value) (fa:Addr) (h:Heap),(K w.params).In h->h.Ns mainGlobals mg->mg d.name=some (.ref fa)->∃fd:FuncData,(∀(s:Shared) (u:Value),BindsTo s fd ⟨[u],[]⟩ [("script",u)])/\∀base:Heap,(K w.params).In base->base.Ns mainGlobals mg->cy l.prog w (K w.params) mg base bc 30 fa fd ["script"] (oE (K w.params))) (hL:∀(w:World) (h:Heap),(K w.params).In h->gQ q (K w.params)) :
  PySem.W.WalkO q loose XP YP l.row.toRowW d [] (λf vs=>PySem.call f vs):=
 L2.zD (n:=63) (k:=30) (x:="script") (CX:=λ_=>bc) (sp:=λw=>oE (K w.params)) hn (by decide) hdf ⟨rfl,by decide,by decide,rfl⟩ hY F (λ_ _ a ns hl _ hS=>⟨a,ns,rfl,hS,hl,λ_=>rfl⟩) (λ_ _ _ _ _ z=>z) hL
theorem BI(_:K.In h){la_code_of:Addr}{lo_code_of:Value}{ld_code_of:Option Addr}{lfd_code_of:FuncData}{ls_code_of:Array (Option Value)}(nt:PySem.W.noTabs K=true)
  (ma_by_worth:PySem.W.nsIn K mainGlobals "by_worth"=some none)
  (ma_by_weight:PySem.W.nsIn K mainGlobals "by_weight"=some none)
  (ma_code_of:PySem.W.nsIn K mainGlobals "code_of"=some (some (.ref la_code_of))) (ml_code_of:K.lookup la_code_of=some ⟨lo_code_of,ld_code_of,.func lfd_code_of,ls_code_of⟩) (mc_code_of:lfd_code_of.code=.ref lc_code_of) (mk_code_of:K.lookup lc_code_of=some ⟨lO_code_of,lD_code_of,.fields lv_code_of,lS_code_of⟩) (mw_code_of:lv_code_of[11]?=some (.ref lp_code_of)) (mr_code_of:((recsOf q).find? (λe=>e.name ==("code_of":Str))).isSome=true)
  : gQ q K:=gQ.of nt (ja ma_by_worth) (ja ma_by_weight) (nc ma_code_of ml_code_of mc_code_of mk_code_of mw_code_of) (by first|exact mn|simp) (.inl rfl) (.inl rfl) (.inr mr_code_of)
end
end G
open PySem PySem.W PyProof.Rows
local macro_rules | `(tactic| walk_at "b0") => `(tactic| (intro _ _ _ _ _ _ us hl; match us, hl with | [], _ => rfl))
local macro_rules | `(tactic| walk_at "b1") => `(tactic| (intro _ _ _ _ _ _ us hl; obtain ⟨_, e⟩ := L2.Y.sU hl; subst e; rfl))
local macro_rules | `(tactic| walk_at "b2") => `(tactic| (intro _ _ _ _ _ _ us hl; obtain ⟨_, _, e⟩ := L2.Y.uS hl; subst e; rfl))
local macro_rules | `(tactic| walk_at "b3") => `(tactic| (intro _ _ _ _ _ _ us hl; obtain ⟨_, _, _, e⟩ := L2.Y.pW hl; subst e; rfl))
local macro_rules | `(tactic| walk_at "b4") => `(tactic| (intro _ _ _ _ _ _ us hl; obtain ⟨_, _, _, _, e⟩ := L2.Y.DJ hl; subst e; rfl))
set_option maxRecDepth 100000 in
set_option maxHeartbeats 0 in
theorem PySem.Challenge.cw_shortrows_k35_bits_at_the_edge_holds : PySem.Challenge.rw_shortrows_k35_bits_at_the_edge.Holds := by
 w_on;o_law;k_head;(case hw=>w_witness2)
 k_fill
 refine G.walk (l:=PySem.Challenge.rw_shortrows_k35_bits_at_the_edge) rfl rfl (λw h Y=>by first|exact PySem.W.kIn_of Y|exact PySem.W.km_in_of Y) ?F ?L
 case F =>
  intro w mg fa h KX GN hmg
  refine' G.all_mk KX GN hmg (G.fZ KX GN ?a0 ?l0 ?c0 ?k0 (by walk_at "b1")) (G.fZ KX GN ?a1 ?l1 ?c1 ?k1 (by walk_at "b1")) ?a2 ?l2 ?c2 ?k2 (G.fZ KX GN ?a3 ?l3 ?c3 ?k3 (by walk_at "b2")) (G.fZ KX GN ?a4 ?l4 ?c4 ?k4 (by walk_at "b3")) (G.fZ KX GN ?a5 ?l5 ?c5 ?k5 (by walk_at "b1")) (G.fZ KX GN ?a6 ?l6 ?c6 ?k6 (by walk_at "b3")) (G.fZ KX GN ?a7 ?l7 ?c7 ?k7 (by walk_at "b3")) (G.fZ KX GN ?a8 ?l8 ?c8 ?k8 (by walk_at "b4")) (G.fZ KX GN ?a9 ?l9 ?c9 ?k9 (by walk_at "b3")) (G.fZ KX GN ?a10 ?l10 ?c10 ?k10 (by walk_at "b2")) (G.fZ KX GN ?a11 ?l11 ?c11 ?k11 (by walk_at "b4")) (G.fZ KX GN ?a12 ?l12 ?c12 ?k12 (by walk_at "b1")) (G.fZ KX GN ?a13 ?l13 ?c13 ?k13 (by walk_at "b2")) (G.fZ KX GN ?a14 ?l14 ?c14 ?k14 (by walk_at "b2")) (G.fZ KX GN ?a15 ?l15 ?c15 ?k15 (by walk_at "b0")) (G.fZ KX GN ?a16 ?l16 ?c16 ?k16 (by walk_at "b2")) (G.fZ KX GN ?a17 ?l17 ?c17 ?k17 (by walk_at "b1")) (G.fZ KX GN ?a18 ?l18 ?c18 ?k18 (by walk_at "b2")) (G.fZ KX GN ?a19 ?l19 ?c19 ?k19 (by walk_at "b1")) (G.fZ KX GN ?a20 ?l20 ?c20 ?k20 (by walk_at "b1")) (G.fZ KX GN ?a21 ?l21 ?c21 ?k21 (by walk_at "b2")) (G.fZ KX GN ?a22 ?l22 ?c22 ?k22 (by walk_at "b1")) (G.fZ KX GN ?a23 ?l23 ?c23 ?k23 (by walk_at "b3")) (G.fZ KX GN ?a24 ?l24 ?c24 ?k24 (by walk_at "b1")) (G.fZ KX GN ?a25 ?l25 ?c25 ?k25 (by walk_at "b2")) (G.fZ KX GN ?a26 ?l26 ?c26 ?k26 (by walk_at "b3")) (G.fZ KX GN ?a27 ?l27 ?c27 ?k27 (by walk_at "b3")) (G.fZ KX GN ?a28 ?l28 ?c28 ?k28 (by walk_at "b2")) (G.fZ KX GN ?a29 ?l29 ?c29 ?k29 (by walk_at "b2")) (G.fZ KX GN ?a30 ?l30 ?c30 ?k30 (by walk_at "b4")) (G.fZ KX GN ?a31 ?l31 ?c31 ?k31 (by walk_at "b1")) (G.fZ KX GN ?a32 ?l32 ?c32 ?k32 (by walk_at "b2")) ?a33 ?l33 ?c33 ?k33 ?z0 ?z1 ?z2 ?z3 ?z4 ?z5 ?z6 ?z7 ?z8 ?z9 ?z10 ?z11 ?z12 ?z13 ?z14 ?z15 ?gq0 ?mq0 ?gq1 ?mq1 ?gq2 ?mq2 ?gq3 ?gq4 ?gq5 ?gq6 ?gq7 ?mq7 ?dg0 ?dz0 ?dl0 ?dm0_0 ?dm0_1 ?dm0_2 ?dm0_3 ?dm0_4 ?dm0_5 ?dm0_6 ?dm0_7 ?dm0_8 ?mq_0 ?mq_1 ?mq_2 ?mq_3 ?mq_4 ?mq_5 ?mq_6 ?mq_7 ?mq_8 ?mq_9 ?mq_10 ?mq_11 ?mq_12 ?mq_13 ?mq_14 ?mq_15 ?mq_16 ?mq_17 ?mq_18 ?mq_19 ?mq_20 ?mq_21 ?mq_22 ?mq_23 ?mq_24 ?mq_25 ?mq_26 ?mq_27 ?mq_28 ?mq_29 ?mq_30 ?mq_31 ?mq_32 ?mq_33 ?mq_34 ?mq_35 ?mq_36 ?mq_37 ?mq_38 ?mq_39 ?mq_40 ?mq_41 ?mq_42 ?mq_43 ?mq_44 ?mq_45 ?le_code_of ?lk_code_of ?lw_code_of
  (case a0|l0|c0|k0|a1|l1|c1|k1|a2|l2|c2|k2|a3|l3|c3|k3|a4|l4|c4|k4|a5|l5|c5|k5|a6|l6|c6|k6|a7|l7|c7|k7|a8|l8|c8|k8|a9|l9|c9|k9|a10|l10|c10|k10|a11|l11|c11|k11|a12|l12|c12|k12|a13|l13|c13|k13|a14|l14|c14|k14|a15|l15|c15|k15|a16|l16|c16|k16|a17|l17|c17|k17|a18|l18|c18|k18|a19|l19|c19|k19|a20|l20|c20|k20|a21|l21|c21|k21|a22|l22|c22|k22|a23|l23|c23|k23|a24|l24|c24|k24|a25|l25|c25|k25|a26|l26|c26|k26|a27|l27|c27|k27|a28|l28|c28|k28|a29|l29|c29|k29|a30|l30|c30|k30|a31|l31|c31|k31|a32|l32|c32|k32|a33|l33|c33|k33=>k_is)
  (case z0=>k_is)
  (case z1=>k_is)
  (case z2=>k_is)
  (case z3=>k_is)
  (case z4=>k_is)
  (case z5=>k_is)
  (case z6=>k_is)
  (case z7=>k_is)
  (case z8=>k_is)
  (case z9=>k_is)
  (case z10=>k_is)
  (case z11=>k_is)
  (case z12=>k_is)
  (case z13=>k_is)
  (case z14=>k_is)
  (case z15=>k_is)
  (case gq0=>k_is)
  (case mq0=>k_is)
  (case gq1=>k_is)
  (case mq1=>k_is)
  (case gq2=>k_is)
  (case mq2=>k_is)
  (case gq3=>k_is)
  (case gq4=>k_is)
  (case gq5=>k_is)
  (case gq6=>k_is)
  (case gq7=>k_is)
  (case mq7=>k_is)
  (case dg0=>k_is)
  (case dl0=>k_is)
  (case dm0_0=>k_is)
  (case dm0_1=>k_is)
  (case dm0_2=>k_is)
  (case dm0_3=>k_is)
  (case dm0_4=>k_is)
  (case dm0_5=>k_is)
  (case dm0_6=>k_is)
  (case dm0_7=>k_is)
  (case dm0_8=>k_is)
  (case dz0=>rfl)
  (case mq_0=>k_is)
  (case mq_1=>k_is)
  (case mq_2=>k_is)
  (case mq_3=>k_is)
  (case mq_4=>k_is)
  (case mq_5=>k_is)
  (case mq_6=>k_is)
  (case mq_7=>k_is)
  (case mq_8=>k_is)
  (case mq_9=>k_is)
  (case mq_10=>k_is)
  (case mq_11=>k_is)
  (case mq_12=>k_is)
  (case mq_13=>k_is)
  (case mq_14=>k_is)
  (case mq_15=>k_is)
  (case mq_16=>k_is)
  (case mq_17=>k_is)
  (case mq_18=>k_is)
  (case mq_19=>k_is)
  (case mq_20=>k_is)
  (case mq_21=>k_is)
  (case mq_22=>k_is)
  (case mq_23=>k_is)
  (case mq_24=>k_is)
  (case mq_25=>k_is)
  (case mq_26=>k_is)
  (case mq_27=>k_is)
  (case mq_28=>k_is)
  (case mq_29=>k_is)
  (case mq_30=>k_is)
  (case mq_31=>k_is)
  (case mq_32=>k_is)
  (case mq_33=>k_is)
  (case mq_34=>k_is)
  (case mq_35=>k_is)
  (case mq_36=>k_is)
  (case mq_37=>k_is)
  (case mq_38=>k_is)
  (case mq_39=>k_is)
  (case mq_40=>k_is)
  (case mq_41=>k_is)
  (case mq_42=>k_is)
  (case mq_43=>k_is)
  (case mq_44=>k_is)
  (case mq_45=>k_is)
  (case le_code_of=>exact rfl)
  (case lk_code_of=>k_is)
  (case lw_code_of=>exact rfl)
 case L =>
  intro w h KX
  refine' G.BI KX (by kernel_rfl) ?ma_by_worth ?ma_by_weight ?ma_code_of ?ml_code_of ?mc_code_of ?mk_code_of ?mw_code_of ?mr_code_of
  (case ma_by_worth=>k_is)
  (case ma_by_weight=>k_is)
  (case ma_code_of=>k_is)
  (case ml_code_of=>k_is)
  (case mc_code_of=>exact rfl)
  (case mk_code_of=>k_is)
  (case mw_code_of=>exact rfl)
  (case mr_code_of=>exact rfl)
end
