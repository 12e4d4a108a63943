import PyProof.Rows.All
import Wide.All
import OpenK.AllK
import Wide.FinOn
import Lean
import PyProof.EqAt
import PyProof.EqKinds
import PyProof.TupleCall
import KE.KSortKey
import KE.KLam
import PySem.Challenge.RW_shortrows_k39_kept_packed
namespace PySem.W.Fast
def tw9617964759471115326:=0
noncomputable def tw14233957890041648000:=0
noncomputable def tw13345014978391313619:=0
noncomputable def tw14659813907212107194:=0
noncomputable def tw14268862442674571052:=0
noncomputable def tw8399707841783256242:=0
noncomputable def tw16367574483638340159:=0
noncomputable def tw16893084388422958444:=0
noncomputable def tw5216333123627950519:=0
noncomputable def tw8506382999499489947:=0
noncomputable def tw3591357996617216191:=0
noncomputable def tw1592254970427102730:=0
noncomputable def tw16369427967949180047:=0
noncomputable def tw13760920189882768435:=0
noncomputable def tw7669892315534744145:=0
noncomputable def tw16725747487996232129:=0
noncomputable def tw2221824405556137601:=0
noncomputable def tw3580660213387642687:=0
noncomputable def tw17223078664732081371:=0
noncomputable def tw12425187538611052491:=0
noncomputable def tw683728032590547425:=0
noncomputable def tw8531745231381102678:=0
noncomputable def tw1258848158200389963:=0
noncomputable def tw6041592866734836142:=0
noncomputable def tw3057738201587846948:=0
noncomputable def tw17355763577175456160:=0
noncomputable def tw602535917933638912:=0
noncomputable def tw12278927136824467978:=0
noncomputable def tw10097197012890843592:=0
noncomputable def tw16142223999399282890:=0
noncomputable def tw1826560334321975336:=0
noncomputable def tw594828745877542195:=0
noncomputable def tw8726157914707856605:=0
noncomputable def tw6340897599751769430:=0
noncomputable def tw1012972175700077892:=0
noncomputable def tw13935428313971423187:=0
noncomputable def tw6470098938045309317:=0
noncomputable def tw845486386283405354:=0
noncomputable def tw7479925381047566026:=0
noncomputable def tw6405329642121847922:=0
noncomputable def tw9155248002974513611:=0
noncomputable def tw5408503643276740768:=0
noncomputable def tw2509262880022381772:=0
noncomputable def tw3694349835266563984:=0
noncomputable def tw13155613733782200745:=0
noncomputable def tw13077763334921512838:=0
noncomputable def tw8649463104052632702:=0
noncomputable def tw4181804760964416269:=0
noncomputable def tw11770809198378426103:=0
noncomputable def tw11961998637224654850:=0
noncomputable def tw1959808331348941534:=0
noncomputable def tw15269222946218910909:=0
noncomputable def tw1761571263775846595:=0
noncomputable def tw13612108852871308821:=0
noncomputable def tw13228557900523453586:=0
noncomputable def tw2816222079082948625:=0
noncomputable def tw4258782201853882098:=0
noncomputable def tw11431057491937635357:=0
noncomputable def tw8619769347984414005:=0
noncomputable def tw13021043230093729314:=0
noncomputable def tw18443992954061250819:=0
noncomputable def tw1192924175303339394:=0
noncomputable def tw9732331164307799521:=0
noncomputable def tw4678929332721130398:=0
noncomputable def tw18368347769773341698:=0
noncomputable def tw3110113973710927192:=0
noncomputable def tw4970513134150533610:=0
noncomputable def tw284138279900871833:=0
noncomputable def tw14889571182220763393:=0
noncomputable def tw6388035636170372054:=0
noncomputable def tw735154776091352966:=0
noncomputable def tw7565353598351682190:=0
noncomputable def tw10181266158488185516:=0
noncomputable def tw2320274452903460575:=0
noncomputable def tw14631786332051241914:=0
noncomputable def tw16391040114269072323:=0
noncomputable def tw13758558341438423333:=0
noncomputable def tw13007373613025688220:=0
noncomputable def tw8946956342569891540:=0
noncomputable def tw10864281738598987185:=0
noncomputable def tw12404373972522305402:=0
noncomputable def tw1028403399812092611:=0
noncomputable def tw18389570072255188765:=0
noncomputable def tw3100180828059473261:=0
noncomputable def tw5412625159422637569:=0
noncomputable def tw7739932937181641523:=0
noncomputable def tw17847792326248047443:=0
noncomputable def tw4198366728716300095:=0
noncomputable def tw5258083547308958614:=0
noncomputable def tw12018891087888238474:=0
noncomputable def tw12766049760510451521:=0
noncomputable def tw6940145777125346376:=0
noncomputable def tw3993102050198046010:=0
noncomputable def tw13608098374682954064:=0
noncomputable def tw3678837556180646456:=0
noncomputable def tw14415926438594244214:=0
noncomputable def tw6378046175866684735:=0
noncomputable def tw4630769523320614533:=0
noncomputable def tw4024834877532284657:=0
noncomputable def tw5141050745080826285:=0
noncomputable def tw15246216290592458197:=0
noncomputable def tw17965176408289842916:=0
noncomputable def tw3645654282672889541:=0
noncomputable def tw10139047885742093838:=0
noncomputable def tw7391354164796735514:=0
noncomputable def tw12208893107955186568:=0
noncomputable def tw14121352986965368865:=0
noncomputable def tw3702760757706586928:=0
noncomputable def tw16877329992136750151:=0
noncomputable def tw16163602337504444030:=0
noncomputable def tw10347709101337860920:=0
noncomputable def tw17605536509082724110:=0
noncomputable def tw14189551280483739527:=0
noncomputable def tw18308145674085044634:=0
noncomputable def tw10169097471751878452:=0
noncomputable def tw3593103483777357826:=0
noncomputable def tw17829140057096164964:=0
noncomputable def tw16389397600168083868:=0
noncomputable def tw13084106414019100844:=0
noncomputable def tw15385784022663040707:=0
noncomputable def tw13029436146838270931:=0
noncomputable def tw13216967680802930141:=0
noncomputable def tw9410161954913557347:=0
noncomputable def tw16272151346625964619:=0
noncomputable def tw13382756991494240694:=0
noncomputable def tw297183803543743908:=0
noncomputable def tw11035872650238113389:=0
noncomputable def tw8303548808069048286:=0
noncomputable def tw16074045215665671636:=0
noncomputable def tw9317777222904610915:=0
noncomputable def tw5167633578619289169:=0
noncomputable def tw15184772420433366609:=0
noncomputable def tw15966615140042989902:=0
noncomputable def tw12930271336670058427:=0
noncomputable def tw10299323938944580481:=0
noncomputable def tw18443119916468075709:=0
noncomputable def tw12880467877943081569:=0
noncomputable def tw3836994457016689848:=0
noncomputable def tw14473454180377630820:=0
noncomputable def tw10828916968206663001:=0
noncomputable def tw13960169764619505453:=0
noncomputable def tw8066594839679013997:=0
noncomputable def tw3883898522007539228:=0
noncomputable def tw1982923364985880884:=0
noncomputable def tw11257427824981617699:=0
noncomputable def tw54030044080070463:=0
noncomputable def tw4797237790435615361:=0
noncomputable def tw12410093620634957829:=0
noncomputable def tw5915263472115088552:=0
noncomputable def tw13965845157629016039:=0
noncomputable def tw2046717018684722103:=0
noncomputable def tw15660296524557398743:=0
noncomputable def tw18013168707269497179:=0
noncomputable def tw12826739500333203585:=0
noncomputable def tw3395804198921603243:=0
end PySem.W.Fast
set_option Elab.async false
set_option linter.all false
set_option maxRecDepth 100000
set_option maxHeartbeats 4000000
noncomputable section
set_option compiler.extract_closed false
def ℜz0(_:True:=by rfl):True:=⟨⟩
def ℜ0:Lean.Syntax:=ℜz0._auto_1
def ℜz1(_:True:=by decide):True:=⟨⟩
def ℜ1:Lean.Syntax:=ℜz1._auto_1
def ℜz2(_:True:=by first|exact .inl rfl|exact .inr rfl|assumption):True:=⟨⟩
def ℜ2:Lean.Syntax:=ℜz2._auto_1
def ℜz3(_:True:=by intro _;rfl):True:=⟨⟩
def ℜ3:Lean.Syntax:=ℜz3._auto_1
def ℜz4(_:True:=by first|exact Or.inl rfl|exact Or.inr (Or.inl rfl)|exact Or.inr (Or.inr rfl)):True:=⟨⟩
def ℜ4:Lean.Syntax:=ℜz4._auto_1
def ℜz5(_:True:=by with_unfolding_all rfl):True:=⟨⟩
def ℜ5:Lean.Syntax:=ℜz5._auto_1
def ℜz6(_:True:=by decide +kernel):True:=⟨⟩
def ℜ6:Lean.Syntax:=ℜz6._auto_1
namespace L2
open PySem PySem.Spec PyProof.Rows
variable{us:List Value}{x:Str}{u:Value}{C a b:Addr}{o:Option Value}{base h:Heap}{items:Array Value}{P:Program}{w:World}{K:W.Frag}{g':Array GenState}{ch fp:List Addr}{e tg:Expr}{N:List Str}{i j k:Nat}{M:Model}{E Q:Value->Shared->Prop}{s':Shared}{pins:List (Addr×Obj)}{f:Value->Value->Sem Value}{es:List Expr}{g:Int->Int->Int}{body:List Stmt}{pl:Sem Bool}{op':CmpOp}{mA mg:Str->Option Value}{kw:List (Str×Value)}{fd:FuncData}{outer:List Env}{kindOf:Str->Option NameKind}{scope:Scope}
def Jr:=@List.getElem?_eq_getElem
def Js:=@PySem.wpAny_bind
def Jt:=@List.length_map
def Ju:=@List.getElem?_eq_some_iff
def Jv:=@List.length_append
def Jw:=@List.mem_cons
def Jx:=@List.mem_cons_of_mem
def Jy:=@if_neg
def Jz:=@List.getD_eq_getElem?_getD
def J5:=@PySem.Heap.get?_push_of_some
def J6:=@List.getElem?_map
def J7:=@List.mem_cons_self
def J8:=@Nat.le_refl
def J9:=@PySem.wpAny_pure
def JA:=@if_pos
def JC:=@Nat.le_trans
def JD:=@List.size_toArray
def JE:=@List.length_cons
def JF:=@Bool.false_ne_true
def JG:=@List.length_take
def JH:=@List.mem_singleton
def JI:=@List.length_replicate
def JJ:=@Nat.zero_le
def JK:=@PySem.Heap.get?_push_size
def JL:=@PySem.Heap.lt_size
def JM:=@List.getElem_mem
def JN:=@List.map_append
def JO:=@List.not_mem_nil
def JP:=@List.getElem?_append_right
def JQ:=@List.append_assoc
def JR:=@List.mem_append_right
def JS:=@Option.map_eq_some_iff
def JT:=@Nat.lt_of_lt_of_le
def JU:=@Nat.ne_of_lt
def JV:=@decide_eq_false
def JW:=@Int.toNat_natCast
def JX:=@List.getElem?_append_left
def JY:=@List.mem_of_getElem?
def JZ:=@PySem.PassesOwn.never
def J_:=@Array.getElem?_toList
def Ka:=@List.length_drop
def Kb:=@List.take_length
def Kc:=@List.pairwise_cons
def Ke:=@List.map_cons
def Kf:=@Array.getElem?_eq_some_iff
def Kg:=@List.mem_map
def Kh:=@List.length_range
def Ki:=@List.mem_append
def Kj:=@Array.length_toList
def Kk:=@List.replicate_succ
def Kl:=@decide_eq_true
def Km:=@congrArg
def Kn:=@or_false
def Ko:=@List.drop_eq_getElem_cons
def Kp:=@List.take_succ
def Kq:=@PySem.wpAny_holding
def Ks:=@List.append_nil
def Kt:=@PySem.wpAny_mono
def Ku:=@Nat.lt_or_ge
def Kv:=@Nat.lt_of_le_of_lt
def Kw:=@List.take_of_length_le
def Kx:=@PyProof.Rows.boot_isinstance
def Ky:=@List.nodup_cons
def Kz:=@beq_eq_false_iff_ne
def K0:=@List.getElem?_toArray
def K1:=@of_decide_eq_true
def K2:=@PySem.wpAny_callSpecial?_slot
def K4:=@List.getElem?_drop
def K6:=@List.mem_replicate
def K7:=@PySem.W.mg_none_of
def K8:=@Bool.and_eq_true
def K9:=@PySem.wpAny_call_entry
def KA:=@Ne.symm
def KC:=@PySem.Heap.size_push
def KD:=@List.drop_zero
def KG:=@Nat.sub_self
def KH:=@List.take_append_drop
def KI:=@List.map_map
def KJ:=@PyProof.Rows.callWith_type1
def KL:=@List.mem_append_left
def KN:=@List.cons_append
def KO:=@List.pairwise_append
def KP:=@List.eraseIdx_eq_take_drop_succ
def KQ:=@Nat.le_succ
def KR:=@PySem.wpAny_newObj_type
def KU:=@PySem.Heap.SameBut.update
def KW:=@List.length_nil
def KY:=@List.getElem?_eq_none_iff
def KZ:=@Bool.false_eq_true
def K_:=@List.lookup_cons
def La:=@Nat.lt_irrefl
def Lb:=@PySem.sizeLine_eq
def Lc:=@List.mem_range
def Ld:=@PySem.W.mg_of
def Le:=@List.nil_append
def Lf:=@List.getElem?_set_self
def Lg:=@PySem.wpAny_field
def Lh:=@List.length_eraseIdx_of_lt
def Li:=@List.eraseIdx_sublist
def Lj:=@List.pairwise_iff_getElem
def Lk:=@List.mem_or_eq_of_mem_set
def Ll:=@PyProof.Rows.slot_tuple_getitem
def Lm:=@List.length_set
def Ln:=@Nat.not_lt_zero
def Lo:=@List.mem_of_mem_take
def Lp:=@Nat.pow_le_pow_right
def Lq:=@PySem.wpAny_truthy_bool
def Lr:=@List.flatten_cons
def Ls:=@PySem.W.kia_one
def Lu:=@List.all_cons
def Lv:=@PySem.wpAny_typeNameOfWhole_keyiter
def Lw:=@List.mem_map_of_mem
def Ly:=@Nat.lt_succ_self
def Lz:=@if_false
def L3:=@List.range'_succ
def L4:=@List.ext_getElem
def L5:=@List.drop_length
def L6:=@Nat.le_of_lt
def L7:=@Nat.ne_of_gt
def L8:=@PySem.wpAny_Call_Name_kw
def L9:=@List.getElem?_take
def LA:=@PySem.wpAny_passesOwn
def LC:=@PySem.Heap.get?_update_self
def LD:=@List.length_singleton
def LF:=@PySem.F.slot_tuple_iterator_next
def LG:=@List.ext_getElem?
def LH:=@List.pairwise_map
def LI:=@List.getElem?_set_ne
def LJ:=@PySem.call_meets
def LK:=@Array.getElem?_eq_getElem
def LL:=@List.mem_of_mem_drop
def LM:=@List.getElem?_take_of_lt
def LN:=@decide_eq_decide
def LO:=@PySem.wpAny_typeNameOf_keyiter
def LP:=@List.map_set
def LQ:=@List.length_reverse
def LR:=@List.prefix_of_prefix_length_le
def LS:=@PySem.wpAny_getItem_str_slice
def LU:=@List.length_eq_zero_iff
def LV:=@if_true
def LW:=@List.sum_cons
def LX:=@List.forIn_cons
def LY:=@PySem.Obj.data_mapFields
def LZ:=@PySem.Heap.get?_update_other
def L_:=@List.getElem_cons_zero
def Ma:=@Nat.lt_succ_of_lt
def Mb:=@List.flatMap_cons
def Mc:=@List.map_nil
def Me:=@Nat.sub_zero
def Mf:=@Nat.zero_add
def Mg:=@List.set_append_right
def Mh:=@beq_iff_eq
def Mi:=@beq_self_eq_true
def Mj:=@List.getElem?_append
def Ml:=@List.perm_middle
def Mm:=@Array.toArray_toList
def Mn:=@PySem.wpAny_newList
def Mo:=@List.map_take
def Mp:=@Array.toList_append
def Mq:=@List.getElem?_range
def Mr:=@PyProof.Rows.get?_update_seq
def Ms:=@List.range_succ
def Mt:=@PySem.W.KasT.kasWp_bind
def Mw:=@List.mem_filterMap
def Mx:=@Option.isSome_iff_exists
def My:=@Nat.succ_mul
def Mz:=@PySem.wpAny_pyIter_tuple
def M0:=@List.set_cons_zero
def M1:=@PySem.wpAny_setField_rec
def M4:=@not_or
def M5:=@PySem.wpAny_seqItems
def M6:=@PySem.wpAny_setField
def M7:=@List.getElem?_cons_succ
def M8:=@PySem.wpAny_pyIter_enum
def M9:=@PySem.wpAny_dictEntries
def MA:=@List.pairwise_lt_range
def MB:=@Nat.lt_of_succ_lt_succ
def MC:=@List.sum_replicate_nat
def MD:=@PySem.wpAny_standAt
def ME:=@PyProof.Rows.listUpdate_at
def MF:=@PySem.wpAny_attempt
def MG:=@Nat.mul_assoc
def MH:=@List.map_drop
def MI:=@List.mem_reverse
def MJ:=@PySem.Obj.isFreed_of_fields
def MK:=@List.pairwise_reverse
def ML:=@List.mem_iff_getElem?
def MM:=@PySem.wpAny_isOneOf_keyiter
def MN:=@List.singleton_append
def MO:=@PySem.wpAny_execs_nil
def MP:=@Bool.eq_iff_iff
def MQ:=@Option.map_some
def MR:=@PySem.wpAny_loadPart'
def MS:=@PySem.codeAny_builtin
def MT:=@PyProof.Rows.listItems_at
def MU:=@PySem.post_val_or_str
def MV:=@List.reverse_reverse
def MW:=@List.mem_iff_getElem
def MX:=@List.take_append_of_le_length
def MY:=@List.drop_append_of_le_length
def MZ:=@List.filterMap_cons
def M_:=@List.dropWhile_cons
def Na:=@List.reverse_append
def Nb:=@List.toList_toArray
def Nc:=@PySem.F.args_tuple_iterator_next_1
def Nd:=@PySem.wpAny_fieldsOf
def Nf:=@Array.append_empty
def Ng:=@PySem.F.entry_tuple_iterator_next
def Nh:=@Array.getD_eq_getD_getElem?
def Ni:=@decide_eq_true_iff
def Nj:=@Nat.add_sub_cancel
def Nk:=@List.map_replicate
def Nl:=@List.prefix_append
def Nm:=@Int.emod_lt_of_pos
def Nn:=@PySem.Calls.Name_function_global
def Np:=@PySem.wpAny_letOwnedTupleGo_enum
def Nq:=@Array.getElem?_eq_none_iff
def Nr:=@Nat.add_assoc
def Nt:=@PySem.wpAny_pyIter_list
def Nu:=@Array.size_append
def Nv:=@List.take_add_one
def Nx:=@bne_self_eq_false
def Ny:=@Nat.lt_trichotomy
def Nz:=@PySem.wpAny_call
def N0:=@PySem.typeIs_int
def N1:=@PySem.wpAny_binaryOp_repeat_ref
def N2:=@PySem.Calls.call_function_entry
def N3:=@List.exists_mem_of_ne_nil
def N4:=@Nat.not_lt
def N5:=@List.mem_of_find?_eq_some
def N6:=@PySem.wpAny_eqBool_int
def N7:=@PySem.wpAny_eqBool_str
def N8:=@Nat.le_of_eq
def N9:=@PySem.codeAny_mono
def NA:=@PySem.wpAny_comprehension_free
def NB:=@PySem.Heap.size_update
def NC:=@Option.bind_some
def ND:=@Nat.lt_trans
def NF:=@List.Pairwise.imp_of_mem
def NG:=@Nat.min_self
def NH:=@List.map_snd_zip
def NI:=@List.Perm.eq_of_pairwise
def NJ:=@List.zipIdx_cons
def NK:=@List.getElem?_replicate
def NL:=@PySem.wpAny_pyNext_enum_itemD
def NM:=@List.pairwise_singleton
def NN:=@List.of_mem_zip
def NO:=@List.find?_cons
def NQ:=@List.length_zip
def NR:=@PySem.wpAny_dictEpoch
def NS:=@List.find?_some
def NU:=@Int.emod_nonneg
def NV:=@Nat.min_eq_left
def NW:=@PySem.wpAny_pyNext_list_item
def NY:=@PySem.Calls.callWith_builtin
def NZ:=@PySem.wpAny_pyNext_enum_endD
def N_:=@Int.le_refl
def Oa:=@List.length_eq_one_iff
def Ob:=@Int.le_ediv_iff_mul_le
def Oc:=@Array.getElem?_eq_none
def Od:=@Int.pow_pos
def Oe:=@Int.sub_mul
def Of:=@Nat.pow_add
def Og:=@List.dropWhile_sublist
def Oh:=@List.getElem?_eraseIdx
def Oi:=@Bool.false_and
def Ol:=@PySem.W.looks_findIn
def Om:=@PySem.fitsIndex_both
def Oq:=@Array.mem_iff_getElem
def Ot:=@List.take_left
def Ou:=@List.eq_nil_or_concat
def Ov:=@PySem.wpAny_newTuple
def Ow:=@List.countP_mono_left
def Ox:=@List.dropLast_eq_take
def Oy:=@List.getElem?_eq_none
def Oz:=@PySem.wpAny_rule
def O0:=@PySem.W.plainGet_of
def O1:=@List.any_cons
def O3:=@PySem.W.callWith_K
def O4:=@PySem.seqIndex_neg
def O5:=@PySem.callType_new
def O6:=@PySem.wpAny_typeOf
def OA:=@Nat.pow_succ
def OB:=@Int.pow_succ
def OC:=@Nat.le_total
def OD:=@Nat.mul_zero
abbrev Key:=Sum Int Str
noncomputable def Df:Key->Value->Bool
 |.inl k,v=>Value.isInt k v
 |.inr x,v=>Value.isStrOf x v
noncomputable def Il(w:World):Key->Int
 |.inl k=>hashInt k
 |.inr x=>hashStr w x
theorem bE:∀{k:Key} {v:Value},Df k v=true->(∃i t,k=Sum.inl i/\v=Value.int i t)\/(∃x t,k=Sum.inr x/\v=Value.str x t)
 |.inl i,v,h=>by
  obtain⟨t,e⟩:=Value.isInt_shape (k:=i) (v:=v) h;exact .inl ⟨i,t,rfl,e⟩
 |.inr x,v,h=>by
  obtain⟨t,e⟩:=Value.isStrOf_shape (x:=x) (v:=v) h;exact .inr ⟨x,t,rfl,e⟩
def Dk(a b:Int):decide ((Sum.inl a:Key)=Sum.inl b)=(a == b):=by
 by_cases e:a=b
 ·subst e;simp
 ·have h:¬ (Sum.inl a:Key)=Sum.inl b:=λq=>e (Sum.inl.inj q);rw[JV h];exact (Kz.mpr e).symm
def Ea(a b:Str):decide ((Sum.inr a:Key)=Sum.inr b)=decide (a=b):=by
 by_cases e:a=b
 ·subst e;simp
 ·have h:¬ (Sum.inr a:Key)=Sum.inr b:=λq=>e (Sum.inr.inj q);rw[JV h,JV e]
def EY(a:Int)(b:Str):decide ((Sum.inl a:Key)=Sum.inr b)=false:=JV (λq=>nomatch q)
def Ez(a:Str)(b:Int):decide ((Sum.inr a:Key)=Sum.inl b)=false:=JV (λq=>nomatch q)
noncomputable def oX(prog:Program)(w:World):PySem.KeyKind prog w Key where
 is:=Df
 hash:=Il w
 inj:=λv a b ha hb=>by
  rcases bE ha with ⟨i,t,rfl,rfl⟩|⟨x,t,rfl,rfl⟩
  ·rcases bE hb with ⟨j,u,rfl,e⟩|⟨y,u,rfl,e⟩
   ·injection e with e1 _;rw[e1]
   ·exact nomatch e
  ·rcases bE hb with ⟨j,u,rfl,e⟩|⟨y,u,rfl,e⟩
   ·exact nomatch e
   ·injection e with e1 _;rw[e1]
 byValue:=λk v h=>by
  rcases bE h with ⟨i,t,rfl,rfl⟩|⟨x,t,rfl,rfl⟩<;>rfl
 pyHash:=λhv h=>by
  rcases bE hv with ⟨i,t,rfl,rfl⟩|⟨x,t,rfl,rfl⟩
  ·exact wpAny_pyHash_int h
  ·exact wpAny_pyHash_str h
 eqBool:=λhu hv h=>by
  rcases bE hu with ⟨i,t,rfl,rfl⟩|⟨x,t,rfl,rfl⟩
  ·rcases bE hv with ⟨j,u,rfl,rfl⟩|⟨y,u,rfl,rfl⟩
   ·rw[Dk] at h;exact N6 h
   ·rw[EY] at h;exact SeqAt.EqAt.int_str i t y u _ _ _ _ h
  ·rcases bE hv with ⟨j,u,rfl,rfl⟩|⟨y,u,rfl,rfl⟩
   ·rw[Ez] at h;exact SeqAt.EqAt.str_int x t j u _ _ _ _ h
   ·rw[Ea] at h;exact N7 h
 «strs»:=λk x t v h=>by
  rcases bE h with ⟨i,u,rfl,e⟩|⟨y,u,rfl,e⟩
  ·exact nomatch e
  ·injection e with e1 _
   subst e1
   cases v<;>rfl
inductive V where
 |aL|bl (b:Bool)|int (i:Int)|str (x:Str)|qX (b:Array UInt8)|Dq (b:UInt64)|ref (a:Addr)|ty (n:String)
 deriving DecidableEq
variable{xs:List V}
def RelV:V->Value->Prop
 |.aL,u=>u=Value.none
 |.bl b,u=>u=Value.bool b
 |.int i,u=>∃t,u=Value.int i t
 |.str x,u=>∃t,u=Value.str x t
 |.qX b,u=>∃t,u=Value.bytes b t
 |.Dq b,u=>∃t,u=Value.float b t
 |.ref a,u=>u=Value.ref a
 |.ty n,u=>u=Value.type n
abbrev Vals:List V->List Value->Prop:=Paired RelV
def Vals.length(r:Vals xs us):xs.length=us.length:=Paired.length r
theorem Vals.get:∀{xs:List V} {us:List Value} {i:Nat} {x:V},Vals xs us->xs[i]?=some x->∃u,us[i]?=some u/\RelV x u
 |_,_,_,_,.nil,e=>by simp at e
 |_,_,0,_,.cons r _,e=>by simp at e;subst e;exact⟨_,rfl,r⟩
 |_,_,i+1,x,.cons _ t,e=>by
  obtain⟨u,h1,h2⟩:=Vals.get (i:=i) (x:=x) t (by simpa using e)
  exact⟨u,by simpa using h1,h2⟩
theorem Vals.set{x:V}(r:RelV x u):∀{xs:List V} {us:List Value} (i:Nat),Vals xs us->Vals (xs.set i x) (us.set i u)
 |_,_,_,.nil=>.nil
 |_,_,0,.cons _ t=>.cons r t
 |_,_,i+1,.cons q t=>.cons q (Vals.set r i t)
theorem Vals.append:∀{xs ys:List V} {us ws:List Value},Vals xs us->Vals ys ws->Vals (xs++ys) (us++ws)
 |_,_,_,_,.nil,s=>s
 |_,_,_,_,.cons r t,s=>.cons r (Vals.append t s)
theorem Vals.take:∀{xs:List V} {us:List Value} (n:Nat),Vals xs us->Vals (xs.take n) (us.take n)
 |_,_,0,_=>.nil
 |_,_,_+1,.nil=>.nil
 |_,_,n+1,.cons r t=>.cons r (Vals.take n t)
theorem Vals.drop:∀{xs:List V} {us:List Value} (n:Nat),Vals xs us->Vals (xs.drop n) (us.drop n)
 |_,_,0,r=>r
 |_,_,_+1,.nil=>.nil
 |_,_,n+1,.cons _ t=>Vals.drop n t
def my:Option V->Option Value->Prop
 |some v,some u=>RelV v u
 |none,none=>True
 |_,_=>False
def KV{κ:Type}:List (κ×V)->List (κ×Value)->Prop:=Paired λ(p:κ×V) (q:κ×Value)=>p.1=q.1/\RelV p.2 q.2
noncomputable def kV:Key->V
 |.inl i=>.int i
 |.inr x=>.str x
inductive HO where
 |lst (xs:List V)
 |tup (xs:List V)
 |dK (kvs:List (Key×V))|dT (kvs:List (List Key×V))
 |set (S:Int->Bool) (n:Nat)
 |ins (C dx:Addr) (fs:List (Str×V))
 |own (x:Addr)
 |xd (fs:List (Str×V))
 |met (f x:Addr)
 |pd (lo hi:Int)
 |ik (o:Obj) (u:HO)
 |wW (ps:Array Value)
 |ext (φ:Heap->Prop)
abbrev Hp:=Addr->Option HO
variable{H:Hp}
noncomputable def upd(H:Hp)(a:Addr)(o:HO):Hp:=λb=>if b=a then some o else H b
def aa{o:HO}:upd H a o a=some o:=by unfold upd;rw[JA rfl]
def ak{o:HO}(h:b≠a):upd H a o b=H b:=by unfold upd;rw[Jy h]
def oK{o u:HO}:upd (upd H a o) a u=upd H a u:=by
 funext b;unfold upd;split<;>rfl
def af{o:HO}(h:H a=some o)(h':H b=none):a≠b:=by
 intro e;subst e;rw[h] at h';cases h'
noncomputable def Ip:List Value->Str
 |.str q _::_=>q
 |_=>Str.ofString ""
def xi(ps:Array Value):Str:=Ip ps.toList
def CN(H:Hp)(q:Str)(cv:Value):Prop:=∃(c:Addr) (oc:Obj) (vs:Array Value) (t:Tok),cv=.ref c/\H c=some (.ik oc (.own c))/\oc.data=.fields vs/\vs[1]?=some (.str q t)
def ee(h:Heap)(a:Addr)(items:Array Value):Prop:=∃o:Obj,h.get? a=some o/\o.cls=.type "tuple"/\∃n,o.data=.seq items n/\o.dict=none
def ee.to(x:ee h a items):IsTup h a items:=let ⟨o,e,c,n,d,_⟩:=x;⟨o,e,c,n,d⟩
def ee.new(h:Heap)(items:Array Value):ee (h.push {cls:=.type "tuple",data:=.seq items}) h.objs.size items:=⟨_,JK h rfl,rfl,_,rfl,rfl⟩
def ee.lt(x:ee h a items):a<h.objs.size:=x.to.lt
section
variable (P:Program) (w:World)
def b7(H:Hp)(h:Heap)(a:Addr):HO->Prop
 |.lst xs=>xs.length<=sizeLine/\∃(its:List Value) (n:Nat),Vals xs its/\h.get? a=some {cls:=.type "list",data:=.seq its.toArray n}
 |.tup xs=>xs.length<=sizeLine/\∃its:List Value,Vals xs its/\ee h a its.toArray
 |.dK kvs=>kvs.length<=sizeLine/\(a == sysModules)=false/\∃vs,KV kvs vs/\h.DictOf (oX P w) a vs
 |.dT kvs=>kvs.length<=sizeLine/\(a == sysModules)=false/\∃xs:List (List Key×Addr×Value),
   Paired (λ(p:List Key×V) (q:List Key×Addr×Value)=>p.1=q.1/\H q.2.1=some (.tup (p.1.map kV))/\RelV p.2 q.2.2) kvs xs /\
   ∃o es ep,h.get? a=some o/\o.ExactDict/\o.data=.dict es ep/\es.toList=xs.map (entryOfKey (tupleKind (oX P w)))/\(xs.map (·.1)).Nodup
 |.set S n=>h.SetOf (intKind P w) a S n
 |.ins C dx fs=>H dx=some (.own a)/\fs.length<=1000/\dx≠a/\h.get? a=some (W.instObj C dx) /\
   ∃mA,h.Ns1 dx mA/\(∀f,my (fs.lookup f) (mA f))/\PySem.Within mA (fs.map (·.1))
 |.own _=>∃o,h.get? a=some o
 |.xd fs=>∃mA,h.Ns1 a mA/\∀f,my (fs.lookup f) (mA f)
 |.pd lo hi=>∃t u v,h.get? a=some {cls:=.type "range",data:=.fields #[.int lo t,.int hi u,.int 1 v]}
 |.ik o u=>h.get? a=some o/\b7 H h a u
 |.wW ps=>∃qs:Array Value,h.get? a=some {cls:=.none,data:=.fields qs}/\TriplesOk qs.toList/\∀pos cv,codeAmong pos qs.toList=some cv->CN H (xi ps) cv
 |.met f x=>h.get? a=some (W.methodObj (.ref f) (.ref x))
 |.ext φ=>φ h/\(∃o,h.get? a=some o)/\∀h1 h2:Heap,φ h1->(∀o,h1.get? a=some o->h2.get? a=some o)->φ h2
def gQ(H:Hp)(h:Heap):Prop:=∀a o,H a=some o->b7 P w H h a o
end
section
variable {P:Program} {w:World} {H H':Hp} {h h':Heap} {a:Addr} {o:HO}
def b7.lt(x:b7 P w H h a o):a<h.objs.size:=by
 cases o with
 |lst xs=>obtain⟨_,_,_,_,e⟩:=x;exact JL e
 |tup xs=>obtain⟨_,_,_,p⟩:=x;exact p.lt
 |dK kvs=>obtain⟨_,_,_,_,o,_,_,e,_⟩:=x;exact JL e
 |dT kvs=>obtain⟨_,_,_,_,o,_,_,e,_⟩:=x;exact JL e
 |set S n=>obtain⟨o,_,_,_,e,_⟩:=x;exact JL e
 |ins C dx fs=>obtain⟨_,_,_,e,_⟩:=x;exact JL e
 |own y=>obtain⟨_,e⟩:=x;exact JL e
 |xd fs=>obtain⟨_,⟨_,_,_,e,_⟩,_⟩:=x;exact JL e
 |pd lo hi=>obtain⟨_,_,_,e⟩:=x;exact JL e
 |ik ob u=>obtain⟨e,_⟩:=x;exact JL e
 |wW ps=>obtain⟨_,e,_⟩:=x;exact JL e
 |met f y=>exact JL (show h.get? a=some _ from x)
 |ext φ=>obtain⟨_,⟨_,e⟩,_⟩:=x;exact JL e
theorem Paired.BZ{α β:Type}{F G:α->β->Prop}:∀{l₁:List α} {l₂:List β},Paired F l₁ l₂->(∀a b,F a b->G a b)->Paired G l₁ l₂
 |_,_,.nil,_=>.nil
 |_,_,.cons r t,f=>.cons (f _ _ r) (Paired.BZ t f)
def b7.jI(x:b7 P w H h a o)(k:∀b u,(b=a\/H b=some (.own a))->h.get? b=some u->h'.get? b=some u)
  (ho:∀b,H b=some (.own a)->H' b=some (.own a)) (ht:∀b xs,H b=some (.tup xs)->H' b=some (.tup xs)) (hz:∀b o u,H b=some (.ik o u)->H' b=some (.ik o u)):b7 P w H' h' a o:=by
 induction o with
 |lst xs=>obtain⟨z,its,n,r,e⟩:=x;exact⟨z,its,n,r,k _ _ (.inl rfl) e⟩
 |tup xs=>obtain⟨z,its,r,ob,e,c⟩:=x;exact⟨z,its,r,ob,k _ _ (.inl rfl) e,c⟩
 |dK kvs=>obtain⟨z,y,vs,r,ob,es,ep,e,c⟩:=x;exact⟨z,y,vs,r,ob,es,ep,k _ _ (.inl rfl) e,c⟩
 |dT kvs =>
  obtain⟨z,y,xs,r,ob,es,ep,e,c⟩:=x;exact⟨z,y,xs,Paired.BZ r λp q z=>⟨z.1,ht _ _ z.2.1,z.2.2⟩,ob,es,ep,k _ _ (.inl rfl) e,c⟩
 |set S n=>obtain⟨ob,es,ep,t,e,c⟩:=x;exact⟨ob,es,ep,t,k _ _ (.inl rfl) e,c⟩
 |ins C dx fs =>
  obtain⟨d,z,ne,e,mA,⟨od,es,ep,e2,c⟩,r⟩:=x;exact⟨ho _ d,z,ne,k _ _ (.inl rfl) e,mA,⟨od,es,ep,k _ _ (.inr d) e2,c⟩,r⟩
 |own y=>obtain⟨ob,e⟩:=x;exact⟨ob,k _ _ (.inl rfl) e⟩
 |xd fs=>obtain⟨mA,⟨od,es,ep,e,c⟩,r⟩:=x;exact⟨mA,⟨od,es,ep,k _ _ (.inl rfl) e,c⟩,r⟩
 |pd lo hi=>obtain⟨t,u,v,e⟩:=x;exact⟨t,u,v,k _ _ (.inl rfl) e⟩
 |ik ob u ih=>obtain⟨e,q⟩:=x;exact⟨k _ _ (.inl rfl) e,ih q⟩
 |wW ps =>
  obtain⟨qs,e,t,f⟩:=x;exact⟨qs,k a _ (.inl rfl) e,t,λpos cv q=>let ⟨c,oc,vs,t',e1,e2,e3⟩:=f pos cv q;⟨c,oc,vs,t',e1,hz _ _ _ e2,e3⟩⟩
 |met f y =>
  have e:h.get? a=some (W.methodObj (.ref f) (.ref y)):=x;show h'.get? a=some (W.methodObj (.ref f) (.ref y));exact k a _ (.inl rfl) e
 |ext φ=>obtain⟨p,⟨o,e⟩,st⟩:=x;exact⟨st _ _ p λo q=>k _ _ (.inl rfl) q,⟨o,k _ _ (.inl rfl) e⟩,st⟩
def gQ.lt(x:gQ P w H h)(e:H a=some o):a<h.objs.size:=(x a o e).lt
def gQ.fresh(x:gQ P w H h)(e:h.objs.size<=a):H a=none:=by
 cases q:H a with
 |none=>rfl
 |some u=>exact absurd (JT (x.lt q) e) (La _)
def gQ.kept(x:gQ P w H h)(k:∀b u,h.get? b=some u->h'.get? b=some u):gQ P w H h':=λa o e =>
 (x a o e).jI (λb u _ q=>k b u q) (λ_ q=>q) (λ_ _ q=>q) λ_ _ _ q=>q
def gQ.laid(x:gQ P w H h)(k:∀b u,h.get? b=some u->h'.get? b=some u)(hp:h.objs.size<=a)(new:b7 P w (upd H a o) h' a o):gQ P w (upd H a o) h':=λb u e=>by
 have hn:=x.fresh hp;by_cases hb:b=a
 ·subst hb;rw[aa] at e;cases e;exact new
 ·rw[ak hb] at e;exact (x b u e).jI (λc v _ q=>k c v q) (λc q=>by rw[ak (af q hn)];exact q) (λc xs q=>by rw[ak (af q hn)];exact q) λc _ _ q=>by rw[ak (af q hn)];exact q
end
def Rd(H:Hp)(a:Addr)(u:HO):Prop:=H a=some u\/∃o,H a=some (.ik o u)
def Rd.ok{u:HO}(r:Rd H a u)(x:gQ P w H h):b7 P w H h a u:=by
 rcases r with r|⟨o,r⟩
 ·exact x a u r
 ·obtain⟨_,q⟩:=x a _ r;exact q
def HE:Option HO->Prop
 |some (.lst _)=>True
 |some (.dK _)=>True
 |some (.dT _)=>True
 |some (.set _ _)=>True
 |some (.ins _ _ _)=>True
 |some (.ext _)=>True
 |_=>False
section
variable {P:Program} {w:World} {H:Hp} {h h':Heap} {x e:Addr} {o':HO}
def gQ.write(ok:gQ P w H h)(mu:HE (H x))(he:e=x\/H e=some (.own x))(k:∀b u,b≠e->h.get? b=some u->h'.get? b=some u)(heo:∃u,h'.get? e=some u)
  (new:b7 P w (upd H x o') h' x o'):gQ P w (upd H x o') h':=λb u q=>by
 have nown:∀c y,H c=some (.own y)->c≠x:=λc y r z=>by subst z;rw[r] at mu;exact mu
 have ntup:∀c xs,H c=some (.tup xs)->c≠x:=λc xs r z=>by subst z;rw[r] at mu;exact mu
 have nfrz:∀c o1 u1,H c=some (.ik o1 u1)->c≠x:=λc _ _ r z=>by subst z;rw[r] at mu;exact mu
 by_cases hb:b=x
 ·subst hb;rw[aa] at q;cases q;exact new
 ·rw[ak hb] at q;by_cases hbe:b=e
  ·have q':H b=some (.own x):=by
    rcases he with z|z
    ·exact absurd (hbe.trans z) hb
    ·rw[hbe];exact z
   rw[q] at q';cases q';obtain⟨v,hv⟩:=heo;exact⟨v,by rw[hbe];exact hv⟩
  ·refine (ok b u q).jI (λc v hc r=>k c v ?_ r) (λc r=>by rw[ak (nown c b r)];exact r) (λc xs r=>by rw[ak (ntup c xs r)];exact r) λc _ _ r=>by rw[ak (nfrz c _ _ r)];exact r
   rcases hc with rfl|hc
   ·exact hbe
   ·rintro rfl;rcases he with z|z
    ·exact nown c b hc z
    ·rw[hc] at z;cases z;exact hb rfl
end
structure Un (fs ex:List Addr) (H H':Hp) (h h':Heap):Prop where
 keep:∀b o,h.get? b=some o->H b=none->b∉fs->b∉ex->h'.get? b=some o
 slot:∀b o,h.get? b=some o->H b=none->b∈fs->b∉ex->∃sl,h'.get? b=some {o with slots:=sl}
 free:∀b o,h.get? b=some o->H b=none->b∉ex->H' b=none
 there:∀b o,h.get? b=some o->b∉ex->∃o',h'.get? b=some o'
 ka:∀b xs,H b=some (.tup xs)->H' b=some (.tup xs)
 jB:∀b o u,H b=some (.ik o u)->H' b=some (.ik o u)
 ja:∀b ps,H b=some (.wW ps)->∃more,H' b=some (.wW (ps++more))
section
variable {fs fs' ex ex':List Addr} {H H1 H2:Hp} {h h1 h2 h':Heap} {a x e:Addr} {o:HO}
def Un.any(u:Un fs ex H H1 h h1){ob:Obj}(q:h.get? b=some ob)(n:H b=none)(hx:b∉ex):∃sl,h1.get? b=some {ob with slots:=sl}:=by
 by_cases hb:b∈fs
 ·exact u.slot b ob q n hb hx
 ·exact⟨ob.slots,u.keep b ob q n hb hx⟩
def Un.kept(k:∀b u,h.get? b=some u->h'.get? b=some u):Un fs ex H H h h':=
 ⟨λb ob q _ _ _=>k b ob q,λb ob q _ _ _=>⟨ob.slots,k b ob q⟩,λ_ _ _ n _=>n,λb ob q _=>⟨ob,k b ob q⟩,λ_ _ q=>q,λ_ _ _ q=>q,λ_ ps q=>⟨#[],by rw[q];simp⟩⟩
def Un.refl:Un fs ex H H h h:=Un.kept λ_ _ q=>q
def Un.laid(k:∀b u,h.get? b=some u->h'.get? b=some u)(hp:h.objs.size<=a)(hn:H a=none):Un fs ex H (upd H a o) h h' where
 keep:=λb u q _ _ _=>k b u q
 slot:=λb u q _ _ _=>⟨u.slots,k b u q⟩
 free:=λb u q n _=>by rw[ak (JU (JT (JL q) hp))];exact n
 there:=λb u q _=>⟨u,k b u q⟩
 ka:=λb xs q=>by rw[ak (af q hn)];exact q
 jB:=λb u xs q=>by rw[ak (af q hn)];exact q
 ja:=λb ps q=>⟨#[],by rw[ak (af q hn),q];simp⟩
def Un.write(mu:HE (H x))(he:e=x\/H e=some (.own x))(k:∀b u,b≠e->h.get? b=some u->h'.get? b=some u)(heo:∃u,h'.get? e=some u):Un fs ex H (upd H x o) h h':=by
 have hx:∀b,H b=none->b≠x:=λb n z=>by subst z;rw[n] at mu;exact mu
 have hb:∀b,H b=none->b≠e:=λb n z=>by
  subst z;rcases he with r|r
  ·exact hx b n r
  ·rw[n] at r;cases r
 have hm:∀b u,H b=some u->¬ HE (some u)->b≠x:=λb u q nm z=>by subst z;rw[q] at mu;exact nm mu
 refine⟨λb u q n _ _=>k b u (hb b n) q,λb u q n _ _=>⟨u.slots,k b u (hb b n) q⟩,λb u q n _=>by rw[ak (hx b n)];exact n,λb u q _=>?_,
  λb xs q=>by rw[ak (hm b _ q λz=>z)];exact q,λb u xs q=>by rw[ak (hm b _ q λz=>z)];exact q,λb ps q=>⟨#[],by rw[ak (hm b _ q λz=>z),q];simp⟩⟩
 by_cases hbe:b=e
 ·subst hbe;exact heo
 ·exact⟨u,k b u hbe q⟩
end
noncomputable def HM(h:Heap)(H:Hp):List Addr:=(List.range h.objs.size).filter λa=>(H a).isSome
def mw(h:Heap)(H:Hp):Heap:=W.hideAll h (HM h H)
def uY(h:Heap)(H:Hp):(mw h H).objs.size=h.objs.size:=W.hideAll_size _ _
def iq{o:Obj}(e:h.get? b=some o)(n:H b=none):(mw h H).get? b=some o:=
 W.hideAll_get _ e λhm=>by
  have q:(H b).isSome=true:=(List.mem_filter.mp hm).2;rw[n] at q;simp at q
def Bl{o:Obj}(e:(mw h H).get? b=some o):h.get? b=some o/\H b=none:=by
 have e':h.get? b=some o:=W.of_hideAll (HM h H) e;refine⟨e',?_⟩
 cases q:H b with
 |none=>rfl
 |some x =>
  have hm:b∈HM h H:=List.mem_filter.mpr ⟨Lc.mpr (JL e'),by simp[q]⟩
  have z:(mw h H).get? b=none:=W.hideAll_none (HM h H) hm;rw[z] at e;cases e
noncomputable def Cf(g h:Heap)(L:Addr):List (Addr×Obj):=(List.range h.objs.size).filterMap λa=>if a=L\/(g.get? a).isSome=true then none else (h.get? a).map λo=>(a,o)
def rest(g h:Heap)(L d:Addr):List (Addr×Obj):=(Cf g h L).filter λp=>decide (p.1≠d)
noncomputable def eE:List Str:=["by_worth","by_weight","code_of"]
def bU(K:W.Frag):List (Addr×Addr×Str):=eE.filterMap λx=>(W.tabIn K x).map λp=>(p.1,p.2,(x++".<locals>.")++"<lambda>")
def TabsOk(K:W.Frag)(H:Hp):Prop:=∀t∈bU K,∃more,H t.2.1=some (.wW (#[.str t.2.2 0]++more))
def TabsOk.un{fs ex:List Addr}{H1:Hp}{h1:Heap}(x:TabsOk K H)(u:Un fs ex H H1 h h1):TabsOk K H1:=λt ht=>by
 obtain⟨m,e⟩:=x t ht;obtain⟨m2,e2⟩:=u.ja _ _ e;exact⟨m++m2,by rw[e2,Array.append_assoc]⟩
def Fj(mg:Str->Option Value)(h:Heap):Prop:=∃bm ob,mg "__builtins__"=some (.ref bm)/\bm≠builtinsNs/\h.get? bm=some ob/\ob.cls=.type "module"/\ob.dict=some builtinsNs/\ob.data=.plain
structure Mod (K:W.Frag) (mg:Str->Option Value) (base:Heap):Prop where
 uF:K.In base
 glob:base.Ns mainGlobals mg
 blt:∃mb,base.Ns builtinsNs mb/\∀x:Str,x≠"__name__"->mb x=bootBuiltins x
 nolimit:base.NoLimit
 codes:∀t∈bU K,W.CodeHd base t.1 t.2.1
 bm:Fj mg base
structure Cx where
 prog:Program
 w:World
 K:W.Frag
 mg:Str->Option Value
 base:Heap
 A:Around
 N:List Str
 s₀:Shared
 H₀:Hp
 env:Env
 outer:List Env
 stack:List Env
 ex:List Addr
 fn:Str->Bool
 calm:Bool
 pn:List (Addr×Obj)
 xe:Value->Shared->Prop
variable{X:Cx}
noncomputable def jo(l:List Env):List Addr:=l.filterMap (·.frame)
abbrev Cx.fs(X:Cx):List Addr:=jo X.outer
def Hc(sc:Scope)(x:Str):Prop:=sc.names.lookup x=some .local\/sc.names.lookup x=some .cell\/sc.names.lookup x=some .free
def Loc(sc:Scope)(x:Str):Prop:=sc.names.lookup x=some .local\/sc.names.lookup x=some .cell
def Look(env:Env)(h:Heap)(m:Str->Option Value)(x:Str)(u:Value):Prop:=
 (env.kindOf x=some .local/\m x=some u)\/((env.kindOf x=some .cell\/env.kindOf x=some .free)/\∃c,env.cells.lookup x=some c/\h.IsCell c (some u))
structure Cx.Ok (X:Cx):Prop where
 mod:Mod X.K X.mg X.base
 kind:X.env.scope.kind=.function
 glob:X.env.globals=mainGlobals
 blt:X.env.builtins=builtinsNs
 above:X.s₀.heap.objs.size<=X.env.locals
 inj:∀x y c,X.env.cells.lookup x=some c->X.env.cells.lookup y=some c->x=y
 has:∀x,(X.env.kindOf x=some .cell\/X.env.kindOf x=some .free)->∃c,X.env.cells.lookup x=some c
 AA:∀x c,X.fn x=true->X.env.cells.lookup x=some c->X.s₀.heap.objs.size<=c
 hd:X.calm=true->X.A.handled=none
 frames:X.A.frames=some X.stack
 CU:X.stack=X.outer\/(X.stack=X.env::X.outer/\X.env.frame=some X.env.locals)
 FJ:∀b∈X.ex,b≠X.env.locals/\∀x c,X.env.cells.lookup x=some c->c≠b
 bs:∀b o,X.base.get? b=some o->X.s₀.heap.get? b=some o/\X.H₀ b=none
 tU:X.base.objs.size<=X.s₀.heap.objs.size
 om:∀b o,X.base.get? b=some o->b∉X.ex
 pJ:∀b∈X.ex,b∉X.fs
 gS:X.s₀.heap.FunFrames X.base X.outer
 yK:∀b∈X.fs,X.H₀ b=none
 tabs:TabsOk X.K X.H₀
structure Inv (X:Cx) (pins:List (Addr×Obj)) (σ:List (Option V)) (H:Hp) (s:Shared):Prop where
 ok:X.Ok
 os:s.os=X.s₀.os
 bare:AllBare s.gens
 base:Un X.fs X.ex X.H₀ H X.s₀.heap s.heap
 loc:∃m,s.heap.Ns X.env.locals m/\∀(i:Nat) (x:Str) (v:V),X.N[i]?=some x->σ[i]?=some (some v)->Hc X.env.scope x->∃u,RelV v u/\Look X.env s.heap m x u
 cell:∀x c,X.env.cells.lookup x=some c->∃v,s.heap.IsCell c v
 free:H X.env.locals=none
 cO:∀x c,X.env.cells.lookup x=some c->H c=none
 pin:∀p∈X.pn++pins,s.heap.get? p.1=some p.2/\H p.1=none/\p.1≠X.env.locals/\p.1∉X.fs/\∀v,p.2.data≠.cell v
 aP:gQ X.prog X.w H s.heap
 len:σ.length=X.N.length
section
variable {X:Cx} {pins:List (Addr×Obj)} {σ:List (Option V)} {H H':Hp} {s:Shared} {h':Heap}
def Cx.Ok.Ig(ok:X.Ok){o:Obj}(e:X.base.get? b=some o):b∉X.fs:=λhb=>by
 have:=(ok.gS.mem hb).1;rw[e] at this;cases this
def Inv.bs(I:Inv X pins σ H s):∀b o,X.base.get? b=some o->s.heap.get? b=some o/\H b=none:=λb o e =>
 ⟨I.base.keep b o (I.ok.bs b o e).1 (I.ok.bs b o e).2 (I.ok.Ig e) (I.ok.om b o e),I.base.free b o (I.ok.bs b o e).1 (I.ok.bs b o e).2 (I.ok.om b o e)⟩
def Inv.bk(I:Inv X pins σ H s):∀b o,X.base.get? b=some o->s.heap.get? b=some o:=λb o e=>(I.bs b o e).1
def Inv.mod(I:Inv X pins σ H s):Mod X.K X.mg X.base:=I.ok.mod
def Inv.fm(I:Inv X pins σ H s):X.K.In s.heap:=I.ok.mod.uF.keeps I.bk
def Inv.nolimit(I:Inv X pins σ H s):s.heap.NoLimit:=I.ok.mod.nolimit.keeps I.bk
def Inv.lt(I:Inv X pins σ H s):X.env.locals<s.heap.objs.size:=let ⟨_,hn,_⟩:=I.loc;hn.lt
def Inv.sz(I:Inv X pins σ H s):X.s₀.heap.objs.size<=s.heap.objs.size:=JC I.ok.above (L6 I.lt)
def Inv.GV(I:Inv X pins σ H s)(h:s.heap.objs.size<=a):a∉X.fs:=λhb=>by
 obtain⟨_,o,ho,_⟩:=I.ok.gS.mem hb;exact absurd (JT (JL ho) (JC I.sz h)) (La _)
def Inv.vJ(I:Inv X pins σ H s):∀x c,X.env.cells.lookup x=some c->c≠X.env.locals:=λx c e z=>by
 obtain⟨v,o,ho,hd⟩:=I.cell x c e;obtain⟨m,⟨o',es,ep,ho',hd',_⟩,_⟩:=I.loc;rw[z,ho'] at ho;cases ho;rw[hd'] at hd;cases hd
def Inv.gS(I:Inv X pins σ H s):s.heap.FunFrames X.base X.outer:=by
 have all:∀(l:List Env),(∀b∈jo l,b∈X.fs)->X.s₀.heap.FunFrames X.base l->s.heap.FunFrames X.base l:=by
  intro l
  induction l with
  |nil=>intro _ _;trivial
  |cons env r ih =>
   intro hs hl;obtain⟨hk,⟨L,o,hf,hn,ho,hd⟩,hr⟩:=hl;have hL:L∈X.fs:=hs L (by unfold jo;rw[MZ,hf];exact J7)
   obtain⟨sl,e⟩:=I.base.slot L o ho (I.ok.yK L hL) hL λz=>I.ok.pJ L z hL;exact⟨hk,⟨L,_,hf,hn,e,hd⟩,ih (λb hb=>hs b (by unfold jo;rw[MZ,hf];exact Jx _ hb)) hr⟩
 exact all X.outer (λ_ hb=>hb) I.ok.gS
def Inv.stack(I:Inv X pins σ H s):s.heap.FunFrames X.base X.stack:=by
 rcases I.ok.CU with e|⟨e,hf⟩
 ·rw[e];exact I.gS
 ·rw[e];obtain⟨m,hn,_⟩:=I.loc;refine .cons (by rw[I.ok.kind];decide) hf hn ?_ I.gS
  exact Heap.get?_none_of_le (JC I.ok.tU I.ok.above)
def Inv.kr(I:Inv X pins σ H s):∀b∈jo X.stack,b∈X.env.locals::X.fs:=λb hb=>by
 rcases I.ok.CU with e|⟨e,hf⟩
 ·rw[e] at hb;exact Jx _ hb
 ·rw[e] at hb;unfold jo at hb;rw[MZ,hf] at hb;exact hb
def Inv.jT(I:Inv X pins σ H s):∀b∈jo X.stack,H b=none:=λb hb=>by
 rcases Jw.mp (I.kr b hb) with e|hb
 ·rw[e];exact I.free
 ·obtain⟨_,o,ho,_⟩:=I.ok.gS.mem hb;exact I.base.free b o ho (I.ok.yK b hb) λz=>I.ok.pJ b z hb
def Inv.step{t':Nat}{d':Drawn}(I:Inv X pins σ H s)
  (hch:∀b∈ch,(b∈X.ex\/X.s₀.heap.objs.size<=b)/\b≠X.env.locals/\(∀x c,X.env.cells.lookup x=some c->c≠b)/\∀p∈X.pn++pins,p.1≠b)
  (keep:∀b o,b≠X.env.locals->b∉X.fs->b∉ch->s.heap.get? b=some o->H b=none->h'.get? b=some o)
  (slot:∀b o,b≠X.env.locals->b∈X.fs->b∉ch->s.heap.get? b=some o->H b=none->∃sl,h'.get? b=some {o with slots:=sl}) (free:∀b o,b∉ch->s.heap.get? b=some o->H b=none->H' b=none)
  (there:∀b o,b∉ch->s.heap.get? b=some o->∃o',h'.get? b=some o')
  (ka:∀b xs,H b=some (.tup xs)->H' b=some (.tup xs)) (jB:∀b o u,H b=some (.ik o u)->H' b=some (.ik o u)) (ja:∀b ps,H b=some (.wW ps)->∃more,H' b=some (.wW (ps++more)))
  (ns:∀m,s.heap.Ns X.env.locals m->h'.Ns X.env.locals m) (aP:gQ X.prog X.w H' h') (hg:AllBare g') :
  Inv X pins σ H' {s with heap:=h',gens:=g',drawn:=d',toks:=t'}:=by
 have neL:∀b o,X.s₀.heap.get? b=some o->b≠X.env.locals:=λb o e=>JU (JT (JL e) I.ok.above);have neC:∀b o,X.s₀.heap.get? b=some o->b∉X.ex->b∉ch:=λb o e hx hb=>by
  rcases (hch b hb).1 with z|z
  ·exact hx z
  ·exact absurd (JT (JL e) z) (La _)
 have cellK:∀x c,X.env.cells.lookup x=some c->∀v,s.heap.IsCell c v->h'.IsCell c v:=λx c e v ⟨o,ho,hd⟩=>by
  have nch:c∉ch:=λz=>(hch c z).2.2.1 x c e rfl;by_cases hc:c∈X.fs
  ·obtain⟨sl,q⟩:=slot c o (I.vJ x c e) hc nch ho (I.cO x c e);exact⟨_,q,hd⟩
  ·exact⟨o,keep c o (I.vJ x c e) hc nch ho (I.cO x c e),hd⟩
 refine⟨I.ok,I.os,hg,⟨λb o e n hb hx=>?_,λb o e n hb hx=>?_,λb o e n hx=>?_,λb o e hx=>?_,λb xs e=>ka b xs (I.base.ka b xs e),λb o xs e=>jB b o xs (I.base.jB b o xs e),λb ps e=>?_⟩,?_,λx c e=>?_,?_,λx c e=>?_,λp hp=>?_,aP,I.len⟩
 ·exact keep b o (neL b o e) hb (neC b o e hx) (I.base.keep b o e n hb hx) (I.base.free b o e n hx)
 ·obtain⟨sl,e1⟩:=I.base.slot b o e n hb hx;obtain⟨sl',e2⟩:=slot b _ (neL b o e) hb (neC b o e hx) e1 (I.base.free b o e n hx);exact⟨sl',e2⟩
 ·obtain⟨o',e1⟩:=I.base.there b o e hx;exact free b o' (neC b o e hx) e1 (I.base.free b o e n hx)
 ·obtain⟨o',e1⟩:=I.base.there b o e hx;exact there b o' (neC b o e hx) e1
 ·obtain⟨m1,e1⟩:=I.base.ja b ps e;obtain⟨m2,e2⟩:=ja b _ e1;exact⟨m1++m2,by rw[e2,Array.append_assoc]⟩
 ·obtain⟨m,hn,hl⟩:=I.loc;refine⟨m,ns m hn,λi x v e1 e2 e3=>?_⟩;obtain⟨u,r,l⟩:=hl i x v e1 e2 e3;refine⟨u,r,?_⟩;rcases l with l|⟨k,c,e,z⟩
  ·exact .inl l
  ·exact .inr ⟨k,c,e,cellK x c e _ z⟩
 ·obtain⟨v,z⟩:=I.cell x c e;exact⟨v,cellK x c e v z⟩
 ·obtain⟨m,⟨o,_,_,ho,_⟩,_⟩:=I.loc;exact free _ o (λz=>(hch _ z).2.1 rfl) ho I.free
 ·obtain⟨v,o,ho,hd⟩:=I.cell x c e;exact free c o (λz=>(hch c z).2.2.1 x c e rfl) ho (I.cO x c e)
 ·obtain⟨e,n,ne,nf,d⟩:=I.pin p hp;have nch:p.1∉ch:=λz=>(hch p.1 z).2.2.2 p hp rfl;exact⟨keep p.1 p.2 ne nf nch e n,free p.1 p.2 nch e n,ne,nf,d⟩
def Inv.un{t':Nat}(I:Inv X pins σ H s)(u:Un X.fs [] H H' s.heap h')(aP:gQ X.prog X.w H' h'):Inv X pins σ H' {s with heap:=h',toks:=t'}:=by
 obtain⟨m,⟨o,es,ep,ho,r⟩,_⟩:=id I.loc;obtain⟨sl,hL⟩:=u.any ho I.free (by simp)
 exact I.step (g':=s.gens) (d':=s.drawn) (ch:=[]) (λ_ z=>nomatch z) (λb o _ hb _ e n=>u.keep b o e n hb (by simp)) (λb o _ hb _ e n=>u.slot b o e n hb (by simp)) (λb o _ e n=>u.free b o e n (by simp)) (λb o _ e=>u.there b o e (by simp)) u.ka u.jB u.ja (λm' hm=>by
  obtain⟨o',es',ep',ho',r'⟩:=hm;rw[ho] at ho';cases ho';exact⟨_,es',ep',hL,r'⟩) aP I.bare
def Inv.call{t':Nat}{d':Drawn}{ch:List Addr}(I:Inv X pins σ H s)(u:Un (jo X.stack) ch H H' s.heap h')(aP:gQ X.prog X.w H' h')(hg:AllBare g')
  (hch:∀b∈ch,(b∈X.ex\/X.s₀.heap.objs.size<=b)/\b≠X.env.locals/\(∀x c,X.env.cells.lookup x=some c->c≠b)/\∀p∈X.pn++pins,p.1≠b) :
  Inv X pins σ H' {s with heap:=h',gens:=g',drawn:=d',toks:=t'}:=by
 obtain⟨m,⟨o,es,ep,ho,r⟩,_⟩:=id I.loc;obtain⟨sl,hL⟩:=u.any ho I.free λz=>(hch _ z).2.1 rfl;exact I.step (ch:=ch) hch (λb o hL hb hc e n=>u.keep b o e n (λz=>(Jw.mp (I.kr b z)).elim hL hb) hc) (λb o _ _ hc e n=>u.any e n hc) (λb o hc e n=>u.free b o e n hc) (λb o hc e=>u.there b o e hc) u.ka u.jB u.ja (λm' hm=>by
  obtain⟨o',es',ep',ho',r'⟩:=hm;rw[ho] at ho';cases ho';exact⟨_,es',ep',hL,r'⟩) aP hg
def Inv.turned{t':Nat}{it:Addr}(I:Inv X pins σ H s)(k:∀b o,b≠it->s.heap.get? b=some o->h'.get? b=some o)(hn:H it=none)(hL:it≠X.env.locals)
  (h1:it∈X.ex\/X.s₀.heap.objs.size<=it) (h2:∀x c,X.env.cells.lookup x=some c->c≠it) (h3:∀p∈X.pn++pins,p.1≠it):Inv X pins σ H {s with heap:=h',toks:=t'}:=by
 have nit:∀b u,H b=some u->b≠it:=λb u e z=>by rw[z,hn] at e;cases e
 refine I.step (g':=s.gens) (d':=s.drawn) (ch:=[it]) (λb hb=>?_) (λb o _ _ hc e _=>k b o (λz=>hc (by simp[z])) e) (λb o _ _ hc e _=>⟨o.slots,k b o (λz=>hc (by simp[z])) e⟩) (λ_ _ _ _ n=>n)
  (λb o hc e=>⟨o,k b o (λz=>hc (by simp[z])) e⟩) (λ_ _ e=>e) (λ_ _ _ e=>e) (λb ps e=>⟨#[],by rw[e];simp⟩) (λm hm=>?_) (λb u e=>?_) I.bare
 ·have e:b=it:=by simpa using hb
  subst e;exact⟨h1,hL,h2,h3⟩
 ·obtain⟨o,es,ep,ho,r⟩:=hm;exact⟨o,es,ep,k _ o (KA hL) ho,r⟩
 ·refine (I.aP b u e).jI (λc v hc q=>k c v ?_ q) (λ_ q=>q) (λ_ _ q=>q) λ_ _ _ q=>q;rcases hc with z|z
  ·rw[z];exact nit b u e
  ·exact nit c _ z
def Inv.tok(I:Inv X pins σ H s)(t:Nat):Inv X pins σ H {s with toks:=t}:=I.un (h':=s.heap) (t':=t) Un.refl I.aP
def Inv.kept{t':Nat}(I:Inv X pins σ H s)(k:∀b u,s.heap.get? b=some u->h'.get? b=some u):Inv X pins σ H {s with heap:=h',toks:=t'}:=I.un (Un.kept k) (I.aP.kept k)
def Inv.laid{o:HO}{t':Nat}(I:Inv X pins σ H s)(k:∀b u,s.heap.get? b=some u->h'.get? b=some u)(hp:s.heap.objs.size<=a)(new:b7 X.prog X.w (upd H a o) h' a o):
  Inv X pins σ (upd H a o) {s with heap:=h',toks:=t'}:=I.un (Un.laid k hp (I.aP.fresh hp)) (I.aP.laid k hp new)
def Inv.write{x e:Addr}{o:HO}{t':Nat}(I:Inv X pins σ H s)(mu:HE (H x))(he:e=x\/H e=some (.own x))(k:∀b u,b≠e->s.heap.get? b=some u->h'.get? b=some u)(heo:∃u,h'.get? e=some u)
  (new:b7 X.prog X.w (upd H x o) h' x o):Inv X pins σ (upd H x o) {s with heap:=h',toks:=t'}:=I.un (Un.write mu he k heo) (I.aP.write mu he k heo new)
def Inv.nW{pins':List (Addr×Obj)}(I:Inv X pins σ H s)(h:∀p∈pins',s.heap.get? p.1=some p.2/\H p.1=none/\p.1≠X.env.locals/\p.1∉X.fs/\∀v,p.2.data≠.cell v):Inv X pins' σ H s:=
 ⟨I.ok,I.os,I.bare,I.base,I.loc,I.cell,I.free,I.cO,λp hp=>(Ki.mp hp).elim (λz=>I.pin p (KL _ z)) (h p),I.aP,I.len⟩
def kf(hN:N.Nodup)(a:N[i]?=some x)(b:N[j]?=some x):i=j:=by
 obtain⟨h1,e1⟩:=Ju.mp a;obtain⟨h2,e2⟩:=Ju.mp b;exact (List.getElem_inj hN).mp (e1.trans e2.symm)
def nu{A:Around}{v:V}{Q:Unit->Shared->Prop}(I:Inv X pins σ H s)(hN:X.N.Nodup)(hi:X.N[i]?=some x)(hx:Loc X.env.scope x)(r:RelV v u)
  (h:∀s',Inv X pins (σ.set i (some v)) H s'->(∃a,Heap.SameBut a s.heap s'.heap/\(a=X.env.locals\/X.env.cells.lookup x=some a))->Q () s') (hf:autoParam (X.fn x=true\/X.env.scope.names.lookup x=some .local) ℜ2):wpAny M A (storeName X.env x u) Q E s:=by
 obtain⟨m,hn,hl⟩:=id I.loc;have hcls:(X.env.scope.kind == .class || (X.env.scope.kind == .module && X.env.locals != X.env.globals))=false:=by rw[I.ok.kind];rfl
 have hiσ:i<σ.length:=by rw[I.len];exact (Ju.mp hi).1
 have vJ:=I.vJ;have tracked:∀{a:Addr} {h':Heap},(∃o,s.heap.get? a=some o/\H a=none)->Heap.SameBut a s.heap h'->gQ X.prog X.w H h':=λ{a h'} ha hs b ob e=>by
  obtain⟨_,_,hfree⟩:=ha;refine (I.aP b ob e).jI (λc w' hc q=>(hs.2 c ?_).trans q) (λ_ q=>q) (λ_ _ q=>q) λ_ _ _ q=>q;rintro rfl;rcases hc with rfl|hc
  ·rw[hfree] at e;cases e
  ·rw[hfree] at hc;cases hc
 rcases hx with hk|hk
 ·refine wpAny_storeName_local hk hn (λh' hn' hs=>?_) hcls;obtain⟨oL,_,_,hoL,_⟩:=id hn;refine h _ ⟨I.ok,I.os,I.bare,⟨λb o e n hb hx=>?_,λb o e n hb hx=>?_,I.base.free,λb o e hx=>?_,I.base.ka,I.base.jB,I.base.ja⟩,⟨_,hn',λj y v' e1 e2 e3=>?_⟩,λy c e=>?_,I.free,I.cO,λp hp=>?_,tracked ⟨oL,hoL,I.free⟩ hs,by simpa using I.len⟩ ⟨_,hs,.inl rfl⟩
  ·exact (hs.2 b (JU (JT (JL e) I.ok.above))).trans (I.base.keep b o e n hb hx)
  ·obtain⟨sl,e1⟩:=I.base.slot b o e n hb hx;exact⟨sl,(hs.2 b (JU (JT (JL e) I.ok.above))).trans e1⟩
  ·obtain⟨o',e1⟩:=I.base.there b o e hx;exact⟨o',(hs.2 b (JU (JT (JL e) I.ok.above))).trans e1⟩
  ·by_cases hj:j=i
   ·subst hj;rw[hi] at e1;cases e1;rw[Lf hiσ] at e2;cases e2;exact⟨u,r,.inl ⟨hk,by simp⟩⟩
   ·rw[LI (KA hj)] at e2;obtain⟨u',r',q⟩:=hl j y v' e1 e2 e3;refine⟨u',r',?_⟩;rcases q with ⟨k,e⟩|⟨k,c,e,z⟩
    ·refine .inl ⟨k,?_⟩;have:y≠x:=λe=>hj (kf hN e1 (e ▸ hi));simp[this,e]
    ·exact .inr ⟨k,c,e,z.sameBut hs (vJ y c e)⟩
  ·obtain⟨w',z⟩:=I.cell y c e;exact⟨w',z.sameBut hs (vJ y c e)⟩
  ·obtain⟨e,n,ne,nf,d⟩:=I.pin p hp;exact⟨(hs.2 p.1 ne).trans e,n,ne,nf,d⟩
 ·have hfn:X.fn x=true:=by
   rcases hf with z|z
   ·exact z
   ·rw[z] at hk;cases hk
  obtain⟨c,hc⟩:=I.ok.has x (.inl hk);obtain⟨w',z⟩:=I.cell x c hc;refine wpAny_storeName_cell I.ok.kind hk hc z (λh' hc' hs=>?_);obtain⟨oc,hoc,hocd⟩:=id z;refine h {s with heap:=h'} ⟨I.ok,I.os,I.bare,⟨λb o e n hb hx=>?_,λb o e n hb hx=>?_,I.base.free,λb o e hx=>?_,I.base.ka,I.base.jB,I.base.ja⟩,⟨m,hn.sameBut hs (KA (vJ x c hc)),λj y v' e1 e2 e3=>?_⟩,λy c' e=>?_,I.free,I.cO,λp hp=>?_,tracked ⟨oc,hoc,I.cO x c hc⟩ hs,by simpa using I.len⟩ ⟨c,hs,.inr hc⟩
  ·exact (hs.2 b (JU (JT (JL e) (I.ok.AA x c hfn hc)))).trans (I.base.keep b o e n hb hx)
  ·obtain⟨sl,e1⟩:=I.base.slot b o e n hb hx;exact⟨sl,(hs.2 b (JU (JT (JL e) (I.ok.AA x c hfn hc)))).trans e1⟩
  ·obtain⟨o',e1⟩:=I.base.there b o e hx;exact⟨o',(hs.2 b (JU (JT (JL e) (I.ok.AA x c hfn hc)))).trans e1⟩
  ·by_cases hj:j=i
   ·subst hj;rw[hi] at e1;cases e1;rw[Lf hiσ] at e2;cases e2;exact⟨u,r,.inr ⟨.inl hk,c,hc,hc'⟩⟩
   ·rw[LI (KA hj)] at e2;obtain⟨u',r',q⟩:=hl j y v' e1 e2 e3;refine⟨u',r',?_⟩;rcases q with q|⟨k,c',e,z'⟩
    ·exact .inl q
    ·refine .inr ⟨k,c',e,z'.sameBut hs ?_⟩;rintro rfl;exact hj (kf hN e1 (I.ok.inj _ _ _ e hc ▸ hi))
  ·by_cases hcc:c'=c
   ·subst hcc;exact⟨_,hc'⟩
   ·obtain⟨w2,z2⟩:=I.cell y c' e;exact⟨w2,z2.sameBut hs hcc⟩
  ·obtain⟨e,n,ne,nf,d⟩:=I.pin p hp;refine⟨(hs.2 p.1 ?_).trans e,n,ne,nf,d⟩;intro q;rw[q,hoc] at e;have q':oc=p.2:=Option.some.inj e;exact d w' (by rw[<- q'];exact hocd)
def kQ{A:Around}{v:V}{Q:Unit->Shared->Prop}(I:Inv X pins σ H s)(hN:X.N.Nodup)(hi:X.N[i]?=some x)(hx:Loc X.env.scope x)(r:RelV v u)
  (h:∀s',Inv X pins (σ.set i (some v)) H s'->Q () s') (hf:autoParam (X.fn x=true\/X.env.scope.names.lookup x=some .local) ℜ2):wpAny M A (storeName X.env x u) Q E s:=
 nu I hN hi hx r (λs' I' _=>h s' I') hf
def Inv.CZ(I:Inv X pins σ H s)(ho:s'.os=s.os)(u:Un (jo X.stack) ch H H' s.heap s'.heap)(aP:gQ X.prog X.w H' s'.heap)(hg:AllBare s'.gens)
  (hch:∀b∈ch,(b∈X.ex\/X.s₀.heap.objs.size<=b)/\b≠X.env.locals/\(∀x c,X.env.cells.lookup x=some c->c≠b)/\∀p∈X.pn++pins,p.1≠b):Inv X pins σ H' s':=by
 obtain⟨h',g',d',t',o'⟩:=s';have e:o'=s.os:=ho;subst e;exact I.call (g':=g') (t':=t') (d':=d') u aP hg hch
end
abbrev XK:=Value->Option Addr->Hp->Prop
abbrev St:=List (Option V)
variable{σ:St}
abbrev VK:=V->Hp->Prop
abbrev TE:=St->Hp->VK->Prop
abbrev TT:=St->Hp->(Bool->Hp->Prop)->Prop
abbrev TA:=St->Hp->(List V->Hp->Prop)->Prop
structure Ends where
 nx:St->Hp->Prop
 rt:VK
 bk:St->Hp->Prop:=λ_ _=>False
 ct:St->Hp->Prop:=λ_ _=>False
variable{D:Ends}
abbrev TS:=Ends->St->Hp->Prop
variable{tb:TS}
def EP(X:Cx)(pins:List (Addr×Obj))(σ:St)(Q:VK)(u:Value)(s':Shared):Prop:=∃v H',Inv X pins σ H' s'/\RelV v u/\Q v H'
def TP(X:Cx)(pins:List (Addr×Obj))(σ:St)(Q:Bool->Hp->Prop)(b:Bool)(s':Shared):Prop:=∃H',Inv X pins σ H' s'/\Q b H'
def AP(X:Cx)(pins:List (Addr×Obj))(σ:St)(Q:List V->Hp->Prop)(us:List Value)(s':Shared):Prop:=∃vs H',Inv X pins σ H' s'/\Vals vs us/\Q vs H'
def SP(X:Cx)(pins:List (Addr×Obj))(D:Ends)(f:Flow)(s':Shared):Prop:=
 match f with
 |.next=>∃σ' H',Inv X pins σ' H' s'/\D.nx σ' H'
 |.brk=>∃σ' H',Inv X pins σ' H' s'/\D.bk σ' H'
 |.cont=>∃σ' H',Inv X pins σ' H' s'/\D.ct σ' H'
 |.ret u=>∃v σ' H',Inv X pins σ' H' s'/\RelV v u/\D.rt v H'
def PE(X:Cx)(e:Expr)(t:TE):Prop:=
 ∀(pins:List (Addr×Obj)) (s:Shared) (σ:St) (H:Hp) (Q:VK),Inv X pins σ H s->t σ H Q->wpAny (model X.prog X.w) X.A (eval e X.env) (EP X pins σ Q) X.xe s
def PT(X:Cx)(e:Expr)(t:TT):Prop:=
 ∀(pins:List (Addr×Obj)) (s:Shared) (σ:St) (H:Hp) (Q:Bool->Hp->Prop),Inv X pins σ H s->t σ H Q->wpAny (model X.prog X.w) X.A (isTrue e X.env (eval e X.env)) (TP X pins σ Q) X.xe s
def PW(X:Cx)(e:Expr)(t:TT):Prop:=
 ∀(whole:Sem Value) (pins:List (Addr×Obj)) (s:Shared) (σ:St) (H:Hp) (Q:Bool->Hp->Prop),Inv X pins σ H s->t σ H Q->wpAny (model X.prog X.w) X.A (isTrue e X.env whole) (TP X pins σ Q) X.xe s
def PW.pt{t:TT}(h:PW X e t):PT X e t:=h _
def PA(X:Cx)(es:List Expr)(t:TA):Prop:=
 ∀(pos:Pos) (pins:List (Addr×Obj)) (s:Shared) (σ:St) (H:Hp) (Q:List V->Hp->Prop),Inv X pins σ H s->t σ H Q->wpAny (model X.prog X.w) X.A (spliced (backTo pos (starEach es X.env))) (AP X pins σ Q) X.xe s
def PS(X:Cx)(st:Stmt)(t:TS):Prop:=
 ∀(pins:List (Addr×Obj)) (s:Shared) (σ:St) (H:Hp) (D:Ends),Inv X pins σ H s->t D σ H->wpAny (model X.prog X.w) X.A (exec st X.env) (SP X pins D) X.xe s
def sI(X:Cx)(st:List Stmt)(t:TS):Prop:=
 ∀(pins:List (Addr×Obj)) (s:Shared) (σ:St) (H:Hp) (D:Ends),Inv X pins σ H s->t D σ H->wpAny (model X.prog X.w) X.A (execs st X.env) (SP X pins D) X.xe s
def bN{α:Type}{t:Sem α}{Q Q':α->Shared->Prop}{A:Around}{s:Shared}(h:wpAny M A t Q E s)(hQ:∀a s,Q a s->Q' a s):wpAny M A t Q' E s:=Kt h hQ λ_ _ x=>x
section
variable {X:Cx}
def sP(i:Nat):TE:=λσ H Q=>∃v,σ[i]?=some (some v)/\Q v H
def tC(v:V):TE:=λ_ H Q=>Q v H
def En{pos:Pos}(hN:X.N[i]?=some x)(hv:Hc X.env.scope x)(hd:autoParam ((x ==("__debug__":Str))=false) ℜ1)(gW:autoParam ((x ==("__classdict__":Str))=false) ℜ1):PE X (.Name x pos) (sP i):=by
 intro pins s σ H Q I h;obtain⟨v,e,h⟩:=h;obtain⟨m,hn,hl⟩:=I.loc;obtain⟨u,r,l⟩:=hl i x v hN e hv;have fin:EP X pins σ Q u s:=⟨v,H,I,r,h⟩;rcases l with ⟨hk,hm⟩|⟨hk,c,hc,hcell⟩
 ·exact wpAny_Name (wpAny_loadName_local I.ok.kind hk hn hm fin) hd
 ·rcases hk with hk|hk
  ·exact wpAny_Name (wpAny_loadName_cell I.ok.kind hk hc hcell fin) hd
  ·exact wpAny_Name (wpAny_loadName_free I.ok.kind hk hc hcell fin gW) hd
def zW{i j pos}:PE X (.Constant (.int i) j pos) (tC (.int i)):=λ_ _ _ H _ I h=>wpAny_Constant_int ⟨.int i,H,I.tok _,⟨_,rfl⟩,h⟩
def CP{b j pos}:PE X (.Constant (.bool b) j pos) (tC (.bl b)):=λ_ _ _ H _ I h=>Constant_bool ⟨.bl b,H,I,rfl,h⟩
def yq{j pos}:PE X (.Constant .none j pos) (tC .aL):=λ_ _ _ H _ I h=>Constant_none ⟨.aL,H,I,rfl,h⟩
def yV{x j pos}:PE X (.Constant (.str x) j pos) (tC (.str x)):=λ_ _ _ H _ I h=>Calls.Constant_str ⟨.str x,H,I.tok _,⟨_,rfl⟩,h⟩
def Gl(X:Cx)(x:Str):Prop:=X.env.kindOf x=some .globalImplicit
def gR{s:Shared}{pos:Pos}(I:Inv X pins σ H s)(hg:Gl X x)(hm:X.mg x=some u)(h:Q u s)
  (hd:autoParam ((x ==("__debug__":Str))=false) ℜ1):wpAny (model X.prog X.w) X.A (eval (.Name x pos) X.env) Q E s:=
 Nn I.ok.kind hg (Calls.loadGlobal_global (by rw[I.ok.glob];exact I.mod.glob.keeps I.bk) hm h) hd
def fS{s:Shared}{pos:Pos}(I:Inv X pins σ H s)(hg:Gl X x)(hm:X.mg x=none)(hv:bootBuiltins x=some u)(h:Q u s)
  (hn:autoParam (x≠"__name__") ℜ1) (hd:autoParam ((x ==("__debug__":Str))=false) ℜ1):wpAny (model X.prog X.w) X.A (eval (.Name x pos) X.env) Q E s:=by
 obtain⟨mb,h1,h2⟩:=I.mod.blt;exact Nn I.ok.kind hg (Calls.loadGlobal_builtin (by rw[I.ok.glob];exact I.mod.glob.keeps I.bk) hm (by rw[I.ok.blt];exact h1.keeps I.bk) ((h2 x hn).trans hv) h) hd
def tB{v:V}{pos:Pos}(hg:Gl X x)(hm:X.mg x=some u)(r:RelV v u)(hd:autoParam ((x ==("__debug__":Str))=false) ℜ1):PE X (.Name x pos) (tC v):=
 λ_ _ _ H _ I h=>gR I hg hm ⟨v,H,I,r,h⟩ hd
def B5{v:V}{pos:Pos}(hg:Gl X x)(hm:X.mg x=none)(hv:bootBuiltins x=some u)(r:RelV v u)(hn:autoParam (x≠"__name__") ℜ1)(hd:autoParam ((x ==("__debug__":Str))=false) ℜ1):PE X (.Name x pos) (tC v):=
 λ_ _ _ H _ I h=>fS I hg hm hv ⟨v,H,I,r,h⟩ hn hd
variable {a b:Expr} {ta tb:TE} {pos:Pos}
variable {tA tB':TT} {rest:List Expr}
def yO(t u:TT):TT:=λσ H Q=>t σ H λc H1=>if c=true then u σ H1 Q else Q false H1
def Hq(t u:TT):TT:=λσ H Q=>t σ H λc H1=>if c=true then Q true H1 else u σ H1 Q
def yN(t:TT):TT:=λσ H Q=>t σ H λc H1=>Q (!c) H1
def AJ(ha:PT X a tA):PW X (.BoolOp .And [a] pos) tA:=by
 intro wh pins s σ H Q I h;refine isTrue_and (bN (ha pins s σ H Q I h) λc s1 e=>?_)
 cases c with
 |true=>exact isTrue_and_nil e
 |false=>exact e
def Em(ha:PT X a tA):PW X (.BoolOp .Or [a] pos) tA:=by
 intro wh pins s σ H Q I h;refine isTrue_or (bN (ha pins s σ H Q I h) λc s1 e=>?_)
 cases c with
 |false=>exact isTrue_or_nil e
 |true=>exact e
def EZ(ha:PT X a tA)(hb:PW X (.BoolOp .And (b::rest) pos) tB'):PW X (.BoolOp .And (a::b::rest) pos) (yO tA tB'):=by
 intro wh pins s σ H Q I h;refine isTrue_and (bN (ha pins s σ H _ I h) λc s1 hq7=>?_);obtain⟨H1,I1,q1⟩:=hq7
 cases c with
 |true=>exact hb wh pins s1 σ H1 Q I1 q1
 |false=>exact⟨H1,I1,q1⟩
def HC(ha:PT X a tA)(hb:PW X (.BoolOp .Or (b::rest) pos) tB'):PW X (.BoolOp .Or (a::b::rest) pos) (Hq tA tB'):=by
 intro wh pins s σ H Q I h;refine isTrue_or (bN (ha pins s σ H _ I h) λc s1 hq8=>?_);obtain⟨H1,I1,q1⟩:=hq8
 cases c with
 |true=>exact⟨H1,I1,q1⟩
 |false=>exact hb wh pins s1 σ H1 Q I1 q1
def DT(ha:PT X a tA):PT X (.UnaryOp .Not a pos) (yN tA):=by
 intro pins s σ H Q I h;exact isTrue_not (ha pins s σ H (λc H1=>Q (!c) H1) I h)
def qR(ta tb:TE):TE:=λσ H Q=>ta σ H λx H1=>∃c,x=.bl c/\if c=true then tb σ H1 Q else Q (.bl false) H1
def pG(ta:TE):TE:=λσ H Q=>ta σ H λx H1=>∃c,x=.bl c/\Q (.bl (!c)) H1
def DC{op}{t:TE}(h:PE X a t):PE X (.BoolOp op [a] pos) t:=λpins s σ H Q I hw=>BoolOp_one (h pins s σ H Q I hw)
def DP(ha:PE X a ta)(hb:PE X (.BoolOp .And (b::rest) pos) tb):PE X (.BoolOp .And (a::b::rest) pos) (qR ta tb):=by
 intro pins s σ H Q I h;refine BoolOp_and (bN (ha pins s σ H _ I h) λv s1 hq9=>?_);obtain⟨x,H1,I1,r1,q1⟩:=hq9;obtain⟨c,rfl,q1⟩:=q1;cases r1;refine Lq ?_
 cases c with
 |true=>exact hb pins s1 σ H1 Q I1 q1
 |false=>exact⟨.bl false,H1,I1,rfl,q1⟩
def E9(ha:PE X a ta):PE X (.UnaryOp .Not a pos) (pG ta):=by
 intro pins s σ H Q I h;refine UnaryOp_ (bN (ha pins s σ H _ I h) λv s1 hq11=>?_);obtain⟨x,H1,I1,r1,q1⟩:=hq11;obtain⟨c,rfl,q1⟩:=q1;cases r1;exact not_of (Lq ⟨.bl (!c),H1,I1,rfl,q1⟩)
def Gd(t:TT)(ta tb:TE):TE:=λσ H Q=>t σ H λc H1=>if c=true then ta σ H1 Q else tb σ H1 Q
def xX{c:Expr}(hc:PT X c tA)(ha:PE X a ta)(hb:PE X b tb):PE X (.IfExp c a b pos) (Gd tA ta tb):=by
 intro pins s σ H Q I h;refine wpAny_IfExp (bN (hc pins s σ H _ I h) λd s1 hq12=>?_);obtain⟨H1,I1,q1⟩:=hq12
 cases d with
 |true=>exact ha pins s1 σ H1 Q I1 q1
 |false=>exact hb pins s1 σ H1 Q I1 q1
end
def bg(K:W.Frag)(H:Hp)(a:Addr)(xs:List V):Prop:=
 Rd H a (.lst xs) \/
  ∃(o:Obj) (its:Array Value) (n:Nat),K.lookup a=some o/\o.cls=.type "list"/\o.dict=none/\o.data=.seq its n/\its.size<=sizeLine/\Vals xs its.toList
def bq(K:W.Frag)(H:Hp)(a:Addr)(xs:List V):Prop:=
 Rd H a (.tup xs) \/
  ∃(o:Obj) (its:Array Value) (n:Nat),K.lookup a=some o/\o.cls=.type "tuple"/\o.data=.seq its n/\its.size<=sizeLine/\Vals xs its.toList
noncomputable def IG:Value->Option V
 |.none=>some .aL
 |.bool b=>some (.bl b)
 |.int i _=>some (.int i)
 |.str x _=>some (.str x)
 |.bytes b _=>some (.qX b)
 |.float b _=>some (.Dq b)
 |.ref a=>some (.ref a)
 |.type n=>some (.ty n)
 |_=>none
def RelV.abs{x:V}(r:RelV x u):IG u=some x:=by
 cases x with
 |aL=>cases r;rfl
 |bl _=>cases r;rfl
 |int _=>obtain⟨t,rfl⟩:=r;rfl
 |str _=>obtain⟨t,rfl⟩:=r;rfl
 |qX _=>obtain⟨t,rfl⟩:=r;rfl
 |Dq _=>obtain⟨t,rfl⟩:=r;rfl
 |ref _=>cases r;rfl
 |ty _=>cases r;rfl
def RelV.inj{x y:V}(r:RelV x u)(q:RelV y u):x=y:=Option.some.inj (r.abs.symm.trans q.abs)
theorem Vals.inj:∀{xs ys:List V} {us:List Value},Vals xs us->Vals ys us->xs=ys
 |_,_,_,.nil,.nil=>rfl
 |_,_,_,.cons r t,.cons r' t'=>by rw[r.inj r',Vals.inj t t']
section
variable {X:Cx} {pins:List (Addr×Obj)} {σ:St} {H:Hp} {s:Shared} {a:Addr} {xs ys:List V}
def bg.of(h:H a=some (.lst xs)):bg K H a xs:=.inl (.inl h)
def bq.of(h:H a=some (.tup xs)):bq K H a xs:=.inl (.inl h)
def Inv.list(I:Inv X pins σ H s)(h:bg X.K H a xs):∃its:List Value,Vals xs its/\PlainL s.heap a its.toArray/\xs.length<=sizeLine:=by
 rcases h with h|⟨o,its,n,hk,hc,hd,hs,hz,r⟩
 ·obtain⟨z,its,n,r,e⟩:=h.ok I.aP;exact⟨its,r,⟨_,n,e,rfl,rfl,rfl⟩,z⟩
 ·refine⟨its.toList,r,⟨o,n,I.fm a o hk,hc,hd,by simpa using hs⟩,?_⟩
  have e:=r.length;simp only[Kj] at e;lia
def Inv.tuple(I:Inv X pins σ H s)(h:bq X.K H a xs):∃its:List Value,Vals xs its/\IsTup s.heap a its.toArray/\xs.length<=sizeLine:=by
 rcases h with h|⟨o,its,n,hk,hc,hs,hz,r⟩
 ·obtain⟨z,its,r,p⟩:=h.ok I.aP;exact⟨its,r,p.to,z⟩
 ·refine⟨its.toList,r,⟨o,I.fm a o hk,hc,n,by simpa using hs⟩,?_⟩
  have e:=r.length;simp only[Kj] at e;lia
def Inv.kC(I:Inv X pins σ H s)(h:bg X.K H a xs)(h':bg X.K H a ys):xs=ys:=by
 obtain⟨its,r,⟨o,n,e,_,_,d⟩,_⟩:=I.list h;obtain⟨its',r',⟨o',n',e',_,_,d'⟩,_⟩:=I.list h';rw[e] at e';cases e';rw[d] at d'
 injection d' with d1 _
 have:its=its':=by simpa using Km Array.toList d1
 subst this;exact r.inj r'
def Inv.iT(I:Inv X pins σ H s)(h:bq X.K H a xs)(h':bq X.K H a ys):xs=ys:=by
 obtain⟨its,r,⟨o,e,_,n,d⟩,_⟩:=I.tuple h;obtain⟨its',r',⟨o',e',_,n',d'⟩,_⟩:=I.tuple h';rw[e] at e';cases e';rw[d] at d'
 injection d' with d1 _
 have:its=its':=by simpa using Km Array.toList d1
 subst this;exact r.inj r'
end
abbrev Cx.m9(X:Cx)(E:Value->Shared->Prop):Cx:={X with xe:=E}
abbrev Cx.vK(X:Cx):Cx:=X.m9 λ_ _=>False
def Cx.Ok.m9(ok:X.Ok)(E:Value->Shared->Prop):(X.m9 E).Ok:=
 ⟨ok.mod,ok.kind,ok.glob,ok.blt,ok.above,ok.inj,ok.has,ok.AA,ok.hd,ok.frames,ok.CU,ok.FJ,ok.bs,ok.tU,ok.om,ok.pJ,ok.gS,ok.yK,ok.tabs⟩
def Cx.Ok.gq(ok:(X.m9 E).Ok):X.Ok:=
 ⟨ok.mod,ok.kind,ok.glob,ok.blt,ok.above,ok.inj,ok.has,ok.AA,ok.hd,ok.frames,ok.CU,ok.FJ,ok.bs,ok.tU,ok.om,ok.pJ,ok.gS,ok.yK,ok.tabs⟩
section
variable {X:Cx} {pins:List (Addr×Obj)} {σ:St} {H:Hp} {s:Shared} {E:Value->Shared->Prop}
def Inv.m9(I:Inv X pins σ H s)(E:Value->Shared->Prop):Inv (X.m9 E) pins σ H s:=⟨I.ok.m9 E,I.os,I.bare,I.base,I.loc,I.cell,I.free,I.cO,I.pin,I.aP,I.len⟩
def Inv.gq(I:Inv (X.m9 E) pins σ H s):Inv X pins σ H s:=⟨I.ok.gq,I.os,I.bare,I.base,I.loc,I.cell,I.free,I.cO,I.pin,I.aP,I.len⟩
def SP.gq{f:Flow}(h:SP (X.m9 E) pins D f s'):SP X pins D f s':=by
 cases f with
 |next=>obtain⟨σ',H',I,q⟩:=h;exact⟨σ',H',I.gq,q⟩
 |brk=>obtain⟨σ',H',I,q⟩:=h;exact⟨σ',H',I.gq,q⟩
 |cont=>obtain⟨σ',H',I,q⟩:=h;exact⟨σ',H',I.gq,q⟩
 |ret u=>obtain⟨v,σ',H',I,r,q⟩:=h;exact⟨v,σ',H',I.gq,r,q⟩
def sI.vK{st:List Stmt}{t:TS}(h:sI X.vK st t):sI X st t:=λpins s σ H D I hw =>
 Kt (h pins s σ H D (I.m9 _) hw) (λ_ _ q=>q.gq) λ_ _ z=>False.elim z
end
section
variable {X:Cx} {st:Stmt} {rest:List Stmt} {t u:TS} {e:Expr} {te:TE} {pos:Pos}
def p6:TS:=λD σ H=>D.nx σ H
def uU(t u:TS):TS:=λD σ H=>t {D with nx:=u D} σ H
def BY:sI X [] p6:=λ_ _ σ H _ I h=>MO ⟨σ,H,I,h⟩
def xF(h1:PS X st t)(h2:sI X rest u):sI X (st::rest) (uU t u):=by
 intro pins s σ H D I h;refine wpAny_execs_cons (bN (h1 pins s σ H {D with nx:=u D} I h) λf s1 q=>?_)
 cases f with
 |next =>
  obtain⟨σ',H',I',q⟩:=q;exact h2 pins s1 σ' H' D I' q
 |ret v=>exact q
 |brk=>exact q
 |cont=>exact q
def AD(h1:PS X st t):sI X [st] t:=by
 intro pins s σ H D I h;refine wpAny_execs_cons (bN (h1 pins s σ H D I h) λf s1 q=>?_)
 cases f with
 |next=>exact MO q
 |ret v=>exact q
 |brk=>exact q
 |cont=>exact q
def Inv.quiet{s:Shared}(I:Inv X pins σ H s):interactive X.env=false:=by simp[interactive,I.ok.kind]
def pT(te:TE):TS:=λD σ H=>te σ H λ_ H1=>D.nx σ H1
def Bb(he:PE X e te)(hs:autoParam (swapsWith e none pos.line X.env=pure false) ℜ0):PS X (.Expr e pos) (pT te):=by
 intro pins s σ H D I h;exact wpAny_Expr_any (bN (he pins s σ H _ I h) λv s1 ⟨x,H1,I1,r1,q1⟩=>⟨σ,H1,I1,q1⟩) I.quiet hs
def zI(te:TE):TS:=λD σ H=>te σ H D.rt
def DN(he:PE X e te):PS X (.Return (some e) pos) (zI te):=by
 intro pins s σ H D I h;exact wpAny_Return_some (bN (he pins s σ H _ I h) λv s1 ⟨x,H1,I1,r1,q1⟩=>⟨x,σ,H1,I1,r1,q1⟩)
def oR(c:TT)(t u:TS):TS:=λD σ H=>c σ H λb H1=>if b=true then t D σ H1 else u D σ H1
def GW{c:Expr}{a b:List Stmt}{tc:TT}(hc:PT X c tc)(ha:sI X a t)(hb:sI X b u):PS X (.If c a b pos) (oR tc t u):=by
 intro pins s σ H D I h;refine wpAny_If (bN (hc pins s σ H _ I h) λd s1 hq13=>?_);obtain⟨H1,I1,q1⟩:=hq13
 cases d with
 |true=>exact ha pins s1 σ H1 D I1 q1
 |false=>exact hb pins s1 σ H1 D I1 q1
end
abbrev TG:=V->St->Hp->(St->Hp->Prop)->Prop
abbrev vL:=List V->St->Hp->(St->Hp->Prop)->Prop
def PG(X:Cx)(target:Expr)(t:TG):Prop:=
 ∀(pins:List (Addr×Obj)) (s:Shared) (σ:St) (H:Hp) (v:V) (u:Value) (Q:St->Hp->Prop),Inv X pins σ H s->RelV v u->t v σ H Q ->
  wpAny (model X.prog X.w) X.A (assign target X.env u) (λ_ s'=>∃σ' H',Inv X pins σ' H' s'/\Q σ' H') X.xe s
def FO(X:Cx)(ts:List Expr)(t:vL):Prop:=
 ∀(pins:List (Addr×Obj)) (s:Shared) (σ:St) (H:Hp) (vs:List V) (us:List Value) (Q:St->Hp->Prop),Inv X pins σ H s->Vals vs us->t vs σ H Q ->
  wpAny (model X.prog X.w) X.A (assignInOrder ((assignEach ts X.env).map (·.2)) us) (λ_ s'=>∃σ' H',Inv X pins σ' H' s'/\Q σ' H') X.xe s
abbrev Bz:=V->V->V->Hp->(Hp->Prop)->Prop
def DJ(X:Cx)(t:Bz):Prop:=
 ∀(pins:List (Addr×Obj)) (s:Shared) (σ:St) (H:Hp) (o i v:V) (ov iv u:Value) (Q:Hp->Prop),Inv X pins σ H s->RelV o ov->RelV i iv->RelV v u->t o i v H Q ->
  wpAny (model X.prog X.w) X.A (setItem ov iv u) (λ_ s'=>∃H',Inv X pins σ H' s'/\Q H') X.xe s
section
variable {X:Cx} {pos:Pos}
def aT(i:Nat):TG:=λv σ H Q=>Q (σ.set i (some v)) H
def B3(hN:X.N.Nodup)(hi:X.N[i]?=some x)(hx:Loc X.env.scope x)(hf:autoParam (X.fn x=true\/X.env.scope.names.lookup x=some .local) ℜ2):PG X (.Name x pos) (aT i):=by
 intro pins s σ H v u Q I r h;exact wpAny_assign_Name (kQ I hN hi hx r (λs' I'=>⟨_,H,I',h⟩) hf)
def vj:vL:=λvs σ H Q=>vs=[]/\Q σ H
def gZ(t:TG)(u:vL):vL:=λvs σ H Q=>∃v r,vs=v::r/\t v σ H λσ' H'=>u r σ' H' Q
def AX:FO X [] vj:=by
 intro pins s σ H vs us Q I r h;obtain⟨e,h⟩:=h;subst e;cases r;exact assignInOrder_nil ⟨σ,H,I,h⟩
def yw{t:TG}{u:vL}(h1:PG X e t)(h2:FO X es u)
  (hs:autoParam ((assignEach (e::es) X.env).map (·.2)=assign e X.env::(assignEach es X.env).map (·.2)) ℜ0):FO X (e::es) (gZ t u):=by
 intro pins s σ H vs us Q I r h;obtain⟨v,vr,e1,h⟩:=h;subst e1
 cases r with
 |cons r rr =>
  rw[hs];refine assignInOrder_cons (bN (h1 pins s σ H _ _ _ I r h) λ_ s1 hq14=>?_);obtain⟨σ1,H1,I1,q1⟩:=hq14;exact h2 pins s1 σ1 H1 _ _ Q I1 rr q1
def nH(K:W.Frag)(n:Nat)(t:vL):TG:=λv σ H Q=>∃a xs,v=.ref a/\bq K H a xs/\xs.length=n/\t xs σ H Q
def xQ{t:vL}{n:Nat}(hc:X.calm=true)(h:FO X es t)
  (hn:autoParam ((assignEach es X.env).length=n) ℜ0) (hst:autoParam ((assignEach es X.env).findIdx? (·.1)=none) ℜ0):PG X (.Tuple es k pos) (nH X.K n t):=by
 intro pins s σ H v u Q I r hw;obtain⟨a,xs,e1,hq,hl,hw⟩:=hw;subst e1;cases r;obtain⟨its,rv,ht,hz⟩:=I.tuple hq;refine assign_Tuple_tuple (I.ok.hd hc) ht (by simp[hn,<- hl,rv.length]) hst λh' hx=>?_
 have I1:Inv X pins σ H {s with heap:=h'}:=I.kept (t':=s.toks) λb o e=>hx b o (JU (JL e)) e
 exact h pins _ σ H xs _ Q I1 (by simpa using rv) hw
def xM(to ti:TE)(t:Bz):TG:=λv σ H Q=>to σ H λo H1=>ti σ H1 λi H2=>t o i v H2 λH3=>Q σ H3
def DQ{o i:Expr}{to ti:TE}{t:Bz}(ho:PE X o to)(hi:PE X i ti)(hs:DJ X t)
  (ha:autoParam (∀v,assign (.Subscript o i pos) X.env v=(do
   let ov <- holding [v] (eval o X.env)
   let iv <- holding [v,ov] (eval i X.env)
   standAt pos
   holding [v,ov,iv] (setItem ov iv v)
   release [v,ov,iv] [])) ℜ3):PG X (.Subscript o i pos) (xM to ti t):=by
 intro pins s σ H v u Q I r h;rw[ha];refine Js (Kq (bN (ho pins s σ H _ I h) λov s1 hq15=>?_));obtain⟨x,H1,I1,r1,q1⟩:=hq15;refine Js (Kq (bN (hi pins s1 σ H1 _ I1 q1) λiv s2 hq16=>?_));obtain⟨y,H2,I2,r2,q2⟩:=hq16;refine Js (MD (Js (Kq (bN (hs pins s2 σ H2 x y v ov iv u _ I2 r1 r2 r q2) λ_ s3 hq17=>?_))));obtain⟨H3,I3,q3⟩:=hq17;exact wpAny_release ⟨σ,H3,I3,q3⟩
def lP(te:TE)(g:TG):TS:=λD σ H=>te σ H λx H1=>g x σ H1 D.nx
def Et{te:TE}{g:TG}(he:PE X e te)(hg:PG X tg g)(hs:autoParam (swapsWithSole [tg] e pos.line X.env=pure false) ℜ0)(hw:autoParam (swappedStores [tg] e X.env=pure none) ℜ0)
  (h1:autoParam ((assignEach [tg] X.env).map (·.2)=[assign tg X.env]) ℜ0):PS X (.Assign [tg] e pos) (lP te g):=by
 intro pins s σ H D I h;refine wpAny_Assign_stores (bN (he pins s σ H _ I h) λv s1 hq18=>?_) hs hw;obtain⟨x,H1,I1,r1,q1⟩:=hq18;rw[h1];exact bN (hg pins s1 σ H1 x v _ I1 r1 q1) λ_ s2 q=>q
def Fw{te:TE}{pos':Pos}(hN:X.N.Nodup)(hi:X.N[i]?=some x)(hx:Loc X.env.scope x)(he:PE X e te)(hs:autoParam (swapsWith e (some (.Name x pos')) pos.line X.env=pure false) ℜ0)(hf:autoParam (X.fn x=true\/X.env.scope.names.lookup x=some .local) ℜ2):
  PS X (.Assign [.Name x pos'] e pos) (lP te (aT i)):=by
 intro pins s σ H D I h;refine wpAny_Assign_Name (bN (he pins s σ H _ I h) λv s1 hq19=>?_) hs;obtain⟨y,H1,I1,r1,q1⟩:=hq19;exact kQ I1 hN hi hx r1 (λs2 I2=>⟨_,H1,I2,q1⟩) hf
end
section
variable {X:Cx} {pos:Pos}
def zH(c:TT)(tb:TS):TS:=λD σ H=>∃W:Nat->St->Hp->Prop,(∃m,W m σ H)/\∀m σ H,W m σ H ->
 c σ H λb H1=>if b=true then ∃N:St->Hp->Prop,(∀σ' H',N σ' H'->∃m',m'<m/\W m' σ' H')/\tb {D with nx:=N,ct:=N,bk:=D.nx} σ H1 else D.nx σ H1
def yu{c:Expr}{tc:TT}(hp:PassesOwn (model X.prog X.w) X.A X.env X.xe)(hc:PT X c tc)(hb:sI X body tb):PS X (.While c body [] pos) (zH tc tb):=by
 intro pins s σ H D I h;obtain⟨W,⟨m0,w0⟩,turn⟩:=h;refine wpAny_While (codeAny_whileLoop (λn s'=>∃σ' H',Inv X pins σ' H' s'/\W n σ' H') ?_ m0 ⟨σ,H,I,w0⟩);rintro n s1 ⟨σ1,H1,I1,w1⟩;refine LA hp (bN (hc pins s1 σ1 H1 _ I1 (turn n σ1 H1 w1)) λb s2 hq28=>?_);obtain⟨H2,I2,q2⟩:=hq28
 cases b with
 |true =>
  obtain⟨N,hN,q2⟩:=q2;rw[JA rfl];refine LA hp (bN (hb pins s2 σ1 H2 _ I2 q2) λf s3 q3=>?_)
  cases f with
  |next =>
   obtain⟨σ3,H3,I3,n3⟩:=q3;obtain⟨m',hm,w3⟩:=hN σ3 H3 n3;exact⟨m',hm,σ3,H3,I3,w3⟩
  |cont =>
   obtain⟨σ3,H3,I3,n3⟩:=q3;obtain⟨m',hm,w3⟩:=hN σ3 H3 n3;exact⟨m',hm,σ3,H3,I3,w3⟩
  |brk=>exact q3
  |ret v=>exact q3
 |false =>
  rw[Jy JF];exact MO ⟨σ1,H2,I2,q2⟩
end
structure It where
 go:Nat->Hp->Prop
 Dg:Nat->Hp->V->Hp->Prop
 stop:Nat->Hp->Prop
def m3(X:Cx)(pins:List (Addr×Obj))(H:Hp)(b:Addr):Prop:=
 H b=none/\b≠X.env.locals/\b∉X.fs/\(b∈X.ex\/X.s₀.heap.objs.size<=b)/\(∀x c,X.env.cells.lookup x=some c->c≠b)/\∀p∈X.pn++pins,p.1≠b
def Inv.vS{H':Hp}{s:Shared}(I:Inv X pins σ H s)(hb:s.heap.objs.size<=b)(hn:H' b=none):m3 X pins H' b:=by
 refine⟨hn,L7 (JT I.lt hb),I.GV hb,.inr (JC I.sz hb),λx c e z=>?_,λp hp z=>?_⟩
 ·obtain⟨v,q⟩:=I.cell x c e;exact absurd (JT q.lt (by rw[z];exact hb)) (La _)
 ·exact absurd (JT (JL (I.pin p hp).1) (by rw[z];exact hb)) (La _)
structure Turn (P:Program) (w:World) (K:W.Frag) (tg:Expr) (J:It) (fp:List Addr) (it:Addr) (tn:Nat->Heap->Prop):Prop where
 mem:it∈fp
 obj:∀i h,tn i h->∀b∈fp,∃o,h.get? b=some o/\∀v,o.data≠.cell v
 keep:∀i h h',tn i h->(∀b∈fp,∀o,h.get? b=some o->h'.get? b=some o)->tn i h'
 item:∀(X:Cx),X.prog=P->X.w=w->X.K=K->X.calm=true->∀(i:Nat) (pins:List (Addr×Obj)) (s:Shared) (σ:St) (H:Hp) (E:Value->Shared->Prop),Inv X pins σ H s->(∀b∈fp,m3 X pins H b)->tn i s.heap->J.go i H ->
  wpAny (model P w) X.A (pyNext (.ref it)) (λr s1=>∃u,r=some u /\
   wpAny (model P w) X.A (letOwnedTupleGo tg (.ref it) u) (λ_ s2=>∃x H',Inv X pins σ H' s2/\RelV x u/\J.Dg i H x H'/\tn (i+1) s2.heap/\∀b∈fp,H' b=none) E s1) E s
 done:∀(X:Cx),X.prog=P->X.w=w->X.K=K->X.calm=true->∀(i:Nat) (pins:List (Addr×Obj)) (s:Shared) (σ:St) (H:Hp) (E:Value->Shared->Prop),Inv X pins σ H s->(∀b∈fp,m3 X pins H b)->tn i s.heap->J.stop i H ->
  wpAny (model P w) X.A (pyNext (.ref it)) (λr s1=>r=none/\Inv X pins σ H s1) E s
 self:∀(A:Around) (i:Nat) (s:Shared) (Q:Value->Shared->Prop) (E:Value->Shared->Prop),tn i s.heap->Q (.ref it) s->wpAny (model P w) A (pyIter (.ref it)) Q E s
abbrev TI:=St->Hp->(It->Hp->Prop)->Prop
def Iw(X:Cx)(pins:List (Addr×Obj))(σ:St)(tg:Expr)(R:It->Hp->Prop)(itv:Value)(s2:Shared):Prop:=
 ∃(it:Addr) (fp:List Addr) (tn:Nat->Heap->Prop) (J:It) (H':Hp),itv=.ref it/\Inv X pins σ H' s2/\Turn X.prog X.w X.K tg J fp it tn/\tn 0 s2.heap/\(∀b∈fp,m3 X pins H' b)/\R J H'
def PI(X:Cx)(tg iter:Expr)(wi:TI):Prop:=
 ∀(pins:List (Addr×Obj)) (s:Shared) (σ:St) (H:Hp) (R:It->Hp->Prop),Inv X pins σ H s->wi σ H R ->
  wpAny (model X.prog X.w) X.A (eval iter X.env) (λv s1=>wpAny (model X.prog X.w) X.A (pyIter v) (Iw X pins σ tg R) X.xe s1) X.xe s
def zF{A:Around}{s:Shared}{it:Addr}{o:Obj}{n:String}{vs:Array Value}{Q:Unit->Shared->Prop}(ho:s.heap.get? it=some o)(hc:o.cls=.type n)(hd:o.data=.fields vs)
    (hn:["enumerate","zip","dict_itemiterator","dict_reverseitemiterator","odict_iterator","itertools.zip_longest","itertools.pairwise"].contains n=false) (hQ:Q () s):wpAny M A (letOwnedTupleGo tg (.ref it) u) Q E s:=by
  unfold letOwnedTupleGo
  cases tg<;>first
    |exact J9 hQ
    | (cases u<;>first
        |exact J9 hQ
        | (refine Js (wpAny_load ho ?_)
           rw[hc,hd];show wpAny M A (if (["enumerate","zip","dict_itemiterator","dict_reverseitemiterator","odict_iterator","itertools.zip_longest","itertools.pairwise"].contains n && vs[0]? == some (rawInt _))=true then _ else _) Q E s
           rw[Jy (by intro h;rw[hn,Oi] at h;cases h)]
           exact J9 hQ))
noncomputable def xW(K:W.Frag)(a:Addr):It:=
 ⟨λi H=>∃xs x,bg K H a xs/\xs[i]?=some x,λi H x H'=>H'=H/\∀xs,bg K H a xs->xs[i]?=some x,λi H=>∃xs,bg K H a xs/\xs.length<=i⟩
noncomputable def xl(K:W.Frag)(a:Addr):It:=
 ⟨λi H=>∃xs x,bq K H a xs/\xs[i]?=some x,λi H x H'=>H'=H/\∀xs,bq K H a xs->xs[i]?=some x,λi H=>∃xs,bq K H a xs/\xs.length<=i⟩
noncomputable def De(lo:Int)(n:Nat):It:=⟨λi _=>i<n,λi H x H'=>H'=H/\x=.int (lo+i),λi _=>n<=i⟩
def vH(a it:Addr):Turn P w K tg (xW K a) [it] it (λi h=>h.IsListIter it a i) where
 mem:=by simp
 obj:=λi h st b hb=>by
  have e:b=it:=by simpa using hb
  subst e;obtain⟨o,e,c,d⟩:=st;exact⟨o,e,λv z=>by rw[d] at z;cases z⟩
 keep:=λi h h' st k=>st.at λo e=>k it (by simp) o e
 item:=by
  intro X hP hw hK hc i pins s σ H E I hf st hg;subst hP hw hK;obtain⟨xs,x,hq,hx⟩:=hg;obtain⟨its,rv,p,hz⟩:=I.list hq;obtain⟨u,hu,ru⟩:=rv.get hx;obtain⟨f0,f1,f2,f3,f4,f5⟩:=hf it (by simp)
  refine NW st p.isList (x:=u) (by simpa using hu) λh' st' sb=>?_
  have I1:Inv X pins σ H {s with heap:=h'}:=I.turned (t':=s.toks) (λb o hb e=>(sb.2 b hb).trans e) f0 f1 f3 f4 f5
  obtain⟨o,e,c,d⟩:=id st';exact⟨u,rfl,zF (s:={s with heap:=h'}) e c d (by decide) ⟨x,H,I1,ru,⟨rfl,λys hy=>by rw[I.kC hy hq];exact hx⟩,st',λb hb=>(hf b hb).1⟩⟩
 done:=by
  intro X hP hw hK hc i pins s σ H E I hf st hg;subst hP hw hK;obtain⟨xs,hq,hx⟩:=hg;obtain⟨its,rv,p,hz⟩:=I.list hq;obtain⟨f0,f1,f2,f3,f4,f5⟩:=hf it (by simp)
  have hl:=rv.length;exact wpAny_pyNext_list_end (I.ok.hd hc) st p.isList (by simp;lia) λh' eb=>⟨rfl,I.turned (t':=s.toks) (λb o hb e=>eb b o hb e) f0 f1 f3 f4 f5⟩
 self:=λ_ _ _ _ _ st h=>wpAny_pyIter_listiter st h
def rO(a it:Addr):Turn P w K tg (xl K a) [it] it (λi h=>h.IsTupleIter it a i) where
 mem:=by simp
 obj:=λi h st b hb=>by
  have e:b=it:=by simpa using hb
  subst e;obtain⟨o,e,c,d⟩:=st;exact⟨o,e,λv z=>by rw[d] at z;cases z⟩
 keep:=λi h h' st k=>st.at λo e=>k it (by simp) o e
 item:=by
  intro X hP hw hK hc i pins s σ H E I hf st hg;subst hP hw hK;obtain⟨xs,x,hq,hx⟩:=hg;obtain⟨its,rv,p,hz⟩:=I.tuple hq;obtain⟨u,hu,ru⟩:=rv.get hx;obtain⟨f0,f1,f2,f3,f4,f5⟩:=hf it (by simp)
  refine wpAny_pyNext_tuple_item st (show s.heap.IsTuple a its.toArray from p) (x:=u) (by simpa using hu) λh' st' sb=>?_
  have I1:Inv X pins σ H {s with heap:=h'}:=I.turned (t':=s.toks) (λb o hb e=>(sb.2 b hb).trans e) f0 f1 f3 f4 f5
  obtain⟨o,e,c,d⟩:=id st';exact⟨u,rfl,zF (s:={s with heap:=h'}) e c d (by decide) ⟨x,H,I1,ru,⟨rfl,λys hy=>by rw[I.iT hy hq];exact hx⟩,st',λb hb=>(hf b hb).1⟩⟩
 done:=by
  intro X hP hw hK hc i pins s σ H E I hf st hg;subst hP hw hK;obtain⟨xs,hq,hx⟩:=hg;obtain⟨its,rv,p,hz⟩:=I.tuple hq;obtain⟨f0,f1,f2,f3,f4,f5⟩:=hf it (by simp)
  have hl:=rv.length;exact wpAny_pyNext_tuple_end (I.ok.hd hc) st (show s.heap.IsTuple a its.toArray from p) (by simp;lia) λh' eb=>⟨rfl,I.turned (t':=s.toks) (λb o hb e=>eb b o hb e) f0 f1 f3 f4 f5⟩
 self:=λ_ _ _ _ _ st h=>wpAny_pyIter_tupleiter st h
def rg{w:World}{K:PySem.W.Frag}(it:Addr)(lo:Int)(n:Nat):Turn P w K tg (De lo n) [it] it (λi h=>IsRangeIter h it (lo+(i:Nat)*1) ((n:Int)-(i:Nat)) 1) where
 mem:=by simp
 obj:=λi h st b hb=>by
  have e:b=it:=by simpa using hb
  subst e;exact⟨_,st,λv z=>by
   have z':Data.fields _=Data.cell v:=z
   cases z'⟩
 keep:=λi h h' st k=>k it (by simp) _ st
 item:=by
  intro X hP hw hK hc i pins s σ H E I hf st hg;subst hP hw hK;obtain⟨f0,f1,f2,f3,f4,f5⟩:=hf it (by simp)
  have W:=Walks.range (prog:=X.prog) (w:=X.w) (I.ok.hd hc) it lo 1 n;refine W.item i s _ _ hg st λv h' tk hv st' kk=>?_;obtain⟨t,rfl⟩:=hv;have I1:Inv X pins σ H {s with heap:=h',toks:=tk}:=I.turned (λb o hb e=>kk b o (by simpa using hb) e) f0 f1 f3 f4 f5
  refine⟨_,rfl,zF (s:={s with heap:=h',toks:=tk}) (n:="range_iterator") st' rfl rfl (by decide) ⟨.int (lo+i),H,I1,⟨t,?_⟩,⟨rfl,rfl⟩,st',λb hb=>(hf b hb).1⟩⟩
  rw[Int.mul_one]
 done:=by
  intro X hP hw hK hc i pins s σ H E I hf st hg;subst hP hw hK;obtain⟨f0,f1,f2,f3,f4,f5⟩:=hf it (by simp)
  exact wpAny_pyNext_range_end (I.ok.hd hc) st (by have:n<=i:=hg;lia) λh' eb=>⟨rfl,I.turned (t':=s.toks) (λb o hb e=>eb b o hb e) f0 f1 f3 f4 f5⟩
 self:=λ_ _ _ _ _ st h=>wpAny_pyIter_rangeiter st h
section
variable {X:Cx} {tg:Expr}
def yH{s:Shared}{R:It->Hp->Prop}{lo hi:Int}{t u v:Tok}{tk:Nat}(I:Inv X pins σ H s)(h1:-(2^62)<=lo)(h2:lo<2^62)(h3:-(2^62)<=hi)(h4:hi<2^62)
  (q:R (De lo (hi-lo).toNat) H):wpAny (model X.prog X.w) X.A (pyIter (.ref s.heap.objs.size)) (Iw X pins σ tg R) E {s with heap:=s.heap.push {cls:=.type "range",data:=.fields #[.int lo t,.int hi u,.int 1 v]},toks:=tk}:=by
 refine wpAny_pyIter_range (IsRange.new ..) (small_one h1 h2 h3 h4) ?_;have I1:Inv X pins σ H {s with heap:=s.heap.push {cls:=.type "range",data:=.fields #[.int lo t,.int hi u,.int 1 v]},toks:=tk}:=I.kept λb o e=>J5 _ e
 refine⟨(s.heap.push {cls:=.type "range",data:=.fields #[.int lo t,.int hi u,.int 1 v]}).objs.size,[(s.heap.push {cls:=.type "range",data:=.fields #[.int lo t,.int hi u,.int 1 v]}).objs.size],_,_,H,rfl,
  I1.kept (t':=tk) λb o e=>J5 _ e,rg _ lo (hi-lo).toNat,?_,λb hb=>?_,q⟩
 ·have e1:lo+((0:Nat):Int)*1=lo:=by simp
  have e2:(((hi-lo).toNat:Nat):Int)-((0:Nat):Int)=Builtin.Range.rangeSize lo hi 1:=by rw[rangeSize_one];split<;>lia
  show IsRangeIter _ _ (lo+((0:Nat):Int)*1) ((((hi-lo).toNat:Nat):Int)-((0:Nat):Int)) 1;rw[e1,e2];exact JK _ rfl
 ·have e:b=(s.heap.push {cls:=.type "range",data:=.fields #[.int lo t,.int hi u,.int 1 v]}).objs.size:=by simpa using hb
  subst e;exact I1.vS (J8 _) (I1.aP.fresh (J8 _))
def mQ(ta:TA):TI:=λσ H R=>ta σ H λvs H1=>∃j:Int,vs=[.int j]/\-(2^62)<=j/\j<2^62/\R (De 0 j.toNat) H1
def wD{a:Expr}{ta:TA}{p pos:Pos}(hg:Gl X "range")(hm:X.mg "range"=none)(ha:PA X [a] ta)(hs:autoParam (starEach [a] X.env=[(false,eval a X.env)]) ℜ0):PI X tg (.Call (.Name "range" p) [a] [] pos) (mQ ta):=by
 intro pins s σ H R I h;refine Call_ (fS I hg hm boot_range (KJ (bN (ha pos pins s σ H _ I h) λus s1 hq31=>?_) hs rfl));obtain⟨vs,H1,I1,r1,q1⟩:=hq31;obtain⟨j,e,q1,q2,q⟩:=q1;subst e
 cases r1 with
 |cons r rr =>
  cases rr;obtain⟨t,rfl⟩:=r;exact call_range_1 (yH I1 (by lia) (by lia) q1 q2 (by simpa using q))
def EJ(wi:TI)(g:TG)(tb:TS):TS:=λD σ H=>wi σ H λJ H1=>∃W:Nat->Nat->St->Hp->Prop,(∃m,W 0 m σ H1)/\∀i m σ H,W i m σ H ->
 (J.stop i H/\D.nx σ H)\/(J.go i H/\∃N:St->Hp->Prop,(∀σ' H',N σ' H'->∃m',m'<m/\W (i+1) m' σ' H')/\∀x H',J.Dg i H x H'->g x σ H' λσ2 H2=>tb {D with nx:=N,ct:=N,bk:=D.nx} σ2 H2)
noncomputable def jb(fp:List Addr)(h:Heap):List (Addr×Obj):=fp.filterMap λb=>(h.get? b).map λo=>(b,o)
def dZ{o:Obj}(hb:b∈fp)(e:h.get? b=some o):(b,o)∈jb fp h:=Mw.mpr ⟨b,hb,by rw[e];rfl⟩
def w8{p:Addr×Obj}(hp:p∈jb fp h):p.1∈fp/\h.get? p.1=some p.2:=by
 obtain⟨b,hb,e⟩:=Mw.mp hp
 cases q:h.get? b with
 |none=>rw[q] at e;cases e
 |some o =>
  rw[q] at e;have e':(b,o)=p:=Option.some.inj e;subst e';exact⟨hb,q⟩
def Inv.pinned{s:Shared}(I:Inv X pins σ H s)(hf:∀b∈fp,m3 X pins H b)(ho:∀b∈fp,∃o,s.heap.get? b=some o/\∀v,o.data≠.cell v):Inv X (pins++jb fp s.heap) σ H s:=
 I.nW λp hp=>(Ki.mp hp).elim (λz=>I.pin p (JR _ z)) λz=>by
  obtain⟨hb,e⟩:=w8 z;obtain⟨f0,f1,f2,_⟩:=hf p.1 hb;obtain⟨o,e',d⟩:=ho p.1 hb;rw[e] at e';cases e';exact⟨e,f0,f1,f2,d⟩
def Inv.gz{pl:List (Addr×Obj)}{s:Shared}(I:Inv X (pins++pl) σ H s):Inv X pins σ H s:=I.nW λp hp=>I.pin p (JR _ (KL _ hp))
def ES{iter:Expr}{wi:TI}{g:TG}{pos:Pos}(hp:PassesOwn (model X.prog X.w) X.A X.env X.xe)(hc:X.calm=true)(hi:PI X tg iter wi)(hg:PG X tg g)(hb:sI X body tb)
  (hs:autoParam (∀x,foldedSetIterable iter X.env x=pure x) ℜ3):PS X (.For tg iter body [] pos) (EJ wi g tb):=by
 intro pins s σ H D I h;refine wpAny_For (bN (hi pins s σ H _ I h) λv s1 h1=>bN h1 λitv s2 h2=>?_) hs;obtain⟨it,fp,tn,J,H2,e,I2,T,st2,f2,W,⟨m0,w0⟩,turn⟩:=h2;subst e;have stat:∀{H':Hp},(∀b∈fp,H' b=none)->∀b∈fp,m3 X pins H' b:=λhn b hb=>⟨hn b hb,(f2 b hb).2⟩;refine codeAny_forLoop_any (λn s'=>∃i σ' H',Inv X pins σ' H' s'/\tn i s'.heap/\(∀b∈fp,H' b=none)/\W i n σ' H') ?_ m0 ⟨0,σ,H2,I2,st2,λb hb=>(f2 b hb).1,w0⟩;rintro n s3 ⟨i,σ3,H3,I3,st3,fr3,w3⟩;rcases turn i n σ3 H3 w3 with ⟨stop,qn⟩|⟨go,N,hN,step⟩
 ·refine LA hp (bN (T.done X rfl rfl rfl hc i pins s3 σ3 H3 X.xe I3 (stat fr3) st3 stop) λr s4 hq33=>?_);obtain⟨hr,I4⟩:=hq33;subst hr;exact MO ⟨σ3,H3,I4,qn⟩
 ·refine LA hp (bN (T.item X rfl rfl rfl hc i pins s3 σ3 H3 X.xe I3 (stat fr3) st3 go) λr s4 hq34=>?_);obtain⟨u,hr,h4⟩:=hq34;subst hr;refine LA hp (bN h4 λ_ s5 hq35=>?_);obtain⟨x,H5,I5,r5,y5,st5,fr5⟩:=hq35;have I5':=I5.pinned (stat fr5) (T.obj _ _ st5);refine LA hp (bN (hg _ s5 σ3 H5 x u _ I5' r5 (step x H5 y5)) λ_ s6 hq36=>?_);obtain⟨σ6,H6,I6,q6⟩:=hq36;refine LA hp (bN (hb _ s6 σ6 H6 _ I6 q6) λf s7 q7=>?_);have again:∀{σ7:St} {H7:Hp},Inv X (pins++jb fp s5.heap) σ7 H7 s7->N σ7 H7->∃m,m<n/\∃i σ' H',Inv X pins σ' H' s7/\tn i s7.heap/\(∀b∈fp,H' b=none)/\W i m σ' H':=λ{σ7 H7} I7 n7=>by
   obtain⟨m',hm,w7⟩:=hN σ7 H7 n7;refine⟨m',hm,i+1,σ7,H7,I7.gz,T.keep _ _ _ st5 λb hb o e=>(I7.pin (b,o) (JR _ (JR _ (dZ hb e)))).1,λb hb=>?_,w7⟩;obtain⟨o,e,d⟩:=T.obj _ _ st5 b hb;exact (I7.pin (b,o) (JR _ (JR _ (dZ hb e)))).2.1
  cases f with
  |next=>obtain⟨σ7,H7,I7,n7⟩:=q7;exact again I7 n7
  |cont=>obtain⟨σ7,H7,I7,n7⟩:=q7;exact again I7 n7
  |brk=>obtain⟨σ7,H7,I7,q7⟩:=q7;exact⟨σ7,H7,I7.gz,q7⟩
  |ret v=>obtain⟨x7,σ7,H7,I7,r7,q7⟩:=q7;exact⟨x7,σ7,H7,I7.gz,r7,q7⟩
end
def yW{K:PySem.W.Frag}{g:TG}(Pv:Nat->St->Hp->Prop)(h0:Pv 0 σ H)(hl:∀i σ H,i<=xs.length->Pv i σ H->bg K H a xs)
  (hs:∀i x σ H,xs[i]?=some x->Pv i σ H->g x σ H λσ2 H2=>tb {D with nx:=Pv (i+1),ct:=Pv (i+1),bk:=D.nx} σ2 H2) (hd:∀σ H,Pv xs.length σ H->D.nx σ H) :
  ∃W:Nat->Nat->St->Hp->Prop,(∃m,W 0 m σ H)/\∀i m σ H,W i m σ H ->
   ((xW K a).stop i H/\D.nx σ H)\/((xW K a).go i H/\∃N:St->Hp->Prop,(∀σ' H',N σ' H'->∃m',m'<m/\W (i+1) m' σ' H')/\∀x H',(xW K a).Dg i H x H'->g x σ H' λσ2 H2=>tb {D with nx:=N,ct:=N,bk:=D.nx} σ2 H2):=by
 refine⟨λi m σ H=>m=xs.length-i/\i<=xs.length/\Pv i σ H,⟨xs.length,by simp,JJ _,h0⟩,?_⟩
 rintro i m σ H ⟨rfl,hi,p⟩;have q:=hl i σ H hi p;by_cases hlt:i<xs.length
 ·refine .inr ⟨⟨xs,xs[i],q,by simp[hlt]⟩,Pv (i+1),λσ' H' p'=>⟨xs.length-(i+1),by lia,rfl,hlt,p'⟩,λx H' y=>?_⟩
  obtain⟨e,y⟩:=y;subst e;exact hs i x σ _ (y xs q) p
 ·have e:i=xs.length:=by lia
  subst e;exact .inl ⟨⟨xs,q,J8 _⟩,hd σ H p⟩
def B6{K:PySem.W.Frag}{g:TG}(Pv:Nat->St->Hp->Prop)(h0:Pv 0 σ H)(hl:∀i σ H,i<=xs.length->Pv i σ H->bq K H a xs)
  (hs:∀i x σ H,xs[i]?=some x->Pv i σ H->g x σ H λσ2 H2=>tb {D with nx:=Pv (i+1),ct:=Pv (i+1),bk:=D.nx} σ2 H2) (hd:∀σ H,Pv xs.length σ H->D.nx σ H) :
  ∃W:Nat->Nat->St->Hp->Prop,(∃m,W 0 m σ H)/\∀i m σ H,W i m σ H ->
   ((xl K a).stop i H/\D.nx σ H)\/((xl K a).go i H/\∃N:St->Hp->Prop,(∀σ' H',N σ' H'->∃m',m'<m/\W (i+1) m' σ' H')/\∀x H',(xl K a).Dg i H x H'->g x σ H' λσ2 H2=>tb {D with nx:=N,ct:=N,bk:=D.nx} σ2 H2):=by
 refine⟨λi m σ H=>m=xs.length-i/\i<=xs.length/\Pv i σ H,⟨xs.length,by simp,JJ _,h0⟩,?_⟩
 rintro i m σ H ⟨rfl,hi,p⟩;have q:=hl i σ H hi p;by_cases hlt:i<xs.length
 ·refine .inr ⟨⟨xs,xs[i],q,by simp[hlt]⟩,Pv (i+1),λσ' H' p'=>⟨xs.length-(i+1),by lia,rfl,hlt,p'⟩,λx H' y=>?_⟩
  obtain⟨e,y⟩:=y;subst e;exact hs i x σ _ (y xs q) p
 ·have e:i=xs.length:=by lia
  subst e;exact .inl ⟨⟨xs,q,J8 _⟩,hd σ H p⟩
def wF{lo:Int}{n:Nat}{g:TG}(Pv:Nat->St->Hp->Prop)(h0:Pv 0 σ H)
  (hs:∀i σ H,i<n->Pv i σ H->g (.int (lo+i)) σ H λσ2 H2=>tb {D with nx:=Pv (i+1),ct:=Pv (i+1),bk:=D.nx} σ2 H2) (hd:∀σ H,Pv n σ H->D.nx σ H) :
  ∃W:Nat->Nat->St->Hp->Prop,(∃m,W 0 m σ H)/\∀i m σ H,W i m σ H ->
   ((De lo n).stop i H/\D.nx σ H)\/((De lo n).go i H/\∃N:St->Hp->Prop,(∀σ' H',N σ' H'->∃m',m'<m/\W (i+1) m' σ' H')/\∀x H',(De lo n).Dg i H x H'->g x σ H' λσ2 H2=>tb {D with nx:=N,ct:=N,bk:=D.nx} σ2 H2):=by
 refine⟨λi m σ H=>m=n-i/\i<=n/\Pv i σ H,⟨n,by simp,JJ _,h0⟩,?_⟩
 rintro i m σ H ⟨rfl,hi,p⟩;by_cases hlt:i<n
 ·refine .inr ⟨hlt,Pv (i+1),λσ' H' p'=>⟨n-(i+1),by lia,rfl,hlt,p'⟩,λx H' y=>?_⟩
  obtain⟨e,y⟩:=y;subst e y;exact hs i σ _ hlt p
 ·have e:i=n:=by lia
  subst e;exact .inl ⟨J8 _,hd σ H p⟩
abbrev R2:=V->V->Hp->VK->Prop
variable{r r':R2}
def cY(X:Cx)(f:Value->Value->Sem Value)(r:R2):Prop:=
 ∀(pins:List (Addr×Obj)) (s:Shared) (σ:St) (H:Hp) (x y:V) (v u:Value) (Q:VK),Inv X pins σ H s->RelV x v->RelV y u->r x y H Q ->
  wpAny (model X.prog X.w) X.A (f v u) (EP X pins σ Q) X.xe s
def HN(X:Cx)(f:Value->Sem Value)(r:V->Hp->VK->Prop):Prop:=
 ∀(pins:List (Addr×Obj)) (s:Shared) (σ:St) (H:Hp) (x:V) (v:Value) (Q:VK),Inv X pins σ H s->RelV x v->r x H Q ->
  wpAny (model X.prog X.w) X.A (f v) (EP X pins σ Q) X.xe s
def aZ(X:Cx)(f:Value)(r:List V->Hp->VK->Prop):Prop:=
 ∀(pins:List (Addr×Obj)) (s:Shared) (σ:St) (H:Hp) (xs:List V) (us:List Value) (Q:VK),Inv X pins σ H s->Vals xs us->r xs H Q ->
  wpAny (model X.prog X.w) X.A (call f us) (EP X pins σ Q) X.xe s
def IF(X:Cx)(r:V->Hp->(Bool->Hp->Prop)->Prop):Prop:=
 ∀(pins:List (Addr×Obj)) (s:Shared) (σ:St) (H:Hp) (x:V) (v:Value) (Q:Bool->Hp->Prop),Inv X pins σ H s->RelV x v->r x H Q ->
  wpAny (model X.prog X.w) X.A (truthy v) (TP X pins σ Q) X.xe s
def wQ(r:R2)(ta tb:TE):TE:=λσ H Q=>ta σ H λx H1=>tb σ H1 λy H2=>r x y H2 Q
def Hy(r:V->Hp->VK->Prop)(ta:TE):TE:=λσ H Q=>ta σ H λx H1=>r x H1 Q
def rI(C:Int->Int->Prop)(g:Int->Int->V):R2:=λx y H Q=>∃i j,x=.int i/\y=.int j/\C i j/\Q (g i j) H
def Ag(g:Int->Int->V):R2:=λx y H Q=>∃i j,x=.int i/\y=.int j/\Q (g i j) H
def rU(g:Int->V):V->Hp->VK->Prop:=λx H Q=>∃i,x=.int i/\Q (g i) H
section
variable {X:Cx} {a b c:Expr} {ta tb tc:TE} {pos:Pos}
def Fz(ha:PE X a ta)(hb:PE X b tb){s:Shared}{R:V->V->Hp->Prop}(I:Inv X pins σ H s)
  (h:ta σ H λx H1=>tb σ H1 λy H2=>R x y H2)  
  (hf:∀v u s2 x y H2,Inv X pins σ H2 s2->RelV x v->RelV y u->R x y H2->wpAny (model X.prog X.w) X.A (f v u) Q X.xe s2) :
  wpAny (model X.prog X.w) X.A (eval a X.env) (λv s₁=>wpAny (model X.prog X.w) X.A (eval b X.env) (λu s₂=>wpAny (model X.prog X.w) X.A (f v u) Q X.xe s₂) X.xe s₁) X.xe s:=by
 refine bN (ha pins s σ H _ I h) λv s1 hq37=>?_;obtain⟨x,H1,I1,r1,q1⟩:=hq37;refine bN (hb pins s1 σ H1 _ I1 q1) λu s2 hq38=>?_;obtain⟨y,H2,I2,r2,q2⟩:=hq38;exact hf v u s2 x y H2 I2 r1 r2 q2
def HB{op:Operator}(ho:cY X (binaryOp op) r)(ha:PE X a ta)(hb:PE X b tb):PE X (.BinOp a op b pos) (wQ r ta tb):=by
 intro pins s σ H Q I h;exact wpAny_BinOp (Fz ha hb I h λv u s2 x y H2 I2 rx ry q=>ho pins s2 σ H2 x y v u Q I2 rx ry q)
def GU{op:UnaryOp}{r:V->Hp->VK->Prop}(ho:HN X (unaryOp op) r)(ha:PE X a ta):PE X (.UnaryOp op a pos) (Hy r ta):=by
 intro pins s σ H Q I h;exact UnaryOp_ (bN (ha pins s σ H _ I h) λv s1 ⟨x,H1,I1,r1,q1⟩=>ho pins s1 σ H1 x v Q I1 r1 q1)
def Gk{C:Int->Int->Prop}
  (rule:∀(i j:Int) (t u:Tok) (s:Shared) (Q:Value->Shared->Prop) (E:Value->Shared->Prop),C i j->Q (.int (g i j) s.toks) {s with toks:=s.toks+1}->wpAny (model X.prog X.w) X.A (f (.int i t) (.int j u)) Q E s) :
  cY X f (rI C λi j=>.int (g i j)):=by
 intro pins s σ H x y v u Q I rx ry h;obtain⟨i,j,rfl,rfl,hc,q⟩:=h;obtain⟨t,rfl⟩:=rx;obtain⟨t',rfl⟩:=ry;exact rule i j t t' s _ _ hc ⟨.int (g i j),H,I.tok _,⟨_,rfl⟩,q⟩
def Gm
  (rule:∀(i j:Int) (t u:Tok) (s:Shared) (Q:Value->Shared->Prop) (E:Value->Shared->Prop),Q (.int (g i j) s.toks) {s with toks:=s.toks+1}->wpAny (model X.prog X.w) X.A (f (.int i t) (.int j u)) Q E s) :
  cY X f (Ag λi j=>.int (g i j)):=by
 intro pins s σ H x y v u Q I rx ry h;obtain⟨i,j,rfl,rfl,q⟩:=h;obtain⟨t,rfl⟩:=rx;obtain⟨t',rfl⟩:=ry;exact rule i j t t' s _ _ ⟨.int (g i j),H,I.tok _,⟨_,rfl⟩,q⟩
def Cu{g:Int->Int->Bool}
  (rule:∀(i j:Int) (t u:Tok) (s:Shared) (Q:Value->Shared->Prop) (E:Value->Shared->Prop),Q (.bool (g i j)) s->wpAny (model X.prog X.w) X.A (f (.int i t) (.int j u)) Q E s) :
  cY X f (Ag λi j=>.bl (g i j)):=by
 intro pins s σ H x y v u Q I rx ry h;obtain⟨i,j,rfl,rfl,q⟩:=h;obtain⟨t,rfl⟩:=rx;obtain⟨t',rfl⟩:=ry;exact rule i j t t' s _ _ ⟨.bl (g i j),H,I,rfl,q⟩
def IA(i j:Int):Prop:=0<j/\j<1073741824
def GX(i j:Int):Prop:=0<=j/\j<=1000000/\i.natAbs<2^64
def ze(i j:Int):Prop:=(-(2^64)<i/\i<2^64)\/(-(2^64)<j/\j<2^64)
def ze.ok{i j:Int}(h:ze i j):IntMulOk i j:=by
 rcases h with ⟨h1,h2⟩|⟨h1,h2⟩
 ·exact .of_left (intBits_le_64 h1 h2)
 ·exact .of_right (intBits_le_64 h1 h2)
def yj:cY X (binaryOp .Add) (Ag λi j=>.int (i+j)):=Gm λ_ _ _ _ _ _ _ q=>add_int q
def cw:cY X (binaryOp .Sub) (Ag λi j=>.int (i-j)):=Gm λ_ _ _ _ _ _ _ q=>sub_int q
def Fc:cY X (binaryOp .Mult) (rI ze λi j=>.int (i*j)):=Gk λ_ _ _ _ _ _ _ hc q=>mul_int q hc.ok
def jP:cY X (binaryOp .FloorDiv) (rI IA λi j=>.int (i / j)):=Gk λi j _ _ _ _ _ hc q=>by
 have h1:(0:Int)<j:=hc.1;have h2:j<1073741824:=hc.2;exact floordiv_int (by lia) (by rw[Int.fdiv_eq_ediv_of_nonneg i (by lia)];exact q) (.inl (PyProof.noPylong_small (by lia)))
def dA:cY X (binaryOp .Mod) (rI (λ_ j=>0<j) λi j=>.int (i % j)):=Gk λi j _ _ _ _ _ hc q=>by
 have h1:(0:Int)<j:=hc;exact mod_int' (by lia) (by rw[Int.fmod_eq_emod_of_nonneg i (by lia)];exact q)
def xP:cY X (binaryOp .Pow) (rI GX λi j=>.int (i^j.toNat)):=Gk λ_ _ _ _ _ _ _ hc q=>pow_int_small hc.1 hc.2.1 hc.2.2 q
def DY:cY X (binaryOp .LShift) (rI GX λi j=>.int (i*2^j.toNat)):=Gk λ_ _ _ _ _ _ _ hc q=>lshift_int_small hc.1 hc.2.1 hc.2.2 q
def Jm{f:Value->Sem Value}{g:Int->Int}
  (rule:∀(i:Int) (t:Tok) (s:Shared) (Q:Value->Shared->Prop) (E:Value->Shared->Prop),Q (.int (g i) s.toks) {s with toks:=s.toks+1}->wpAny (model X.prog X.w) X.A (f (.int i t)) Q E s) :
  HN X f (rU λi=>.int (g i)):=by
 intro pins s σ H x v Q I rx h;obtain⟨i,rfl,q⟩:=h;obtain⟨t,rfl⟩:=rx;exact rule i t s _ _ ⟨.int (g i),H,I.tok _,⟨_,rfl⟩,q⟩
def bM:HN X (unaryOp .USub) (rU λi=>.int (-i)):=Jm λ_ _ _ _ _ q=>neg_int q
end
noncomputable def Ge:V->V->Bool
 |.aL,.aL=>true|.aL,.int _=>true|.int _,.aL=>true|.aL,.bl _=>true|.bl _,.aL=>true|.aL,.str _=>true|.str _,.aL=>true
 |.int _,.int _=>true|.bl _,.bl _=>true|.str _,.str _=>true|.qX _,.qX _=>true
 |.int _,.str _=>true|.str _,.int _=>true|.bl _,.str _=>true|.str _,.bl _=>true
 |_,_=>false
def FQ:R2:=λx y H Q=>Ge x y=true/\Q (.bl (decide (x=y))) H
def HR:R2:=λx y H Q=>Ge x y=true/\Q (.bl (!decide (x=y))) H
def t4{i j:Int}:decide (V.int i=V.int j)=(i == j):=by
 rw[MP];simp
def zB{i j:Bool}:decide (V.bl i=V.bl j)=(i == j):=by
 rw[MP];simp
def uz{i j:Str}:decide (V.str i=V.str j)=(i == j):=by
 rw[MP];simp
def uC{i j:Array UInt8}:decide (V.qX i=V.qX j)=(i.toList == j.toList):=by
 rw[MP];cases i;cases j;simp
section
variable {X:Cx} {a b c:Expr} {ta tb tc:TE} {pos:Pos}
def aQ{s:Shared}{Q:VK}{k k':Bool}(I:Inv X pins σ H s)(q:Q (.bl k) H)(e:k=k'):EP X pins σ Q (.bool k') s:=by
 subst e;exact⟨.bl k,H,I,rfl,q⟩
def FV:cY X (compareOp .Eq) FQ:=by
 intro pins s σ H x y v u Q I rx ry h;obtain⟨hs,q⟩:=h
 cases x with
 |aL =>
  cases rx
  cases y with
  |aL=>cases ry;exact PySem.EqNone.eq_none_none (aQ I q (by simp))
  |bl j=>cases ry;exact PySem.EqNone.eq_none_bool (aQ I q (by simp))
  |int j=>obtain⟨t',rfl⟩:=ry;exact PySem.EqNone.eq_none_int (aQ I q (by simp))
  |str j=>obtain⟨t',rfl⟩:=ry;exact PySem.EqNone.eq_none_str (aQ I q (by simp))
  |_=>exact absurd (show false=true from hs) JF
 |bl i =>
  cases rx
  cases y with
  |aL=>cases ry;exact PySem.EqNone.eq_bool_none (aQ I q (by simp))
  |bl j=>cases ry;exact eq_bool (aQ I q zB)
  |str j=>obtain⟨t',rfl⟩:=ry;exact PySem.EqMixed.eq_bool_str (aQ I q (by simp))
  |_=>exact absurd (show false=true from hs) JF
 |int i =>
  obtain⟨t,rfl⟩:=rx
  cases y with
  |aL=>cases ry;exact PySem.EqNone.eq_int_none (aQ I q (by simp))
  |int j=>obtain⟨t',rfl⟩:=ry;exact eq_int (aQ I q t4)
  |str j=>obtain⟨t',rfl⟩:=ry;exact PySem.EqMixed.eq_int_str (aQ I q (by simp))
  |_=>exact absurd (show false=true from hs) JF
 |str i =>
  obtain⟨t,rfl⟩:=rx
  cases y with
  |aL=>cases ry;exact PySem.EqNone.eq_str_none (aQ I q (by simp))
  |bl j=>cases ry;exact PySem.EqMixed.eq_str_bool (aQ I q (by simp))
  |int j=>obtain⟨t',rfl⟩:=ry;exact PySem.EqMixed.eq_str_int (aQ I q (by simp))
  |str j=>obtain⟨t',rfl⟩:=ry;exact eq_str (aQ I q uz)
  |_=>exact absurd (show false=true from hs) JF
 |qX i =>
  obtain⟨t,rfl⟩:=rx
  cases y with
  |qX j=>obtain⟨t',rfl⟩:=ry;exact W.eq_bytes (aQ I q uC)
  |_=>exact absurd (show false=true from hs) JF
 |_=>cases y<;>exact absurd (show false=true from hs) JF
def Hz:cY X (compareOp .NotEq) HR:=by
 intro pins s σ H x y v u Q I rx ry h;obtain⟨hs,q⟩:=h
 cases x with
 |aL =>
  cases rx
  cases y with
  |aL=>cases ry;exact PySem.EqNone.ne_none_none (aQ I q (by simp))
  |bl j=>cases ry;exact PySem.EqNone.ne_none_bool (aQ I q (by simp))
  |int j=>obtain⟨t',rfl⟩:=ry;exact PySem.EqNone.ne_none_int (aQ I q (by simp))
  |str j=>obtain⟨t',rfl⟩:=ry;exact PySem.EqNone.ne_none_str (aQ I q (by simp))
  |_=>exact absurd (show false=true from hs) JF
 |bl i =>
  cases rx
  cases y with
  |aL=>cases ry;exact PySem.EqNone.ne_bool_none (aQ I q (by simp))
  |bl j=>cases ry;exact ne_bool (aQ I q (Km not zB))
  |str j=>obtain⟨t',rfl⟩:=ry;exact PySem.EqMixed.ne_bool_str (aQ I q (by simp))
  |_=>exact absurd (show false=true from hs) JF
 |int i =>
  obtain⟨t,rfl⟩:=rx
  cases y with
  |aL=>cases ry;exact PySem.EqNone.ne_int_none (aQ I q (by simp))
  |int j=>obtain⟨t',rfl⟩:=ry;exact ne_int (aQ I q (Km not t4))
  |str j=>obtain⟨t',rfl⟩:=ry;exact PySem.EqMixed.ne_int_str (aQ I q (by simp))
  |_=>exact absurd (show false=true from hs) JF
 |str i =>
  obtain⟨t,rfl⟩:=rx
  cases y with
  |aL=>cases ry;exact PySem.EqNone.ne_str_none (aQ I q (by simp))
  |bl j=>cases ry;exact PySem.EqMixed.ne_str_bool (aQ I q (by simp))
  |int j=>obtain⟨t',rfl⟩:=ry;exact PySem.EqMixed.ne_str_int (aQ I q (by simp))
  |str j=>obtain⟨t',rfl⟩:=ry;exact ne_str (aQ I q (Km not uz))
  |_=>exact absurd (show false=true from hs) JF
 |qX i =>
  obtain⟨t,rfl⟩:=rx
  cases y with
  |qX j=>obtain⟨t',rfl⟩:=ry;exact W.ne_bytes (aQ I q (Km not uC))
  |_=>exact absurd (show false=true from hs) JF
 |_=>cases y<;>exact absurd (show false=true from hs) JF
def fW:cY X (compareOp .Lt) (Ag λi j=>.bl (decide (i<j))):=Cu λ_ _ _ _ _ _ _ q=>lt_int q
def CT:cY X (compareOp .LtE) (Ag λi j=>.bl (decide (i<=j))):=Cu λ_ _ _ _ _ _ _ q=>le_int q
def sR:cY X (compareOp .Gt) (Ag λi j=>.bl (decide (j<i))):=Cu λ_ _ _ _ _ _ _ q=>gt_int q
def xq:cY X (compareOp .GtE) (Ag λi j=>.bl (decide (j<=i))):=Cu λ_ _ _ _ _ _ _ q=>ge_int q
def vE:cY X (compareOp .In) (λx y H Q=>∃i j,x=.str i/\y=.str j/\Q (.bl (!(Builtin.Str.occurrences j i 0 j.length 1).isEmpty)) H):=by
 intro pins s σ H x y v u Q I rx ry h;obtain⟨i,j,rfl,rfl,q⟩:=h;obtain⟨t,rfl⟩:=rx;obtain⟨t',rfl⟩:=ry;exact in_str (aQ I q rfl)
def fE:cY X (compareOp .Is) (λx y H Q=>y=.aL/\Q (.bl (decide (x=.aL))) H):=by
 intro pins s σ H x y v u Q I rx ry h;obtain⟨rfl,q⟩:=h;cases ry;refine is_none_gen (aQ I q ?_)
 cases x<;>first
  | (cases rx;rfl)
  | (obtain⟨t,rfl⟩:=rx;rfl)
def eQ:cY X (compareOp .IsNot) (λx y H Q=>y=.aL/\Q (.bl (!decide (x=.aL))) H):=by
 intro pins s σ H x y v u Q I rx ry h;obtain⟨rfl,q⟩:=h;cases ry;refine isnot_none_gen (aQ I q ?_)
 cases x<;>first
  | (cases rx;rfl)
  | (obtain⟨t,rfl⟩:=rx;rfl)
def cY.or(h:cY X f r)(h':cY X f r'):cY X f (λx y H Q=>r x y H Q\/r' x y H Q):=by
 intro pins s σ H x y v u Q I rx ry q;rcases q with q|q
 ·exact h pins s σ H x y v u Q I rx ry q
 ·exact h' pins s σ H x y v u Q I rx ry q
def A8{op:CmpOp}(ho:cY X (compareOp op) r)(ha:PE X a ta)(hb:PE X b tb)(hm:behindInMarks op b=false):PE X (.Compare a [op] [b] pos) (wQ r ta tb):=by
 intro pins s σ H Q I h;exact wpAny_Compare1 (Fz ha hb I h λv u s2 x y H2 I2 rx ry q=>ho pins s2 σ H2 x y v u Q I2 rx ry q) hm
def lj(t:TE):TT:=λσ H Q=>t σ H λx H'=>∃k,x=.bl k/\Q k H'
def Bi{op:CmpOp}(ho:cY X (compareOp op) r)(ha:PE X a ta)(hb:PE X b tb)(hm:behindInMarks op b=false):PT X (.Compare a [op] [b] pos) (lj (wQ r ta tb)):=by
 intro pins s σ H Q I h;refine wpAny_isTrue_Compare1 (bN (ha pins s σ H _ I h) λv s1 ⟨x,H1,I1,r1,q1⟩=>bN (hb pins s1 σ H1 _ I1 q1) λu s2 ⟨y,H2,I2,r2,q2⟩=>
  bN (ho pins s2 σ H2 x y v u _ I2 r1 r2 q2) λc s3 ⟨z,H3,I3,r3,k,e,q3⟩=>?_) hm
 subst e;cases r3;exact Lq ⟨H3,I3,q3⟩
def hX(r r':R2)(ta tb tc:TE):TE:=λσ H Q=>ta σ H λx H1=>tb σ H1 λy H2=>r x y H2 λz H3=>∃k,z=.bl k /\
 (if k=true then tc σ H3 λw' H4=>r' y w' H4 Q else Q (.bl false) H3)
def xY{op:CmpOp}(ho:cY X (compareOp op) r)(ho':cY X (compareOp op') r')(ha:PE X a ta)(hb:PE X b tb)(hc:PE X c tc)
  (hm:autoParam (lastMarks [op,op'] [b,c]=false) ℜ5):PE X (.Compare a [op,op'] [b,c] pos) (hX r r' ta tb tc):=by
 intro pins s σ H Q I h;refine Compare_chain (bN (ha pins s σ H _ I h) λv s1 ⟨x,H1,I1,r1,q1⟩=>chain_link (bN (hb pins s1 σ H1 _ I1 q1) λu s2 ⟨y,H2,I2,r2,q2⟩=>
  bN (ho pins s2 σ H2 x y v u _ I2 r1 r2 q2) λd s3 ⟨z,H3,I3,r3,k,e,q3⟩=>?_)) hm
 subst e;cases r3;refine Lq ?_
 cases k with
 |false=>exact ite_ff ⟨.bl false,H3,I3,rfl,q3⟩
 |true=>exact ite_tt (chain_last (bN (hc pins s3 σ H3 _ I3 q3) λw' s4 ⟨z',H4,I4,r4,q4⟩=>ho' pins s4 σ H4 y z' u w' Q I4 r2 r4 q4))
def yL{op:CmpOp}(ho:cY X (compareOp op) r)(ho':cY X (compareOp op') r')(ha:PE X a ta)(hb:PE X b tb)(hc:PE X c tc)
  (hm:autoParam (lastMarks [op,op'] [b,c]=false) ℜ5):PT X (.Compare a [op,op'] [b,c] pos) (lj (hX r r' ta tb tc)):=by
 intro pins s σ H Q I h;refine isTrue_chain (bN (ha pins s σ H _ I h) λv s1 ⟨x,H1,I1,r1,q1⟩=>test_link (bN (hb pins s1 σ H1 _ I1 q1) λu s2 ⟨y,H2,I2,r2,q2⟩=>
  bN (ho pins s2 σ H2 x y v u _ I2 r1 r2 q2) λd s3 ⟨z,H3,I3,r3,k,e,q3⟩=>?_)) hm
 subst e;cases r3;refine Lq ?_
 cases k with
 |false =>
  obtain⟨k',e',q'⟩:=q3;cases e';exact ite_ff ⟨H3,I3,q'⟩
 |true =>
  refine ite_tt (test_last (bN (hc pins s3 σ H3 _ I3 q3) λw' s4 ⟨z',H4,I4,r4,q4⟩=>bN (ho' pins s4 σ H4 y z' u w' _ I4 r2 r4 q4) λd' s5 hq39=>?_));obtain⟨z2,H5,I5,r5,k2,e2,q5⟩:=hq39;subst e2;cases r5;exact Lq ⟨H5,I5,q5⟩
def xv(K:W.Frag)(x:V)(H:Hp)(k:Bool):Prop:=
 match x with
 |.aL=>k=false
 |.bl b=>k=b
 |.int i=>k=(i != 0)
 |.str y=>y.length<=sizeLine/\k=((y.length:Int) != 0)
 |.qX y=>y.size<=sizeLine/\k=((y.size:Int) != 0)
 |.ref p=>(∃xs,bg K H p xs/\k=!xs.isEmpty)\/(∃xs,bq K H p xs/\k=!xs.isEmpty)\/∃kvs,H p=some (.dK kvs)/\k=!kvs.isEmpty
 |_=>False
def rP{κ:Type}{kvs:List (κ×V)}{vs:List (κ×Value)}(r:KV kvs vs):(!vs.isEmpty)=!kvs.isEmpty:=by
 cases r<;>rfl
def ko{its:List Value}(r:Vals xs its):(!its.toArray.isEmpty)=!xs.isEmpty:=by
 cases r<;>simp
def jj:(sizeLine:Nat)<2^63:=by rw[Lb];decide
def DB:IF X (λx H Q=>∃k,xv X.K x H k/\Q k H):=by
 intro pins s σ H x v Q I rx h;obtain⟨k,e,q⟩:=h;have hl:=jj;have hs:sizeLine=16777216:=Lb
 cases x with
 |aL =>
  cases rx;have e':k=false:=e;subst e';exact truthy_none ⟨H,I,q⟩
 |bl b =>
  cases rx;have e':k=b:=e;subst e';exact Lq ⟨H,I,q⟩
 |int i =>
  obtain⟨t,rfl⟩:=rx;have e':k=(i != 0):=e;subst e';exact PySem.P.truthy_int ⟨H,I,q⟩
 |str y =>
  obtain⟨t,rfl⟩:=rx;obtain⟨hy,e'⟩:y.length<=sizeLine/\k=((y.length:Int) != 0):=e;subst e';exact PySem.P.truthy_str (by lia) ⟨H,I.tok _,q⟩
 |qX y =>
  obtain⟨t,rfl⟩:=rx;obtain⟨hy,e'⟩:y.size<=sizeLine/\k=((y.size:Int) != 0):=e;subst e';exact W.truthy_bytes (by lia) ⟨H,I.tok _,q⟩
 |ref p =>
  cases rx;have e':(∃xs,bg X.K H p xs/\k=!xs.isEmpty)\/(∃xs,bq X.K H p xs/\k=!xs.isEmpty)\/∃kvs,H p=some (.dK kvs)/\k=!kvs.isEmpty:=e;rcases e' with ⟨xs,hx,e'⟩|⟨xs,hx,e'⟩|⟨kvs,hx,e'⟩
  ·subst e';obtain⟨its,r,pl,hz⟩:=I.list hx;have hlen:=r.length;exact wpAny_truthy_list pl.isList (by simp only[JD];lia) ⟨H,I.tok _,by rw[ko r];exact q⟩
  ·subst e';obtain⟨its,r,pl,hz⟩:=I.tuple hx;have hlen:=r.length;exact truthy_tuple pl (by simp only[JD];lia) ⟨H,I.tok _,by rw[ko r];exact q⟩
  ·subst e';obtain⟨hz,hS,vs,r,m⟩:kvs.length<=sizeLine/\(p == sysModules)=false/\∃vs,KV kvs vs/\s.heap.DictOf (oX X.prog X.w) p vs:=I.aP p _ hx;have hlen:kvs.length=vs.length:=Paired.length r;exact wpAny_truthy_dict hS m (by lia) ⟨H,I.tok _,by rw[rP r];exact q⟩
 |_=>exact (show False from e).elim
def xH(ha:PE X a ta)(he:∀whole,isTrue a X.env whole=(do let v <- whole;standAt a.pos;holding [v] (truthy v))):
  PT X a (λσ H Q=>ta σ H λx H'=>∃k,xv X.K x H' k/\Q k H'):=by
 intro pins s σ H Q I h;exact isTrue_plain (bN (ha pins s σ H _ I h) λv s1 ⟨x,H1,I1,r1,q1⟩=>DB pins s1 σ H1 x v Q I1 r1 q1) (he _)
def lI:cY X (binaryOp .Add) (λx y H Q=>∃i j,x=.str i/\y=.str j/\i.length+j.length<=sizeLine/\Q (.str (i++j)) H):=by
 intro pins s σ H x y v u Q I rx ry h;obtain⟨i,j,rfl,rfl,hz,q⟩:=h;obtain⟨t,rfl⟩:=rx;obtain⟨t',rfl⟩:=ry;exact add_str (λt' tk=>⟨.str (i++j),H,I.tok _,⟨_,rfl⟩,q⟩) hz
def vals1{x:V}(r:Vals [x] us):∃u,us=[u]/\RelV x u:=by
 cases r with
 |cons r1 r2=>cases r2;exact⟨_,rfl,r1⟩
def vals2{x y:V}(r:Vals [x,y] us):∃u w',us=[u,w']/\RelV x u/\RelV y w':=by
 cases r with
 |cons r1 r2 =>
  cases r2 with
  |cons r3 r4=>cases r4;exact⟨_,_,rfl,r1,r3⟩
def yJ:aZ X (.builtin "abs") (λxs H Q=>∃i,xs=[.int i]/\Q (.int (if i<0 then -i else i)) H):=by
 intro pins s σ H xs us Q I r h;obtain⟨i,rfl,q⟩:=h;obtain⟨u,rfl,t,rfl⟩:=vals1 r;exact call_abs_int λu tk=>⟨.int (if i<0 then -i else i),H,I.tok _,⟨_,rfl⟩,q⟩
def vY(hc:X.calm=true):aZ X (.builtin "min") (λxs H Q=>∃i j,xs=[.int i,.int j]/\Q (.int (if j<i then j else i)) H):=by
 intro pins s σ H xs us Q I r h;obtain⟨i,j,rfl,q⟩:=h;obtain⟨u,w',rfl,⟨t,rfl⟩,⟨t',rfl⟩⟩:=vals2 r;refine min_two_ints (I.ok.hd hc) λh' tk k=>⟨_,H,I.kept k,?_,q⟩;by_cases hj:j<i
 ·rw[JA hj,JA hj];exact⟨_,rfl⟩
 ·rw[Jy hj,Jy hj];exact⟨_,rfl⟩
def mT:aZ X (.type "int") (λxs H Q=>(∃i,xs=[.int i]/\Q (.int i) H)\/∃k,xs=[.bl k]/\Q (.int (if k then 1 else 0)) H):=by
 intro pins s σ H xs us Q I r h;rcases h with ⟨i,rfl,q⟩|⟨k,rfl,q⟩
 ·obtain⟨u,rfl,t,rfl⟩:=vals1 r;exact call_int_int ⟨.int i,H,I,⟨_,rfl⟩,q⟩
 ·obtain⟨u,rfl,r1⟩:=vals1 r;cases r1;exact call_int_bool ⟨.int (if k then 1 else 0),H,I.tok _,⟨_,rfl⟩,q⟩
def oa:aZ X (.type "str") (λxs H Q=>∃i,xs=[.int i]/\i.natAbs.log2<1920/\Q (.str (toString i)) H):=by
 intro pins s σ H xs us Q I r h;obtain⟨i,rfl,hz,q⟩:=h;obtain⟨u,rfl,t,rfl⟩:=vals1 r;exact PySem.P.str_of_int hz ⟨.str _,H,I.tok _,⟨_,rfl⟩,q⟩
def Gb(K:W.Frag)(x:V)(H:Hp)(n:Nat):Prop:=
 match x with
 |.str y=>y.length<=sizeLine/\n=y.length
 |.qX y=>y.size<=sizeLine/\n=y.size
 |.ref p=>(∃xs,bg K H p xs/\n=xs.length)\/∃xs,bq K H p xs/\n=xs.length
 |_=>False
def iy:aZ X (.builtin "len") (λxs H Q=>∃x n,xs=[x]/\Gb X.K x H n/\Q (.int n) H):=by
 intro pins s σ H xs us Q I r h;obtain⟨x,n,rfl,e,q⟩:=h;obtain⟨u,rfl,rx⟩:=vals1 r;have hl:=jj;have hs:sizeLine=16777216:=Lb
 cases x with
 |str y =>
  obtain⟨t,rfl⟩:=rx;obtain⟨hy,e'⟩:y.length<=sizeLine/\n=y.length:=e;subst e';exact len_str (by lia) ⟨.int _,H,I.tok _,⟨_,rfl⟩,q⟩
 |qX y =>
  obtain⟨t,rfl⟩:=rx;obtain⟨hy,e'⟩:y.size<=sizeLine/\n=y.size:=e;subst e';exact W.len_bytes (by lia) ⟨.int _,H,I.tok _,⟨_,rfl⟩,q⟩
 |ref p =>
  cases rx;have e':(∃xs,bg X.K H p xs/\n=xs.length)\/∃xs,bq X.K H p xs/\n=xs.length:=e;rcases e' with ⟨xs,hx,e'⟩|⟨xs,hx,e'⟩
  ·subst e';obtain⟨its,r',pl,hz⟩:=I.list hx;have hlen:=r'.length;exact Calls.call_len_list pl.isList (by simp only[JD];lia) ⟨.int xs.length,H,I.tok _,⟨_,by simp only[JD];rw[hlen]⟩,q⟩
  ·subst e';obtain⟨its,r',pl,hz⟩:=I.tuple hx;have hlen:=r'.length;exact len_tuple pl (by simp only[JD];lia) ⟨.int xs.length,H,I.tok _,⟨_,by simp only[JD];rw[hlen]⟩,q⟩
 |_=>exact (show False from e).elim
end
structure sN (h:Heap) (x dx C:Addr) (mA:Str->Option Value):Prop where
 obj:h.get? x=some (W.instObj C dx)
 ns:h.Ns1 dx mA
 ne:dx≠x
def we{dx:Addr}(n:h.Ns1 dx mA):∃od,h.get? dx=some od/\∀name,W.lookIn name od=some (mA name):=by
 obtain⟨o,es,ep,ho,hd,hk,_,hm⟩:=n;refine⟨o,ho,λname=>?_⟩;have e:=hm name;unfold nsFind findBy at e;rw[<- Array.find?_toList] at e;unfold W.lookIn;rw[hd];dsimp only;split
 ·rename_i y q;rw[q] at e;exact Km some e
 ·rename_i q;rw[q] at e;have a:es.toList.any (·.refKey)=false:=by
   rw[List.any_eq_false];intro y hy;obtain⟨z,t,hkey⟩:=hk y (Array.mem_toList_iff.mp hy);simp[DictEntry.refKey,hkey]
  have a':¬ es.toList.any (·.refKey)=true:=by rw[a];exact JF
  rw[Jy a'];exact Km some e
def sN.look{x dx:Addr}(I:sN h x dx C mA):∃od,W.InstAt h x (W.instObj C dx) C (some od)/\∀name,W.lookIn name od=some (mA name):=
 let ⟨od,ho,hl⟩:=we I.ns
 ⟨od,⟨I.obj,rfl,rfl,ho⟩,hl⟩
section
variable {prog:Program} {w:World} {A:Around} {E:Value->Shared->Prop} {s:Shared} {K:W.Frag} {x dx C f:Addr} {mA:Str->Option Value} {name:Str} {v:Value}
def get_map{expr:Bool}(X:K.In s.heap)(I:sN s.heap x dx C mA)(hg:W.plainGet K C name=true)(hh:W.hasDictIn K C=true)
  (ha:W.findIn K (.ref C) name=some none) (hv:mA name=some v) (hv':W.handedIn v=true) (h:Q v {s with toks:=s.toks+1}) :
  wpAny (model prog w) A (getAttr (.ref x) name expr) Q E s:=by
 obtain⟨od,J,hl⟩:=I.look;exact W.get_value X J (O0 hg).1 (W.findObj_own hh ha rfl (by rw[hl,hv])) hv' h
def Ai{Q:Value×List Value->Shared->Prop}(X:K.In s.heap)(I:sN s.heap x dx C mA)(hg:W.plainGet K C name=true)
  (hf:W.findIn K (.ref C) name=some (some (.ref f))) (ht:W.isFn K (.ref f)=true) (hv:mA name=none) (h:Q (.ref f,[.ref x]) s) :
  wpAny (model prog w) A (getMethod (.ref x) name pl) Q E s:=by
 obtain⟨od,J,hl⟩:=I.look;exact W.method_fn X J (O0 hg).1 (O0 hg).2 hf (Mh.mp ht) (by show (W.lookIn name od).map (·.isSome)=some false;rw[hl,hv];rfl) h
def Ba{ns:List Str}{Q:Unit->Shared->Prop}(X:K.In s.heap)(I:sN s.heap x dx C mA)
  (hs:W.findIn K (.ref C) "__setattr__"=some (some (.builtin "object.__setattr__"))) (hp:W.plainOver K C=true) (ht:W.takerIn K C name=some none) (hh:W.hasDictIn K C=true)
  (hw:PySem.Within mA ns) (hsz:ns.length<=sizeLine)
  (h:∀h',sN h' x dx C (λy=>if y=name then some v else mA y)->Heap.SameBut dx s.heap h'->Q () {s with heap:=h',toks:=s.toks+2}) :
  wpAny (model prog w) A (setAttr (.ref x) name v) Q E s:=by
 obtain⟨od,J,hl⟩:=I.look;refine W.set_plain X J hs (W.osa_open (s:={s with toks:=s.toks+1}) (r:=none) X J hp ht λb=>?_)
 obtain⟨cd,hc,hd'⟩:=W.any_some hh;have hx:s.heap.get? x=some ⟨.ref C,some dx,.plain,#[]⟩:=I.obj;refine Js (J9 (Js (Js (wpAny_loadPart hx (Js (W.Looks.here (s:={s with toks:=s.toks+1}) (W.looks_clsIn X hc) ?_))))))
 rw[hd'];refine J9 (a:=some dx) (Js (J9 (Js ?_)));refine wpAny_nsSet1 (s:={s with toks:=s.toks+1}) I.ns λh' hn2 hs2=>?_
 obtain⟨oD,esD,epD,hoD,hdD,hcD⟩:=hn2.count (PySem.Within.cons name v hw);refine Js (wpAny_lookBehind hoD (by rw[hdD];exact pastItsLine_dict (JC hcD (by rw[JE];lia))) ?_)
 exact J9 (h _ ⟨(hs2.2 _ (KA I.ne)).trans I.obj,hn2,I.ne⟩ hs2)
def x5{R:Result->Shared->Prop}{vs:List Value}(X:K.In s.heap)(hm:W.makesIn K C=true)
  (hi:W.findIn K (.ref C) "__init__"=some (some (.ref f))) (hf:W.typeIn K (.ref f)=some (.type "function"))
  (h:codeAny (model prog w) (A.under (.builtin "type.__call__" ⟨.ref C::vs,kw⟩)) (.call (.ref f) ⟨.ref (s.heap.objs.size+1)::vs,kw⟩) (W.InitBack (s.heap.objs.size+1) R)
   {s with heap:=(s.heap.push W.emptyDict).push (W.instObj C s.heap.objs.size)}) :
  codeAny (model prog w) A (.call (.ref C) ⟨vs,kw⟩) R s:=by
 obtain⟨hh,g,d,t,os⟩:=s;exact W.make_core (W.makes_of X hm) (Ol X hi) (λself=>W.bind_fn X self hf) (.inl rfl) h
end
noncomputable def dO(f:Str)(v:V):List (Str×V)->List (Str×V)
 |[]=>[(f,v)]
 | (g,x)::r=>if g=f then (g,v)::r else (g,x)::dO f v r
theorem ju(f g:Str)(v:V):∀fs:List (Str×V),(dO f v fs).lookup g=if g=f then some v else fs.lookup g
 |[]=>by
  show List.lookup g [(f,v)]=_;by_cases h:g=f
  ·have hb:(g == f)=true:=Mh.mpr h;simp only[List.lookup,hb,JA h]
  ·have hb:(g == f)=false:=Kz.mpr h;simp only[List.lookup,hb,Jy h]
 | (k,x)::r=>by
  have ih:=ju f g v r;rw[show dO f v ((k,x)::r)=(if k=f then (k,v)::r else (k,x)::dO f v r) from rfl]
  by_cases hk:k=f
  ·rw[JA hk];by_cases h:g=k
   ·have hb:(g == k)=true:=Mh.mpr h;simp only[List.lookup,hb,JA (h.trans hk)]
   ·have hb:(g == k)=false:=Kz.mpr h;simp only[List.lookup,hb,Jy (λe:g=f=>h (e.trans hk.symm))]
  ·rw[Jy hk];by_cases h:g=k
   ·have hb:(g == k)=true:=Mh.mpr h;simp only[List.lookup,hb,Jy (λe:g=f=>hk (h.symm.trans e))]
   ·have hb:(g == k)=false:=Kz.mpr h;simp only[List.lookup,hb];exact ih
theorem iP(f:Str)(v:V):∀fs:List (Str×V),f∈(dO f v fs).map (·.1)/\∀g,g∈fs.map (·.1)->g∈(dO f v fs).map (·.1)
 |[]=>⟨by simp[dO],λg h=>by simp at h⟩
 | (k,x)::r=>by
  obtain⟨i1,i2⟩:=iP f v r;rw[show dO f v ((k,x)::r)=(if k=f then (k,v)::r else (k,x)::dO f v r) from rfl]
  by_cases hk:k=f
  ·rw[JA hk];subst hk;exact⟨by simp,λg h=>by simpa using h⟩
  ·rw[Jy hk];refine⟨?_,λg h=>?_⟩
   ·rw[Ke];exact Jx _ i1
   ·rw[Ke] at h ⊢;rcases Jw.mp h with e|e
    ·exact Jw.mpr (.inl e)
    ·exact Jx _ (i2 g e)
theorem js(f:Str)(v:V):∀fs:List (Str×V),(dO f v fs).length<=fs.length+1
 |[]=>by simp[dO]
 | (k,x)::r=>by
  have ih:=js f v r;rw[show dO f v ((k,x)::r)=(if k=f then (k,v)::r else (k,x)::dO f v r) from rfl]
  by_cases hk:k=f
  ·rw[JA hk,JE,JE];lia
  ·rw[Jy hk,JE,JE];lia
def my.some_of{v:V}(r:my (some v) o):∃u,o=some u/\RelV v u:=by
 cases o with
 |none=>exact (show False from r).elim
 |some u=>exact⟨u,rfl,r⟩
def my.none_of(r:my none o):o=none:=by
 cases o with
 |none=>rfl
 |some u=>exact (show False from r).elim
def vm{v:V}(r:RelV v u):W.handedIn u=true:=by
 cases v with
 |aL=>cases (show u=Value.none from r);rfl
 |bl b=>cases (show u=Value.bool b from r);rfl
 |int i=>obtain⟨t,e⟩:=(show ∃t,u=Value.int i t from r);cases e;rfl
 |str x=>obtain⟨t,e⟩:=(show ∃t,u=Value.str x t from r);cases e;rfl
 |qX b=>obtain⟨t,e⟩:=(show ∃t,u=Value.bytes b t from r);cases e;rfl
 |Dq b=>obtain⟨t,e⟩:=(show ∃t,u=Value.float b t from r);cases e;rfl
 |ref a=>cases (show u=Value.ref a from r);rfl
 |ty n=>cases (show u=Value.type n from r);rfl
section
variable {P:Program} {w:World} {H H':Hp} {h h':Heap} {a C dx:Addr} {fs fs':List (Str×V)}
def jL(aP:gQ P w H h)(e:H a=some (.ins C dx fs)):∃mA,sN h a dx C mA/\(∀f,my (fs.lookup f) (mA f))/\PySem.Within mA (fs.map (·.1))/\fs.length<=1000/\H dx=some (.own a):=by
 obtain⟨d,z,ne,ob,mA,n,r,q⟩:=(show b7 P w H h a (.ins C dx fs) from aP a _ e);exact⟨mA,⟨ob,n,ne⟩,r,q,z,d⟩
end
structure j8 (K:W.Frag) (C:Addr):Prop where
 pg:W.plainGet K C Str.empty=true
 hd:W.hasDictIn K C=true
 po:W.plainOver K C=true
 sa:W.findIn K (.ref C) "__setattr__"=some (some (.builtin "object.__setattr__"))
def j8.get(c:j8 K C)(f:Str):W.plainGet K C f=true:=c.pg
def bQ(K:W.Frag)(C:Addr)(f:Str):Prop:=W.findIn K (.ref C) f=some none
def bQ.Hd{f:Str}(n:bQ K C f):W.takerIn K C f=some none:=by
 unfold W.takerIn;rw[show W.findIn K (.ref C) f=some none from n];rfl
structure Meth (K:W.Frag) (C:Addr) (m:Str) (f:Addr):Prop where
 at_:W.findIn K (.ref C) m=some (some (.ref f))
 fn:W.isFn K (.ref f)=true
 kp:W.keepIn K (.ref f)=true
section
variable {X:Cx} {pins:List (Addr×Obj)} {σ:St} {H:Hp} {s:Shared} {a C dx:Addr} {fs:List (Str×V)} {f:Str} {v:V} {A:Around} {E:Value->Shared->Prop}
def rJ{b:Bool}(I:Inv X pins σ H s)(e:H a=some (.ins C dx fs))(c:j8 X.K C)(n:bQ X.K C f)(l:fs.lookup f=some v)
  (h:∀u s',Inv X pins σ H s'->RelV v u->Q u s'):wpAny (model X.prog X.w) A (getAttr (.ref a) f b) Q E s:=by
 obtain⟨mA,O,r,_,_,_⟩:=jL I.aP e;obtain⟨u,hu,ru⟩:=my.some_of (v:=v) (o:=mA f) (by rw[<- l];exact r f)
 exact get_map I.fm O (c.get f) c.hd n hu (vm ru) (h u _ (I.tok _) ru)
def lT{m:Str}{g:Addr}{Q:Value×List Value->Shared->Prop}(I:Inv X pins σ H s)(e:H a=some (.ins C dx fs))(c:j8 X.K C)(k:Meth X.K C m g)(l:fs.lookup m=none)
  (h:Q (.ref g,[.ref a]) s):wpAny (model X.prog X.w) A (getMethod (.ref a) m pl) Q E s:=by
 obtain⟨mA,O,r,_,_,_⟩:=jL I.aP e;have hn:mA m=none:=my.none_of (by rw[<- l];exact r m)
 exact Ai I.fm O (c.get m) k.at_ k.fn hn h
def rZ{y:V}{Q:Unit->Shared->Prop}(I:Inv X pins σ H s)(e:H a=some (.ins C dx fs))(c:j8 X.K C)(n:bQ X.K C f)(hl:fs.length<1000)(ry:RelV y u)
  (h:∀s',Inv X pins σ (upd H a (.ins C dx (dO f y fs))) s'->Q () s'):wpAny (model X.prog X.w) A (setAttr (.ref a) f u) Q E s:=by
 obtain⟨mA,O,r,wi,_,ho⟩:=jL I.aP e;have hz:(fs.map (·.1)).length<=sizeLine:=by rw[Jt,Lb];lia
 refine Ba I.fm O c.sa c.po n.Hd c.hd wi hz λh' O' sb=>h _ ?_;have hd:∃o,h'.get? dx=some o:=let ⟨o,_,_,e',_⟩:=O'.ns;⟨o,e'⟩
 refine I.write (x:=a) (e:=dx) (by rw[e];exact True.intro) (.inr ho) (λb q hb z=>(sb.2 b hb).trans z) hd ?_
 refine⟨by rw[ak O.ne];exact ho,?_,O.ne,O'.obj,_,O'.ns,λg=>?_,λg hg=>?_⟩
 ·have:=js f y fs;lia
 ·show my ((dO f y fs).lookup g) (if g=f then some u else mA g)
  rw[ju];by_cases q:g=f
  ·rw[JA q,JA q];exact ry
  ·rw[Jy q,Jy q];exact r g
 ·by_cases q:g=f
  ·rw[q];exact (iP f y fs).1
  ·refine (iP f y fs).2 g (wi g λz=>hg ?_);show (if g=f then some u else mA g)=none
   rw[Jy q];exact z
def Inv.made(I:Inv X pins σ H s):Inv X pins σ (upd (upd H s.heap.objs.size (.own (s.heap.objs.size+1))) (s.heap.objs.size+1) (.ins C s.heap.objs.size []))
  {s with heap:=(s.heap.push W.emptyDict).push (W.instObj C s.heap.objs.size)}:=by
 have e1:(s.heap.push W.emptyDict).get? s.heap.objs.size=some W.emptyDict:=JK s.heap rfl;have e2:((s.heap.push W.emptyDict).push (W.instObj C s.heap.objs.size)).get? (s.heap.objs.size+1)=some (W.instObj C s.heap.objs.size):=by
  have:=JK (s.heap.push W.emptyDict) (o:=W.instObj C s.heap.objs.size) rfl
  rwa [KC] at this
 have e3:(s.heap.push W.emptyDict).Ns s.heap.objs.size (λ_=>none):=⟨W.emptyDict,#[],_,e1,rfl,(λe he=>absurd he (by simp)),λ_=>rfl⟩
 have I1:=I.laid (a:=s.heap.objs.size) (o:=.own (s.heap.objs.size+1)) (h':=s.heap.push W.emptyDict) (t':=s.toks) (λb u q=>J5 _ q) (J8 _) ⟨_,e1⟩;refine I1.laid (a:=s.heap.objs.size+1) (o:=.ins C s.heap.objs.size []) (t':=s.toks) (λb u q=>J5 _ q) (N8 (KC _ _)) ?_;have ne:s.heap.objs.size≠s.heap.objs.size+1:=JU (Ly _);refine⟨by rw[ak ne,aa],JJ _,ne,e2,λ_=>none,(Heap.Ns1.of_empty e3).at λo q=>J5 _ q,λ_=>True.intro,λy hy=>absurd rfl hy⟩
def BC{prog:Program}{env:Env}{f:Str}{pos:Pos}{s:Shared}(hb:attributeBase e f env (eval e env)=eval e env)
  (h:wpAny (model prog w) A (eval e env) (λo s₁=>wpAny (model prog w) A (getAttr o f true) Q E s₁) E s):wpAny (model prog w) A (eval (.Attribute e f pos) env) Q E s:=
 Attribute_any_ h (by rw[arm_eval_Attribute,hb])
end
def xf(K:W.Frag)(ta:TE)(f:Str):TE:=λσ H Q=>ta σ H λx H1=>∃a C dx fs v,x=.ref a/\H1 a=some (.ins C dx fs)/\j8 K C/\bQ K C f/\fs.lookup f=some v/\Q v H1
def yg(K:W.Frag)(ta tv:TE)(f:Str):TS:=λD σ H=>tv σ H λy H1=>ta σ H1 λx H2=>∃a C dx fs,x=.ref a/\H2 a=some (.ins C dx fs)/\j8 K C/\bQ K C f/\fs.length<1000 /\
 D.nx σ (upd H2 a (.ins C dx (dO f y fs)))
section
variable {X:Cx} {o e value:Expr} {f:Str} {pos pos' tpos:Pos} {ta tv:TE}
def DU(he:PE X e ta)(hb:attributeBase e f X.env (eval e X.env)=eval e X.env):PE X (.Attribute e f pos) (xf X.K ta f):=by
 intro pins s σ H Q I h;refine BC hb (bN (he pins s σ H _ I h) λu s1 hq40=>?_);obtain⟨x,H1,I1,rx,a,C,dx,fs,v,ex,ea,c,n,l,q⟩:=hq40;subst ex;obtain rfl:u=Value.ref a:=rx;exact rJ I1 ea c n l λu' s2 I2 ru=>⟨v,H1,I2,ru,q⟩
def D7(ha:PE X o ta)(hv:PE X value tv)(hs:swapsWith value (some (.Attribute o f pos')) pos.line X.env=pure false):PS X (.Assign [.Attribute o f pos'] value pos) (yg X.K ta tv f):=by
 intro pins s σ H D I h;refine plainObj_wpAny_Assign_Attribute (bN (hv pins s σ H _ I h) λu s1 ⟨y,H1,I1,ry,q⟩=>bN (ha pins s1 σ H1 _ I1 q) λov s2 hq42=>?_) hs;obtain⟨x,H2,I2,rx,a,C,dx,fs,ex,ea,c,n,l,q2⟩:=hq42;subst ex;obtain rfl:ov=Value.ref a:=rx;exact rZ I2 ea c n l ry λs3 I3=>⟨σ,_,I3,q2⟩
end
section
variable {X:Cx} {pins:List (Addr×Obj)} {σ:St} {H:Hp} {s:Shared} {A:Around} {E:Value->Shared->Prop} {Q:Value->Shared->Prop} {c:Value} {b:Bool}
inductive h_ (K:W.Frag) (H:Hp):V->Value->Prop where
 |aL:h_ K H .aL (.type "NoneType")
 |bl (x:Bool):h_ K H (.bl x) (.type "bool")
 |int (i:Int):h_ K H (.int i) (.type "int")
 |str (x:Str):h_ K H (.str x) (.type "str")
 |Dq (x:UInt64):h_ K H (.Dq x) (.type "float")
 |lst {a:Addr} {xs:List V} (e:H a=some (.lst xs)):h_ K H (.ref a) (.type "list")
 |ik {a:Addr} {o:Obj} {xs:List V} (e:H a=some (.ik o (.lst xs))):h_ K H (.ref a) (.type "list")
 |tup {a:Addr} {xs:List V} (e:H a=some (.tup xs)):h_ K H (.ref a) (.type "tuple")
 |dK {a:Addr} {kvs:List (Key×V)} (e:H a=some (.dK kvs)):h_ K H (.ref a) (.type "dict")
 |dT {a:Addr} {kvs:List (List Key×V)} (e:H a=some (.dT kvs)):h_ K H (.ref a) (.type "dict")
 |ins {a C dx:Addr} {fs:List (Str×V)} (e:H a=some (.ins C dx fs)) (cl:j8 K C) (ha:W.findIn K (.ref C) "__class__"=some (some (.builtin "object.__class__")))
   (hn:W.specialIn K (.builtin "object.__class__") "__get__"=some (some (.builtin "getset_descriptor.__get__"))) (htk:W.takesIn K (.builtin "object.__class__")=some true)
   (hm:W.mroIn K C (.type "object")=some true):h_ K H (.ref a) (.ref C)
def mI{x:V}{t:Value}(I:Inv X pins σ H s)(rx:RelV x u)(ty:h_ X.K H x t)(e:W.kitOne X.K t c=some b)(h:∀tk,Q (.bool b) {s with toks:=tk}):
  wpAny (model X.prog X.w) A (call (.builtin "isinstance") [u,c]) Q E s:=by
 cases ty with
 |aL=>cases (show u=Value.none from rx);exact Ls W.kitx_none I.fm True.intro e (λz=>nomatch z) h
 |bl y=>cases (show u=Value.bool y from rx);exact Ls W.kitx_bool I.fm True.intro e (λz=>nomatch z) h
 |int i=>obtain⟨t,q⟩:=(show ∃t,u=Value.int i t from rx);cases q;exact Ls W.kitx_int I.fm True.intro e (λz=>nomatch z) h
 |str y=>obtain⟨t,q⟩:=(show ∃t,u=Value.str y t from rx);cases q;exact Ls W.kitx_str I.fm True.intro e (λz=>nomatch z) h
 |Dq y=>obtain⟨t,q⟩:=(show ∃t,u=Value.float y t from rx);cases q;exact Ls W.kitx_float I.fm True.intro e (λz=>nomatch z) h
 |@lst a xs ea =>
  cases (show u=Value.ref a from rx)
  obtain⟨_,_,n,_,h1⟩:=(show b7 X.prog X.w H s.heap a (.lst xs) from I.aP a _ ea);exact Ls W.kitx_list I.fm ⟨_,h1,rfl⟩ e (λz=>nomatch z) h
 |@ik a ob xs ea =>
  cases (show u=Value.ref a from rx)
  obtain⟨_,_,_,n,_,h1⟩:=(show b7 X.prog X.w H s.heap a (.ik ob (.lst xs)) from I.aP a _ ea);exact Ls W.kitx_list I.fm ⟨_,h1,rfl⟩ e (λz=>nomatch z) h
 |@tup a xs ea =>
  cases (show u=Value.ref a from rx)
  obtain⟨_,_,_,p⟩:=(show b7 X.prog X.w H s.heap a (.tup xs) from I.aP a _ ea);obtain⟨o,h1,h2,_⟩:=p;exact Ls W.kitx_tuple I.fm ⟨o,h1,h2⟩ e (λz=>nomatch z) h
 |@dK a kvs ea =>
  cases (show u=Value.ref a from rx)
  obtain⟨_,_,vs,_,p⟩:=(show b7 X.prog X.w H s.heap a (.dK kvs) from I.aP a _ ea);obtain⟨o,es,ep,h1,h2,_⟩:=p;exact Ls W.kitx_dict I.fm ⟨o,h1,h2.1⟩ e (λz=>nomatch z) h
 |@dT a kvs ea =>
  cases (show u=Value.ref a from rx)
  obtain⟨_,_,xs,_,o,es,ep,h1,h2,_⟩:=(show b7 X.prog X.w H s.heap a (.dT kvs) from I.aP a _ ea);exact Ls W.kitx_dict I.fm ⟨o,h1,h2.1⟩ e (λz=>nomatch z) h
 |@ins a C dx fs ea cl ha hn htk hm =>
  cases (show u=Value.ref a from rx)
  obtain⟨mA,O,_⟩:=jL I.aP ea;obtain⟨od,J,_⟩:=O.look;exact Ls (W.kitx_own (cl.get _) cl.hd ha hn htk hm) I.fm J e (λz=>nomatch z) h
end
structure bz (k:Nat) (A:Around):Prop where
 hd:A.handled=none
 dp:A.depth+3*k+5<recursionLimit
 un:A.units+16*k+200<cLine
 gd:A.guards=some []
def bz.mono{A:Around}(r:bz k A)(h:j<=k):bz j A:=⟨r.hd,by have:=r.dp;lia,by have:=r.un;lia,r.gd⟩
def bz.deeper{A:Around}(r:bz (k+1) A)(env:Env):bz k (A.deeper env):=
 ⟨r.hd,by have:=r.dp;show A.depth+1+3*k+5<_;lia,by have:=r.un;show A.units+3+16*k+200<_;lia,r.gd⟩
def bz.in1{A:Around}(r:bz (k+1) A):bz k A.in1:=
 ⟨r.hd,by have:=r.dp;show A.depth+3*k+5<_;lia,by have:=r.un;show A.units+1+16*k+200<_;lia,r.gd⟩
def rQ{A:Around}:(A.under (.builtin "type.__call__" ⟨.ref C::us,kw⟩)).depth=A.depth+1:=by
 first|rfl|simp[Around.under,Code.weight,Code.isCreation,Code.isGuard,Code.isCaller,Code.frames,Code.isFrame,guardIds]
def qY{A:Around}:(A.under (.builtin "type.__call__" ⟨.ref C::us,kw⟩)).units=A.units+1:=by
 first|rfl|simp[Around.under,Code.cUnits,Code.frames,Code.isFrame]
def bz.make{A:Around}(r:bz (k+1) A)(C:Addr)(us:List Value)(kw:List (Str×Value)):bz k (A.under (.builtin "type.__call__" ⟨.ref C::us,kw⟩)):=
 ⟨r.hd,by have:=r.dp;rw[rQ];lia,by have:=r.un;rw[qY];lia,by have h:=r.gd;first|exact h | (simp[Around.under,Code.guards,Code.isGuard,guardIds];exact h)⟩
def bz.depth{A:Around}(r:bz k A):A.depth<recursionLimit:=by have:=r.dp;lia
def bz.units{A:Around}(r:bz k A):A.units+64<cLine:=by have:=r.un;lia
def j9:TA:=λ_ H Q=>Q [] H
def jt(ta:TE)(tr:TA):TA:=λσ H Q=>ta σ H λx H1=>tr σ H1 λxs H2=>Q (x::xs) H2
section
variable {X:Cx} {e:Expr} {es:List Expr} {te:TE} {t:TA} {pos:Pos}
def wX:PA X [] j9:=λ_ _ _ _ H Q I h=>Calls.spliced_nil ⟨[],H,I,.nil,h⟩
def uK(ha:PE X e te)(hr:PA X es t)(hs:autoParam (starEach (e::es) X.env=(false,eval e X.env)::starEach es X.env) ℜ0):PA X (e::es) (jt te t):=by
 intro pos pins s σ H Q I h;rw[hs];show wpAny _ _ (spliced ((false,eval e X.env)::backTo pos (starEach es X.env))) _ _ s;refine Calls.spliced_cons (bN (ha pins s σ H _ I h) λu s1 hq46=>?_);obtain⟨x,H1,I1,r1,q1⟩:=hq46;exact bN (hr pos pins s1 σ H1 _ I1 q1) λus s2 ⟨xs,H2,I2,r2,q2⟩=>⟨x::xs,H2,I2,.cons r1 r2,q2⟩
def xB(t:TA):TE:=λσ H Q=>t σ H λxs H1=>xs.length<=sizeLine/\∀p,H1 p=none->Q (.ref p) (upd H1 p (.tup xs))
def zA(t:TA):TE:=λσ H Q=>t σ H λxs H1=>xs.length<=sizeLine/\∀p,H1 p=none->Q (.ref p) (upd H1 p (.lst xs))
def Ek{x1}(h:PA X es t):PE X (.Tuple es x1 pos) (xB t):=by
 intro pins s σ H Q I hq;refine wpAny_Tuple_spliced (bN (h pos pins s σ H _ I hq) λus s1 ⟨xs,H1,I1,r,z,q⟩=>⟨by rw[<- r.length];exact z,?_⟩)
 have hf:H1 s1.heap.objs.size=none:=I1.aP.fresh (J8 _);refine⟨.ref s1.heap.objs.size,upd H1 s1.heap.objs.size (.tup xs),I1.laid (t':=s1.toks) (λb u e=>J5 _ e) (J8 _) ?_,rfl,q _ hf⟩;exact⟨z,us,r,⟨_,JK _ rfl,rfl,_,rfl,rfl⟩⟩
def EM(h:PA X es t):PE X (.List es pos) (zA t):=by
 intro pins s σ H Q I hq;refine wpAny_List_spliced (bN (h pos pins s σ H _ I hq) λus s1 ⟨xs,H1,I1,r,z,q⟩=>⟨by rw[<- r.length];exact z,?_⟩)
 have hf:H1 s1.heap.objs.size=none:=I1.aP.fresh (J8 _);refine⟨.ref s1.heap.objs.size,upd H1 s1.heap.objs.size (.lst xs),I1.laid (t':=s1.toks) (λb u e=>J5 _ e) (J8 _) ?_,rfl,q _ hf⟩;exact⟨z,us,0,r,JK _ rfl⟩
end
abbrev Sp:=List V->Hp->VK->XK->Prop
abbrev nL:=List Env->Hp->Shared->XK->Value->Shared->Prop
variable{CX:nL}
structure rC (P:Program) (w:World) (K:W.Frag) (mg:Str->Option Value) (base:Heap) (A:Around) (outer:List Env) (s:Shared) (H:Hp):Prop where
 frames:A.frames=some outer
 mod:Mod K mg base
 bs:∀b o,base.get? b=some o->s.heap.get? b=some o/\H b=none
 tU:base.objs.size<=s.heap.objs.size
 gS:s.heap.FunFrames base outer
 yK:∀b∈jo outer,H b=none
 aP:gQ P w H s.heap
 bare:AllBare s.gens
 tabs:TabsOk K H
def CE(outer:List Env)(P:Program)(w:World)(H:Hp)(s:Shared)(Q:VK)(u:Value)(s':Shared):Prop:=
 ∃v H',s'.os=s.os/\AllBare s'.gens/\Un (jo outer) [] H H' s.heap s'.heap/\gQ P w H' s'.heap/\RelV v u/\Q v H'
def CR(CX:nL)(outer:List Env)(P:Program)(w:World)(H:Hp)(s:Shared)(Q:VK)(E:XK)(r:Result)(s':Shared):Prop:=
 match r with
 |.ok (.ret u)=>CE outer P w H s Q u s'
 |.ok _=>False
 |.error e=>CX outer H s E e s'
structure bY (P:Program) (w:World) (K:W.Frag) (mg:Str->Option Value) (base:Heap) (CX:nL) (k:Nat) (f:Addr) (fd:FuncData) (ps:List Str) (sp:Sp):Prop where
 len:∀vs H Q E,sp vs H Q E->vs.length=ps.length
 run:∀(A:Around) (outer:List Env) (s:Shared) (H:Hp) (args:Args) (us:List Value) (vs:List V) (Q:VK) (E:XK),bz k A->rC P w K mg base A outer s H->BindsTo s fd args (ps.zip us)->Vals vs us->sp vs H Q E ->
  codeAny (model P w) A (.call (.ref f) args) (CR CX outer P w H s Q E) s
def bY.mono{f:Addr}{ps:List Str}{sp:Sp}(F:bY P w K mg base CX j f fd ps sp)(h:j<=k):
  bY P w K mg base CX k f fd ps sp:=⟨F.len,λA outer s H args us vs Q E hr=>F.run A outer s H args us vs Q E (hr.mono h)⟩
def rC.make{A:Around}{s:Shared}(e:rC P w K mg base A outer s H)(C:Addr)(us:List Value)(kw:List (Str×Value)):
  rC P w K mg base (A.under (.builtin "type.__call__" ⟨.ref C::us,kw⟩)) outer s H:=⟨by first|exact e.frames | (simpa[Around.under,Code.envs,Code.isFrame,pushEnvs] using e.frames),e.mod,e.bs,e.tU,e.gS,e.yK,e.aP,e.bare,e.tabs⟩
section
variable {X:Cx} {pins:List (Addr×Obj)} {σ:St} {H:Hp} {s s':Shared}
def Inv.E_(I:Inv X pins σ H s):rC X.prog X.w X.K X.mg X.base X.A X.stack s H:=
 ⟨I.ok.frames,I.ok.mod,I.bs,JC I.ok.tU I.sz,I.stack,I.jT,I.aP,I.bare,I.ok.tabs.un I.base⟩
def Inv.after{Q:VK}(I:Inv X pins σ H s)(h:CE X.stack X.prog X.w H s Q u s'):EP X pins σ Q u s':=by
 obtain⟨v,H',os,bare,un,aP,r,q⟩:=h;obtain⟨hh,g,d,t,os'⟩:=s';obtain rfl:os'=s.os:=os;exact⟨v,H',I.call (h':=hh) (g':=g) (d':=d) (t':=t) (ch:=[]) un aP bare (λb z=>absurd z (by simp)),r,q⟩
end
def gY(sp:Sp)(dvs:List V)(E:XK)(t:TA):TE:=λσ H Q=>t σ H λvs H1=>sp (vs++dvs) H1 Q E
def pE(C:Addr)(m:Str)(sp:Sp)(dvs:List V)(E:XK)(ta:TE)(t:TA):TE:=λσ H Q=>ta σ H λx H1=>∃a dx fs,x=.ref a/\H1 a=some (.ins C dx fs)/\fs.lookup m=none /\
 t σ H1 λvs H2=>sp (x::(vs++dvs)) H2 Q E
def qI(C:Addr)(sp:Sp)(dvs:List V)(E:XK)(t:TA):TE:=λσ H Q=>t σ H λvs H1=>∀x dx,H1 x=none->H1 dx=none->dx≠x ->
 sp (.ref x::(vs++dvs)) (upd (upd H1 dx (.own x)) x (.ins C dx [])) (λv H2=>v=.aL/\Q (.ref x) H2) E
def Binds(K:W.Frag)(fd:FuncData)(ps:List Str)(ds:List Value):Prop:=
 ∀(s:Shared) (us:List Value),K.In s.heap->(us++ds).length=ps.length->BindsTo s fd ⟨us,[]⟩ (ps.zip (us++ds))
def Binds.all{ps:List Str}(h:∀us:List Value,us.length=ps.length->bindArgs fd ⟨us,[]⟩=pure (ps.zip us)):Binds K fd ps []:=λs us _ hl=>by
 rw[Ks] at hl ⊢;exact .of_eq (h us hl)
def Passes(CX:nL)(X:Cx)(E:XK):Prop:=∀(pins:List (Addr×Obj)) (σ:St) (H:Hp) (s:Shared) (e:Value) (s':Shared),Inv X pins σ H s->CX X.stack H s E e s'->X.xe e s'
section
variable {X:Cx} {CX:nL} {k:Nat} {f C:Addr} {fd:FuncData} {ps:List Str} {sp:Sp} {dvs:List V} {ds:List Value} {E:XK} {x m:Str} {p pos apos:Pos} {e o:Expr} {es:List Expr} {ta:TE} {t:TA}
def rV{s:Shared}{Q:VK}{vs:List V}(F:bY X.prog X.w X.K X.mg X.base CX k f fd ps sp)(hr:bz k X.A)(hb:Binds X.K fd ps ds)(hd:Vals dvs ds)(hx:Passes CX X E)
  (I:Inv X pins σ H s) (r:Vals vs us) (h:sp (vs++dvs) H Q E):wpAny (model X.prog X.w) X.A (call (.ref f) us) (EP X pins σ Q) X.xe s:=by
 have r2:Vals (vs++dvs) (us++ds):=r.append hd;have hl:(us++ds).length=ps.length:=by rw[<- r2.length];exact F.len _ _ _ _ h
 refine Nz (N9 (F.run X.A X.stack s H ⟨us,[]⟩ (us++ds) (vs++dvs) Q E hr I.E_ (hb s us I.fm hl) r2 h) λr s' hq=>?_)
 cases r with
 |error e=>exact hx pins σ H s e s' I hq
 |ok fl =>
  cases fl with
  |ret u=>exact I.after hq
  |next=>exact False.elim hq
  |brk=>exact False.elim hq
  |cont=>exact False.elim hq
def Bq(F:bY X.prog X.w X.K X.mg X.base CX k f fd ps sp)(hr:bz k X.A)(hg:Gl X x)(hm:X.mg x=some (.ref f))(hk:W.keepIn X.K (.ref f)=true)(hb:Binds X.K fd ps ds)(hd:Vals dvs ds)(hx:Passes CX X E)
  (ha:PA X (e::es) t) (hdb:autoParam ((x ==("__debug__":Str))=false) ℜ1) (he:autoParam (starEach (e::es) X.env=(false,eval e X.env)::starEach es X.env) ℜ0) (hpl:autoParam ((backTo pos (starEach es X.env)).any (·.1)=false) ℜ0) :
  PE X (.Call (.Name x p) (e::es) [] pos) (gY sp dvs E t):=by
 intro pins s σ H Q I h;refine L8 (gR I hg hm ?_ hdb);refine O3 (h₀:=X.base) I.ok.mod.uF hk (bN (ha pos pins s σ H _ I h) λus s1 ⟨vs,H1,I1,r,q⟩=>⟨I1.fm,?_⟩) he hpl;exact rV F hr hb hd hx I1 r q
def x6(F:bY X.prog X.w X.K X.mg X.base CX k f fd ps sp)(hr:bz k X.A)(hg:Gl X x)(hm:X.mg x=some (.ref f))(hk:W.keepIn X.K (.ref f)=true)(hb:Binds X.K fd ps ds)(hd:Vals dvs ds)(hx:Passes CX X E)
  (hdb:autoParam ((x ==("__debug__":Str))=false) ℜ1):PE X (.Call (.Name x p) [] [] pos) (gY sp dvs E j9):=by
 intro pins s σ H Q I h;refine L8 (gR I hg hm ?_ hdb);exact W.callWith_K0 I.fm hk (rV (us:=[]) F hr hb hd hx I .nil h)
def zy{pl:Sem Bool}(he:PE X o ta)(c:j8 X.K C)(hm:Meth X.K C m f)(F:bY X.prog X.w X.K X.mg X.base CX k f fd ps sp)(hr:bz k X.A)(hb:Binds X.K fd ps ds)(hd:Vals dvs ds)(hx:Passes CX X E)
  (ht:autoParam (eval (.Call (.Attribute o m apos) [] [] pos) X.env=(do
   let ov <- eval o X.env
   standAt apos.atName
   let (f,first) <- holding [ov] (getMethod ov m pl)
   callWith pos f first (backTo pos (starEach [] X.env)) (backToKw pos (keywordEach [] X.env)))) ℜ0) :
  PE X (.Call (.Attribute o m apos) [] [] pos) (pE C m sp dvs E ta j9):=by
 intro pins s σ H Q I h;refine W.methodCall_KW (pl:=pl) (bN (he pins s σ H _ I h) λu s1 hq48=>?_) ht;obtain⟨x,H1,I1,rx,a,dx,fs,ex,ea,l,q⟩:=hq48;subst ex;obtain rfl:u=Value.ref a:=rx;refine lT I1 ea c hm l ?_;exact W.callWith_K0 (first:=[.ref a]) I1.fm hm.kp (rV (us:=[.ref a]) (vs:=[.ref a]) F hr hb hd hx I1 (.cons rfl .nil) q)
structure Mk (K:W.Frag) (C f:Addr):Prop where
 makes:W.makesIn K C=true
 init:W.findIn K (.ref C) "__init__"=some (some (.ref f))
 fn:W.isFn K (.ref f)=true
 kp:W.keepIn K (.ref C)=true
def zx{s:Shared}{Q:VK}{vs:List V}(M:Mk X.K C f)(F:bY X.prog X.w X.K X.mg X.base CX k f fd ps sp)(hr:bz (k+1) X.A)(hb:Binds X.K fd ps ds)(hd:Vals dvs ds)
  (hx:Passes CX X E) (I:Inv X pins σ H s) (r:Vals vs us)
  (h:∀x dx,H x=none->H dx=none->dx≠x->sp (.ref x::(vs++dvs)) (upd (upd H dx (.own x)) x (.ins C dx [])) (λv H2=>v=.aL/\Q (.ref x) H2) E) :
  wpAny (model X.prog X.w) X.A (call (.ref C) us) (EP X pins σ Q) X.xe s:=by
 have hq:=h (s.heap.objs.size+1) s.heap.objs.size (I.aP.fresh (KQ _)) (I.aP.fresh (J8 _)) (JU (Ly _));have I2:=Inv.made (C:=C) I;have r2:Vals (V.ref (s.heap.objs.size+1)::(vs++dvs)) (Value.ref (s.heap.objs.size+1)::(us++ds)):=.cons rfl (r.append hd);have hl:(Value.ref (s.heap.objs.size+1)::us++ds).length=ps.length:=by
  have e:=r2.length;rw[F.len _ _ _ _ hq] at e;exact e.symm
 refine Nz (x5 (f:=f) I.fm M.makes M.init (Mh.mp M.fn) (N9 (F.run _ X.stack _ _ ⟨Value.ref (s.heap.objs.size+1)::us,[]⟩ (Value.ref (s.heap.objs.size+1)::(us++ds)) _ _ E (hr.make C us [])
  (I2.E_.make C us []) (hb _ (Value.ref (s.heap.objs.size+1)::us) I2.fm hl) r2 hq) λr s' hq'=>?_))
 cases r with
 |error e=>exact hx pins σ _ _ e s' I2 hq'
 |ok fl =>
  cases fl with
  |ret u =>
   obtain⟨v,H',I3,rv,ev,q3⟩:=I2.after hq';subst ev;exact⟨rv,⟨V.ref (s.heap.objs.size+1),H',I3,rfl,q3⟩⟩
  |next=>exact False.elim hq'
  |brk=>exact False.elim hq'
  |cont=>exact False.elim hq'
def A6(M:Mk X.K C f)(F:bY X.prog X.w X.K X.mg X.base CX k f fd ps sp)(hr:bz (k+1) X.A)(hg:Gl X x)(hm:X.mg x=some (.ref C))(hb:Binds X.K fd ps ds)(hd:Vals dvs ds)(hx:Passes CX X E)
  (ha:PA X (e::es) t) (hdb:autoParam ((x ==("__debug__":Str))=false) ℜ1) (he:autoParam (starEach (e::es) X.env=(false,eval e X.env)::starEach es X.env) ℜ0) (hpl:autoParam ((backTo pos (starEach es X.env)).any (·.1)=false) ℜ0) :
  PE X (.Call (.Name x p) (e::es) [] pos) (qI C sp dvs E t):=by
 intro pins s σ H Q I h;refine L8 (gR I hg hm ?_ hdb);refine O3 (h₀:=X.base) I.ok.mod.uF M.kp (bN (ha pos pins s σ H _ I h) λus s1 ⟨vs,H1,I1,r,q⟩=>⟨I1.fm,?_⟩) he hpl;exact zx M F hr hb hd hx I1 r q
end
def PK(X:Cx)(kws:List Keyword)(t:TA):Prop:=
 ∀(pos:Pos) (pins:List (Addr×Obj)) (s:Shared) (σ:St) (H:Hp) (Q:List V->Hp->Prop),Inv X pins σ H s->t σ H Q->wpAny (model X.prog X.w) X.A (evalAll ((backToKw pos (keywordEach kws X.env)).map (·.2))) (AP X pins σ Q) X.xe s
section
variable {X:Cx} {CX:nL} {k:Nat} {f C:Addr} {fd:FuncData} {ps ks:List Str} {sp:Sp} {E:XK} {x m:Str} {p pos apos kpos:Pos} {e o:Expr} {es:List Expr} {kws:List Keyword} {te ta:TE} {t tk:TA} {nm:Option Str}
def EW:PK X [] j9:=λ_ _ _ _ H Q I h=>wpAny_evalAll_nil ⟨[],H,I,.nil,h⟩
def Ce(ha:PE X e te)(hr:PK X kws t):PK X (⟨nm,e,kpos⟩::kws) (jt te t):=by
 intro pos pins s σ H Q I h;show wpAny _ _ (evalAll ((do let v <- eval e X.env;standAt pos;pure v)::(backToKw pos (keywordEach kws X.env)).map (·.2))) _ _ s
 refine wpAny_evalAll_cons (Js (bN (ha pins s σ H _ I h) λu s1 ⟨x,H1,I1,r1,q1⟩=>Js (MD (J9 ?_))));exact bN (hr pos pins s1 σ H1 _ I1 q1) λus s2 ⟨xs,H2,I2,r2,q2⟩=>⟨x::xs,H2,I2,.cons r1 r2,q2⟩
variable {g:List Value->List Value->List Value} {gV:List V->List V->List V}
end
structure av (N P:List Str) (sc:Scope):Prop where
 kind:sc.kind=.function
 co:sc.isCoroutine=false
 gen:sc.isGenerator=false
 nd:N.Nodup
 pre:N.take P.length=P
 par:∀x∈P,sc.names.lookup x=some .local\/sc.names.lookup x=some .cell
 ED:∀y∈sc.names,y.2≠.free
theorem mZ:∀{binds:List (Str×Value)} {m:Str->Option Value},(∀v,(x,v)∉binds)->bindL kindOf binds m x=m x
 |[],_,_=>rfl
 | (n,v)::r,m,h=>by
  unfold bindL;rw[mZ λw hw=>h w (Jx _ hw)];split
  ·have:x≠n:=by rintro rfl;exact h v J7
   simp[this]
  ·rfl
theorem ni:∀{binds:List (Str×Value)} {m:Str->Option Value},(∀v,(x,v)∉binds)->bindC kindOf binds m x=m x
 |[],_,_=>rfl
 | (n,v)::r,m,h=>by
  unfold bindC;rw[ni λw hw=>h w (Jx _ hw)];split
  ·rfl
  ·have:x≠n:=by rintro rfl;exact h v J7
   simp[this]
theorem mS{v:Value}:∀{P:List Str} {vs:List Value} {i:Nat} {m:Str->Option Value},P.Nodup->P[i]?=some x->vs[i]?=some v->kindOf x=some .local ->
  bindL kindOf (P.zip vs) m x=some v
 |[],_,_,_,_,h,_,_=>by simp at h
 |_::_,[],_,_,_,_,h,_=>by simp at h
 |p::P,w::vs,0,m,nd,h1,h2,hk=>by
  simp at h1 h2;subst h1;subst h2;show bindL kindOf ((p,w)::P.zip vs) m p=_;unfold bindL;rw[mZ λv hv=>(Ky.mp nd).1 (NN hv).1,JA hk];simp
 |p::P,w::vs,i+1,m,nd,h1,h2,hk=>by
  show bindL kindOf ((p,w)::P.zip vs) m x=_;unfold bindL;exact mS (i:=i) (Ky.mp nd).2 (by simpa using h1) (by simpa using h2) hk
theorem mF{v:Value}:∀{P:List Str} {vs:List Value} {i:Nat} {m:Str->Option Value},P.Nodup->P[i]?=some x->vs[i]?=some v->kindOf x≠some .local ->
  bindC kindOf (P.zip vs) m x=some v
 |[],_,_,_,_,h,_,_=>by simp at h
 |_::_,[],_,_,_,_,h,_=>by simp at h
 |p::P,w::vs,0,m,nd,h1,h2,hk=>by
  simp at h1 h2;subst h1;subst h2;show bindC kindOf ((p,w)::P.zip vs) m p=_;unfold bindC;rw[ni λv hv=>(Ky.mp nd).1 (NN hv).1,Jy hk];simp
 |p::P,w::vs,i+1,m,nd,h1,h2,hk=>by
  show bindC kindOf ((p,w)::P.zip vs) m x=_;unfold bindC;exact mF (i:=i) (Ky.mp nd).2 (by simpa using h1) (by simpa using h2) hk
noncomputable def start(N:List Str)(vs:List V):St:=vs.map some++List.replicate (N.length-vs.length) none
noncomputable def fY(CX:nL)(P:Program)(w:World)(K:W.Frag)(mg:Str->Option Value)(base:Heap)(N:List Str)(qual:Str)(scope:Scope)(f:Addr)(cd:Value)(A:Around)(outer:List Env)(s:Shared)(H:Hp)(E:XK):Cx where
 prog:=P
 w:=w
 K:=K
 mg:=mg
 base:=base
 A:=A.deeper (envOfC qual scope s.heap.objs.size f cd)
 N:=N
 s₀:=s
 H₀:=H
 env:=envOfC qual scope s.heap.objs.size f cd
 outer:=outer
 stack:=envOfC qual scope s.heap.objs.size f cd::outer
 ex:=[]
 calm:=true
 fn:=λ_=>true
 pn:=[]
 xe:=λe s'=>wpAny (model P w) (A.deeper (envOfC qual scope s.heap.objs.size f cd)) (leaving (envOfC qual scope s.heap.objs.size f cd) e) (λ_ s''=>CX outer H s E e s'') (λe' s''=>CX outer H s E e' s'') s'
def qN{sc:Scope}{n:Nat}(h:sc.names.lookup x=some .cell):∃c,(cellsFrom n sc.names []).lookup x=some c:=by
 have q:=W.cellsFrom_some sc.names n [] (.inl h);exact Mx.mp q
def vd{ps:List Str}{qual:Str}{f:Addr}{cd:Value}{A:Around}{s s1:Shared}{E:XK}{vs:List V}
  (S:av N ps scope) (hd:A.handled=none) (e0:rC P w K mg base A outer s H) (hl:vs.length=ps.length) (r:Vals vs us)
  (x:InCallC s s.heap.objs.size (bindL (envOfC qual scope s.heap.objs.size f cd).kindOf (ps.zip us) λ_=>none) (cellsFrom (s.heap.objs.size+1) scope.names []) (bindC (envOfC qual scope s.heap.objs.size f cd).kindOf (ps.zip us) λ_=>none) s1) :
  Inv (fY CX P w K mg base N qual scope f cd A outer s H E) [] (start N vs) H s1:=by
 have hpl:ps.length<=N.length:=by have:=Km List.length S.pre;rw[JG] at this;lia
 obtain⟨h1,tk,rfl,hk⟩:=x.done;have noA:∀b:Addr,b∉(fY CX P w K mg base N qual scope f cd A outer s H E).ex:=λb z=>absurd (show b∈([]:List Addr) from z) (by simp)
 refine⟨⟨e0.mod,S.kind,rfl,rfl,J8 _,λy z c h1 h2=>?_,λy hy=>?_,λy c _ h=>?_,λ_=>hd,Around.frames_deeper e0.frames,.inr ⟨rfl,rfl⟩,λb z=>absurd z (noA b),e0.bs,e0.tU,λb _ _=>noA b,λb z=>absurd z (noA b),e0.gS,e0.yK,e0.tabs⟩,
  rfl,e0.bare,Un.kept hk,⟨_,x.toInCall.ns,λi y v h1 h2 h3=>?_⟩,λy c h=>⟨_,x.cell y c h⟩,e0.aP.fresh (J8 _),λy c h=>?_,λp hp=>absurd (show p∈([]:List (Addr×Obj)) from hp) (by simp),e0.aP.kept hk,?_⟩
 ·exact name_of_addr x.apart (PySem.mem_of_lookup h1) (PySem.mem_of_lookup h2)
 ·have hy:scope.names.lookup y=some .cell\/scope.names.lookup y=some .free:=hy;rcases hy with hy|hy
  ·exact qN hy
  ·exact absurd rfl (S.ED _ (PySem.mem_of_lookup hy))
 ·exact L6 (x.above y c (PySem.mem_of_lookup h))
 ·have hi:i<vs.length:=by
   unfold start at h2;by_cases hi:i<vs.length
   ·exact hi
   ·rw[JP (by simpa using hi)] at h2
    rw[NK] at h2
    split at h2<;>cases h2
  have ha:vs[i]?=some v:=by
   unfold start at h2;rw[JX (by simpa using hi),J6] at h2
   cases e:vs[i]? with
   |none=>rw[e] at h2;cases h2
   |some a=>rw[e] at h2;cases h2;rfl
  obtain⟨u,hu,rv⟩:=r.get ha;have hp:ps[i]?=some y:=by
   rw[<- S.pre,LM (by lia)];exact h1
  have ndP:ps.Nodup:=by rw[<- S.pre];exact S.nd.sublist (List.take_sublist _ _)
  refine⟨u,rv,?_⟩;rcases S.par y (JY hp) with k|k
  ·exact .inl ⟨k,mS ndP hp hu k⟩
  ·obtain⟨c,e⟩:=qN (n:=s.heap.objs.size+1) k;refine .inr ⟨.inl k,c,e,?_⟩;have q:=x.cell y c e;rw[mF ndP hp hu (by show scope.names.lookup y≠_;rw[k];decide)] at q
   exact q
 ·exact e0.aP.fresh (L6 (x.above y c (PySem.mem_of_lookup h)))
 ·unfold start;show _=N.length;rw[Jv,Jt,JI];lia
def xU{f:Addr}{name qual:Str}{params:Arguments}{dV kV doc pm cdv ct oc:Value}{an od:Option Addr}
  {osl:Array (Option Value)} {ps:List Str} {sp:Sp} (lk:K.lookup f=some ⟨oc,od,.func (W.fnOf name qual params body scope dV kV doc pm an cdv ct),osl⟩) (gW:W.codeIn K cdv qual=true) (S:av N ps scope)
  (len:∀vs H Q E,sp vs H Q E->vs.length=ps.length)
  (hbody:∀(A:Around) (outer:List Env) (s:Shared) (H:Hp) (vs:List V) (Q:VK) (E:XK),bz k (A.deeper (envOfC qual scope s.heap.objs.size f cdv))->sp vs H Q E ->
   ∃t,sI (fY CX P w K mg base N qual scope f cdv A outer s H E) body t/\t {nx:=λ_ H'=>Q .aL H',rt:=Q} (start N vs) H) :
  bY P w K mg base CX (k+1) f (W.fnOf name qual params body scope dV kV doc pm an cdv ct) ps sp:=by
 refine⟨len,λA outer s H args us vs Q E hr e0 hb r mq=>?_⟩;have hl:=len _ _ _ _ mq;have KX:K.In s.heap:=e0.mod.uF.keeps λb o e=>(e0.bs b o e).1;have lim:s.heap.NoLimit:=e0.mod.nolimit.keeps λb o e=>(e0.bs b o e).1;have hkind:∀y∈ps.zip us,scope.names.lookup y.1=some .local\/(scope.names.lookup y.1=some .cell/\((cellsFrom (s.heap.objs.size+1) scope.names []).lookup y.1).isSome=true):=λ⟨n,v⟩ hy=>by
  rcases S.par n (NN hy).1 with q|q
  ·exact .inl q
  ·exact .inr ⟨q,W.cellsFrom_some _ _ _ (.inl q)⟩
 refine codeAny_call_function hr.depth (KX _ _ lk) rfl S.co S.gen rfl (W.codeRec_of KX gW) (hb _ _ _ _ ?_);refine wpAny_newFunctionEnv_cells S.kind hkind λenv he s1 x=>?_;subst he;refine⟨lim.keeps x.toInCall.keep,codeAny_func ?_⟩;obtain⟨t,ht,hq⟩:=hbody A outer s H vs Q E (hr.deeper _) mq;have I:Inv (fY CX P w K mg base N qual scope f cdv A outer s H E) [] (start N vs) H s1:=vd S hr.hd e0 hl r x;refine Kt (ht [] s1 (start N vs) H _ I hq) (λfl s' hs=>?_) λe s' hs=>hs;have fin:∀{σ':St} {H':Hp} {v:V} {u:Value},Inv (fY CX P w K mg base N qual scope f cdv A outer s H E) [] σ' H' s'->RelV v u->Q v H'->CE outer P w H s Q u s':=
  λ{σ' H' v u} J rv q=>⟨v,H',J.os,J.bare,J.base,J.aP,rv,q⟩
 cases fl with
 |ret u =>
  obtain⟨v,σ',H',J,rv,q⟩:=hs;exact fin J rv q
 |next =>
  obtain⟨σ',H',J,q⟩:=hs;exact fin (v:=V.aL) (u:=Value.none) J rfl q
 |brk =>
  obtain⟨_,_,_,q⟩:=hs;exact False.elim q
 |cont =>
  obtain⟨_,_,_,q⟩:=hs;exact False.elim q
section
variable {X:Cx} {x:Str} {p pos:Pos} {e:Expr} {es:List Expr} {t:TA} {id T:String} {r:List V->Hp->VK->Prop}
def BO(r:List V->Hp->VK->Prop)(t:TA):TE:=λσ H Q=>t σ H λvs H1=>r vs H1 Q
def yp(hc:aZ X (.builtin id) r)(hg:Gl X x)(hm:X.mg x=none)(hv:bootBuiltins x=some (.builtin id))(ha:PA X (e::es) t)(hn:autoParam (x≠"__name__") ℜ1)(hdb:autoParam ((x ==("__debug__":Str))=false) ℜ1)
  (he:autoParam (starEach (e::es) X.env=(false,eval e X.env)::starEach es X.env) ℜ0) (hpl:autoParam ((backTo pos (starEach es X.env)).any (·.1)=false) ℜ0):PE X (.Call (.Name x p) (e::es) [] pos) (BO r t):=by
 intro pins s σ H Q I h;refine L8 (fS I hg hm hv ?_ hn hdb);exact PyProof.Rows.callWith_builtin1 (bN (ha pos pins s σ H _ I h) λus s1 ⟨vs,H1,I1,r1,q1⟩=>hc pins s1 σ H1 vs us Q I1 r1 q1) he hpl
def vF(hc:aZ X (.type T) r)(hg:Gl X x)(hm:X.mg x=none)(hv:bootBuiltins x=some (.type T))(ha:PA X (e::es) t)(hn:autoParam (x≠"__name__") ℜ1)(hdb:autoParam ((x ==("__debug__":Str))=false) ℜ1)
  (he:autoParam (starEach (e::es) X.env=(false,eval e X.env)::starEach es X.env) ℜ0) (hpl:autoParam ((backTo pos (starEach es X.env)).any (·.1)=false) ℜ0):PE X (.Call (.Name x p) (e::es) [] pos) (BO r t):=by
 intro pins s σ H Q I h;refine L8 (fS I hg hm hv ?_ hn hdb);exact KJ (bN (ha pos pins s σ H _ I h) λus s1 ⟨vs,H1,I1,r1,q1⟩=>hc pins s1 σ H1 vs us Q I1 r1 q1) he hpl
end
end L2
namespace HT
open PySem PyProof.Rows
section
variable {prog:Program} {w:World} {A:Around} {E:Value->Shared->Prop} {s:Shared}
def C7{t b:Addr}{vs ws:List Value}{Q:Value->Shared->Prop}(ht:IsTup s.heap t vs.toArray)(hb:IsTup s.heap b ws.toArray)(hv:vs≠[])
  (h1:ws=[]->Q (.ref t) s) (h2:ws≠[]->Q (.ref s.heap.objs.size) {s with heap:=s.heap.push {cls:=.type "tuple",data:=.seq (vs++ws).toArray}})
  (hsz:vs.length+ws.length<=sizeLine):wpAny (model prog w) A (binaryOp .Add (.ref t) (.ref b)) Q E s:=by
 obtain⟨⟨cls,dd,data,sl⟩,ho,hc,n,hd⟩:=id ht;obtain⟨⟨cls2,dd2,data2,sl2⟩,ho2,hc2,n2,hd2⟩:=id hb;simp only at hc hd hc2 hd2;subst hc hd hc2 hd2;have e:vs.toArray++ws.toArray=(vs++ws).toArray:=by simp
 by_cases hw:ws=[]
 ·exact concat_meets ⟨_,ho,rfl⟩ ⟨_,ho2,rfl⟩ noFill_tuple_add seq_tuple_add PySem.F.slot_tuple_add PySem.F.entry_tuple_add (PySem.F.args_tuple_add_2 _ _)
   (tuple_addW1 t b vs.toArray ws.toArray n n2 dd dd2 sl sl2 (by simpa using hv) (by simp[hw])) ⟨ho,ho2,h1 hw⟩
 ·refine concat_meets ⟨_,ho,rfl⟩ ⟨_,ho2,rfl⟩ noFill_tuple_add seq_tuple_add PySem.F.slot_tuple_add PySem.F.entry_tuple_add (PySem.F.args_tuple_add_2 _ _)
   (tuple_addW2 t b vs.toArray ws.toArray n n2 dd dd2 sl sl2 (by simpa using hv) (by simpa using hw) (by rw[List.size_toArray,List.size_toArray];exact hsz)) ⟨ho,ho2,?_⟩
  rw[e];exact h2 hw
noncomputable def bB(n d:Nat):Option Int->Nat
 |none=>d
 |some v=>if v<0 then (v+(n:Int)).toNat else min v.toNat n
def cS(n d:Nat):bB n d none=d:=rfl
def eK(n d k:Nat):bB n d (some (k:Int))=min k n:=by
 show (if (k:Int)<0 then ((k:Int)+(n:Int)).toNat else min (k:Int).toNat n)=min k n
 rw[if_neg (by lia),Int.toNat_natCast]
def rN(n d:Nat)(hd:d<=n)(o:Option Int):bB n d o<=n:=by
 cases o with
 |none=>exact hd
 |some v =>
  show (if v<0 then (v+(n:Int)).toNat else min v.toNat n)<=n
  by_cases hv:v<0
  ·rw[if_pos hv];lia
  ·rw[if_neg hv];exact Nat.min_le_right _ _
def tI(v:Int)(n d:Nat):(if v<0 then max (v+(n:Int)) 0 else min v (n:Int))=((bB n d (some v):Nat):Int):=by
 show (if v<0 then max (v+(n:Int)) 0 else min v (n:Int))=(((if v<0 then (v+(n:Int)).toNat else min v.toNat n):Nat):Int)
 by_cases hv:v<0
 ·simp only[if_pos hv];lia
 ·simp only[if_neg hv];lia
def rA(lo hi:Option Int)(n:Nat):Builtin.Slice.sliceAdjust lo hi 1 (n:Int)=(((bB n 0 lo:Nat):Int),((bB n n hi:Nat):Int)):=by
 have h1:¬ ((1:Int)<0):=by lia
 unfold Builtin.Slice.sliceAdjust;simp only[h1,if_false];refine Prod.ext ?_ ?_
 ·cases lo with
  |none=>rfl
  |some v=>exact tI v n 0
 ·cases hi with
  |none=>rfl
  |some v=>exact tI v n n
def rd(i j:Nat):Builtin.Slice.slicePlaces (i:Int) (j:Int) 1=j-i:=by
 unfold Builtin.Slice.slicePlaces;have h1:(1:Int) > 0:=by lia
 simp only[h1,if_true,Int.ediv_one]
 split<;>lia
def lQ{v:Value}{o:Option Int}{Q:Option Int->Shared->Prop}(p:IsPart v o)(h:Q o s):wpAny (model prog w) A (Builtin.Slice.slicePartIndex v) Q E s:=by
 cases p with
 |none=>exact slicePart_none h
 |int i t=>exact slicePart_int h
def fA{sl:Addr}{vl vu:Value}{lo hi:Option Int}{n:Nat}{Q:Int×Int×Nat->Shared->Prop}(hs:s.heap.IsSliceOf sl vl vu .none)(pl:IsPart vl lo)(pu:IsPart vu hi)
  (h:Q (((bB n 0 lo:Nat):Int),1,bB n n hi-bB n 0 lo) s):wpAny (model prog w) A (Builtin.Slice.sliceApplied (.ref sl) (pure (n:Int))) Q E s:=by
 obtain⟨os,hos,hcs,hds⟩:=id hs;unfold Builtin.Slice.sliceApplied Builtin.Slice.sliceFields;refine wpAny_bind (wpAny_bind (wpAny_field hos hds (x:=vl) rfl (wpAny_bind (wpAny_field hos hds (x:=vu) rfl (wpAny_bind (wpAny_field hos hds (x:=.none) rfl (wpAny_pure ?_)))))));refine wpAny_bind (slicePart_none ?_);show wpAny _ _ (if ((1:Int) == 0)=true then _ else _) _ _ s
 rw[if_neg (by decide)]
 refine wpAny_bind (lQ pl (wpAny_bind (lQ pu (wpAny_bind (wpAny_pure ?_)))));show wpAny _ _ (match Builtin.Slice.sliceAdjust lo hi 1 (n:Int) with | (lo,hi)=>pure (lo,(1:Int),Builtin.Slice.slicePlaces lo hi 1)) _ _ s
 rw[rA lo hi n];show wpAny _ _ (pure (((bB n 0 lo:Nat):Int),(1:Int),Builtin.Slice.slicePlaces ((bB n 0 lo:Nat):Int) ((bB n n hi:Nat):Int) 1)) _ _ s;rw[rd];exact wpAny_pure h
def y6(xs:Array Value)(i k:Nat):((List.range k).filterMap λ(m:Nat)=>xs[((i:Int)+(m:Int)*1).toNat]?).toArray=((xs.toList.drop i).take k).toArray:=by
 have e:(λ(m:Nat)=>xs[((i:Int)+(m:Int)*1).toNat]?)=λm=>xs[i+m]?:=by
  funext m
  have:((i:Int)+(m:Int)*1).toNat=i+m:=by lia
  rw[this]
 rw[e];have:=pick_run xs i k;rw[List.filterMap_map] at this;have e2:((λx=>xs[x]?) ∘ λx=>i+x)=λm=>xs[i+m]?:=rfl;rw[e2] at this;rw[this]
def ip{t sl:Addr}{items:Array Value}{vl vu:Value}{lo hi:Option Int}{Q:Value->Shared->Prop}(ht:IsTup s.heap t items)(hs:s.heap.IsSliceOf sl vl vu .none)(pl:IsPart vl lo)(pu:IsPart vu hi)
  (hw:¬ (bB items.size 0 lo=0/\bB items.size items.size hi=items.size))
  (h:Q (.ref s.heap.objs.size) {s with heap:=s.heap.push {cls:=.type "tuple",data:=.seq ((items.toList.drop (bB items.size 0 lo)).take (bB items.size items.size hi-bB items.size 0 lo)).toArray}})
  (hsz:items.size<=sizeLine):wpAny (model prog w) A (getItem (.ref t) (.ref sl)) Q E s:=by
 have htake:sizeOk (.seq ((items.toList.drop (bB items.size 0 lo)).take (bB items.size items.size hi-bB items.size 0 lo)).toArray):=by
  show ((items.toList.drop (bB items.size 0 lo)).take (bB items.size items.size hi-bB items.size 0 lo)).toArray.size<=sizeLine;rw[List.size_toArray,List.length_take,List.length_drop,Array.length_toList];exact Nat.le_trans (Nat.min_le_right _ _) (Nat.le_trans (Nat.sub_le _ _) hsz)
 have hj:bB items.size items.size hi<=items.size:=rN _ _ (Nat.le_refl _) hi;obtain⟨os,hos,hcs,hds⟩:=id hs;have hTs:s.TypeIs (.ref sl) "slice":=⟨os,hos,hcs⟩;unfold getItem
 try with_reducible refine wpAny_holding ?_
 first|refine wpAny_bind (wpAny_pure ?_)|skip
 refine wpAny_bind (wpAny_sequenceKey ht.typeIs (by decide) ?_)
 refine wpAny_bind (wpAny_callSpecial?_slot (name:=Str.ofString "__getitem__") ht.typeIs PyProof.Rows.slot_tuple_getitem
  (wpAny_call_entry PyProof.Rows.slot_tuple_getitem ht.typeIs entry_tuple_getitem ?_ (args_tuple_getitem _ _)))
 show wpAny _ _ (Builtin.Tuple.tupleItemsOf (.ref t) >>= _) _ _ s;refine wpAny_bind (tupleItemsOf_ ht ?_);refine wpAny_bind (wpAny_typeOf hTs ?_);rw[if_pos (by decide)]
 refine wpAny_bind (fA hs pl pu ?_);have hno:¬ ((((bB items.size 0 lo:Nat):Int) == 0 && (1:Int) == 1 && (bB items.size items.size hi-bB items.size 0 lo) == items.size)=true):=by
  intro q;rw[Bool.and_eq_true,Bool.and_eq_true] at q;have q1:((bB items.size 0 lo:Nat):Int)=0:=eq_of_beq q.1.1;have q2:bB items.size items.size hi-bB items.size 0 lo=items.size:=eq_of_beq q.2;exact hw ⟨by lia,by lia⟩
 show wpAny _ _ (if (((bB items.size 0 lo:Nat):Int) == 0 && (1:Int) == 1 && (bB items.size items.size hi-bB items.size 0 lo) == items.size)=true then _ else _) _ _ s
 rw[if_neg hno,y6]
 first
  |exact wpAny_bind (m:=Builtin.Tuple.tupleExact _) (wpAny_newObj_type (wpAny_pure ⟨_,rfl,wpAny_pure h⟩) htake)
  |exact wpAny_bind (m:=Builtin.Tuple.tupleExact _) (wpAny_newObj_type (wpAny_bind (wpAny_pure (wpAny_pure ⟨_,rfl,wpAny_pure h⟩))) htake)
  |exact wpAny_bind (wpAny_bind (m:=Builtin.Tuple.tupleExact _) (wpAny_newObj_type (wpAny_pure (wpAny_pure ⟨_,rfl,wpAny_pure h⟩)) htake))
  |exact wpAny_bind (wpAny_bind (m:=Builtin.Tuple.tupleExact _) (wpAny_newObj_type (wpAny_pure ⟨_,rfl,wpAny_pure h⟩) htake))
end
end HT
namespace L2
open PySem PySem.Spec PyProof.Rows
variable{r:V->Option Int->Option Int->Hp->VK->Prop}{xs:List V}{its its' us:List Value}{α:Type}{pins:List (Addr×Obj)}{σ:St}{H:Hp}{x:V}
abbrev TO:=St->Hp->(Option Int->Hp->Prop)->Prop
def PO(X:Cx)(e:Option Expr)(t:TO):Prop:=
 ∀(pins:List (Addr×Obj)) (s:Shared) (σ:St) (H:Hp) (Q:Option Int->Hp->Prop),Inv X pins σ H s->t σ H Q ->
  wpAny (model X.prog X.w) X.A (evalPart e X.env) (λu s'=>∃o H',Inv X pins σ H' s'/\IsPart u o/\Q o H') X.xe s
def iI:TO:=λ_ H Q=>Q none H
def qj(t:TE):TO:=λσ H Q=>t σ H λx H1=>∃i,x=.int i/\Q (some i) H1
def intsAre_of{ns:List Int}:∀{us:List Value},Vals (ns.map V.int) us->IntsAre us ns:=by
 induction ns with
 |nil=>intro us r;rw[Mc] at r;cases r;exact .nil
 |cons n ns ih =>
  intro us r;rw[Ke] at r
  cases r with
  |cons r1 r2 =>
   obtain⟨t,e⟩:=r1;subst e;exact .cons n t (ih r2)
section
variable {X:Cx} {e:Expr} {te:TE} {lo hi:Option Expr} {tl th:TO} {pos p2:Pos}
def A0:PO X none iI:=by
 intro pins s σ H Q I h;rw[evalPart_none];exact J9 ⟨none,H,I,.none,h⟩
def Bj(h:PE X e te):PO X (some e) (qj te):=by
 intro pins s σ H Q I hw;rw[evalPart_some];refine bN (h pins s σ H _ I hw) λu s1 hq50=>?_;obtain⟨x,H1,I1,r1,q1⟩:=hq50;obtain⟨i,rfl,q⟩:=q1;obtain⟨t,rfl⟩:=r1;exact⟨some i,H1,I1,.int i t,q⟩
def uE(X:Cx)(r:V->Option Int->Option Int->Hp->VK->Prop):Prop:=
 ∀(pins:List (Addr×Obj)) (s:Shared) (σ:St) (H:Hp) (x:V) (v vl vu:Value) (lo hi:Option Int) (sl:Addr) (Q:VK),Inv X pins σ H s->RelV x v->s.heap.IsSliceOf sl vl vu .none->IsPart vl lo->IsPart vu hi->r x lo hi H Q ->
  ∃T id,typeLookup (.type T) "__getitem__"=pure (some (.builtin id))/\s.TypeIs v T/\wpAny (model X.prog X.w) X.A (getItem v (.ref sl)) (EP X pins σ Q) X.xe s
def uE.or{r':V->Option Int->Option Int->Hp->VK->Prop}(h:uE X r)(h':uE X r'):uE X (λx lo hi H Q=>r x lo hi H Q\/r' x lo hi H Q):=by
 intro pins s σ H x v vl vu lo hi sl Q I rx hs pl pu q;rcases q with q|q
 ·exact h pins s σ H x v vl vu lo hi sl Q I rx hs pl pu q
 ·exact h' pins s σ H x v vl vu lo hi sl Q I rx hs pl pu q
def Gx(r:V->Option Int->Option Int->Hp->VK->Prop)(te:TE)(tl th:TO):TE:=λσ H Q=>te σ H λx H1=>tl σ H1 λl H2=>th σ H2 λu H3=>r x l u H3 Q
def zV(hr:uE X r)(he:PE X e te)(hl:PO X lo tl)(hu:PO X hi th):PE X (.Subscript e (.Slice lo hi none p2) pos) (Gx r te tl th):=by
 intro pins s σ H Q I h;refine Subscript_ (bN (he pins s σ H _ I h) λv s1 hq51=>?_);obtain⟨x,H1,I1,r1,q1⟩:=hq51;refine wpAny_Slice (bN (hl pins s1 σ H1 _ I1 q1) λvl s2 ⟨l,H2,I2,pl,q2⟩=>bN (hu pins s2 σ H2 _ I2 q2) λvu s3 hq52=>?_);obtain⟨u,H3,I3,pu,q3⟩:=hq52;rw[evalPart_none];refine J9 ?_;have I4:Inv X pins σ H3 {s3 with heap:=s3.heap.push {cls:=.type "slice",data:=.fields #[vl,vu,.none]}}:=I3.kept (t':=s3.toks) λb ob q=>J5 _ q
 obtain⟨T,id,hT,ht,hg⟩:=hr pins {s3 with heap:=s3.heap.push {cls:=.type "slice",data:=.fields #[vl,vu,.none]}} σ H3 x v vl vu l u s3.heap.objs.size Q I4 r1 (Heap.IsSliceOf.new ..) pl pu q3
 show wpAny (model X.prog X.w) X.A (subscriptTail e (.Slice lo hi none p2) v (.ref s3.heap.objs.size)) (EP X pins σ Q) X.xe {s3 with heap:=s3.heap.push {cls:=.type "slice",data:=.fields #[vl,vu,.none]}}
 exact tail_any (ops:=[.ref s3.heap.objs.size,v]) ht hT hg (by with_unfolding_all rfl)
def dC(xs:List V)(lo hi:Option Int):List V:=(xs.drop (HT.bB xs.length 0 lo)).take (HT.bB xs.length xs.length hi-HT.bB xs.length 0 lo)
def jv(xs:List V)(lo hi:Option Int):(dC xs lo hi).length<=xs.length:=by
 unfold dC;rw[JG,Ka];exact JC (Nat.min_le_right _ _) (Nat.sub_le _ _)
def sM(K:W.Frag):V->Option Int->Option Int->Hp->VK->Prop:=λx lo hi H Q=>∃a xs,x=.ref a/\bq K H a xs /\
 ¬ (HT.bB xs.length 0 lo=0/\HT.bB xs.length xs.length hi=xs.length)/\∀p,H p=none->Q (.ref p) (upd H p (.tup (dC xs lo hi)))
def rh:uE X (sM X.K):=by
 intro pins s σ H x v vl vu lo hi sl Q I rx hs pl pu h;obtain⟨a,xs,rfl,hx,hw,q⟩:=h;cases rx;obtain⟨its,r,ht,hz⟩:=I.tuple hx;have hlen:its.toArray.size=xs.length:=by rw[JD];exact r.length.symm
 refine⟨"tuple",_,Ll.lookup,ht.typeIs,?_⟩;refine HT.ip ht hs pl pu (by rw[hlen];exact hw) ?_ (by rw[hlen];exact hz)
 rw[hlen];refine⟨.ref s.heap.objs.size,_,I.laid (t':=s.toks) (o:=.tup (dC xs lo hi)) (λb ob q=>J5 _ q) (J8 _) ?_,rfl,q _ (I.aP.fresh (J8 _))⟩;exact⟨JC (jv xs lo hi) hz,_,(r.drop (HT.bB xs.length 0 lo)).take (HT.bB xs.length xs.length hi-HT.bB xs.length 0 lo),ee.new _ _⟩
def Gf(K:W.Frag):R2:=λx y H Q=>∃a b xs ys,x=.ref a/\y=.ref b/\bq K H a xs/\bq K H b ys/\xs≠[]/\xs.length+ys.length<=sizeLine /\
 (ys=[]->Q (.ref a) H)/\(ys≠[]->∀p,H p=none->Q (.ref p) (upd H p (.tup (xs++ys))))
def Vals.oO(r:Vals xs us):us=[] ↔ xs=[]:=by
 cases r with
 |nil=>simp
 |cons _ _=>simp
def tG:cY X (binaryOp .Add) (Gf X.K):=by
 intro pins s σ H x y v u Q I rx ry h;obtain⟨a,b,xs,ys,rfl,rfl,ha,hb,hx,hz,q1,q2⟩:=h;cases rx;cases ry;obtain⟨its,r1,p1,_⟩:=I.tuple ha;obtain⟨its2,r2,p2,_⟩:=I.tuple hb;refine HT.C7 p1 p2 (λz=>hx (r1.oO.mp z)) (λz=>⟨.ref a,H,I,rfl,q1 (r2.oO.mp z)⟩) (λz=>?_) (by rw[<- r1.length,<- r2.length];exact hz)
 refine⟨.ref s.heap.objs.size,_,I.laid (t':=s.toks) (o:=.tup (xs++ys)) (λb ob q=>J5 _ q) (J8 _) ?_,rfl,q2 (λw=>z (r2.oO.mpr w)) _ (I.aP.fresh (J8 _))⟩;exact⟨by rw[Jv];exact hz,_,r1.append r2,ee.new _ _⟩
end
noncomputable def iY(n:Nat)(i:Int):Option Nat:=if 0<=i then (if i<n then some i.toNat else none) else if -(n:Int)<=i then some (i+n).toNat else none
def bI(xs:List α)(i:Int):Option α:=(iY xs.length i).bind λj=>xs[j]?
def s_{n:Nat}{i:Int}{j:Nat}(h:iY n i=some j):seqIndex? i n=some j/\j<n/\-(n:Int)<=i/\i<n:=by
 unfold iY at h;by_cases h0:0<=i
 ·rw[JA h0] at h;by_cases h1:i<n
  ·rw[JA h1] at h;have e:i.toNat=j:=Option.some.inj h;exact⟨by rw[seqIndex_of h0 h1,e],by lia,by lia,h1⟩
  ·rw[Jy h1] at h;cases h
 ·rw[Jy h0] at h;by_cases h1:-(n:Int)<=i
  ·rw[JA h1] at h;have e:(i+n).toNat=j:=Option.some.inj h;exact⟨by rw[O4 (by lia) h1,e],by lia,h1,by lia⟩
  ·rw[Jy h1] at h;cases h
def ow{xs:List α}{i:Int}{v:α}(h:bI xs i=some v):∃j,seqIndex? i xs.length=some j/\xs[j]?=some v/\j<xs.length/\-(xs.length:Int)<=i/\i<xs.length:=by
 unfold bI at h
 cases e:iY xs.length i with
 |none=>rw[e] at h;cases h
 |some j =>
  rw[e] at h;obtain⟨h1,h2,h3,h4⟩:=s_ e;exact⟨j,h1,h,h2,h3,h4⟩
def aU{xs:List α}{j:Nat}{v:α}(h:xs[j]?=some v):bI xs (j:Int)=some v:=by
 have hj:j<xs.length:=(Ju.mp h).1;have e:iY xs.length (j:Int)=some j:=by
  unfold iY;rw[JA (by lia),JA (by lia)];simp
 unfold bI;rw[e];exact h
def kM(xs:List α)(v:α):bI (xs++[v]) (-1)=some v:=by
 have hl:(xs++[v]).length=xs.length+1:=by simp
 have e:iY (xs++[v]).length (-1)=some xs.length:=by
  unfold iY;rw[hl,Jy (by decide),JA (by lia)]
  congr 1;lia
 unfold bI;rw[e];show (xs++[v])[xs.length]?=some v;simp
def sY(b:Expr):Prop:=∀o i,subscripted b false o i=operate [o,i] (getItem o i)
def vv(X:Cx)(r:R2):Prop:=
 ∀(value slice:Expr) (pins:List (Addr×Obj)) (s:Shared) (σ:St) (H:Hp) (x y:V) (v u:Value) (Q:VK),Inv X pins σ H s->RelV x v->RelV y u->r x y H Q ->
  subscripted slice false v u=operate [v,u] (getItem v u)->wpAny (model X.prog X.w) X.A (subscriptTail value slice v u) (EP X pins σ Q) X.xe s
def wJ(X:Cx)(id:String)(r:V->List V->Hp->VK->Prop):Prop:=
 ∀(pins:List (Addr×Obj)) (s:Shared) (σ:St) (H:Hp) (x:V) (xs:List V) (v:Value) (us:List Value) (Q:VK),Inv X pins σ H s->RelV x v->Vals xs us->r x xs H Q ->
  wpAny (model X.prog X.w) X.A (call (.builtin id) (v::us)) (EP X pins σ Q) X.xe s
section
variable {X:Cx} {a b:Expr} {ta tb:TE} {pos:Pos}
def vv.or{r r':R2}(h:vv X r)(h':vv X r'):vv X (λx y H Q=>r x y H Q\/r' x y H Q):=by
 intro value slice pins s σ H x y v u Q I rx ry q hs;rcases q with q|q
 ·exact h value slice pins s σ H x y v u Q I rx ry q hs
 ·exact h' value slice pins s σ H x y v u Q I rx ry q hs
def CG{r:R2}(hr:vv X r)(ha:PE X a ta)(hb:PE X b tb)(hs:sY b):PE X (.Subscript a b pos) (wQ r ta tb):=by
 intro pins s σ H Q I h;exact Subscript_ (Fz ha hb I h λv u s2 x y H2 I2 rx ry q=>hr a b pins s2 σ H2 x y v u Q I2 rx ry q (hs _ _))
def Hl(K:W.Frag):R2:=λx y H Q=>∃p xs i v,x=.ref p/\y=.int i/\bg K H p xs/\bI xs i=some v/\Q v H
def Fp(K:W.Frag):R2:=λx y H Q=>∃p xs i v,x=.ref p/\y=.int i/\bq K H p xs/\bI xs i=some v/\Q v H
def Gq:R2:=λx y H Q=>∃z i c,x=.str z/\y=.int i/\z.length<=sizeLine/\bI z.cps.toList i=some c/\Q (.str ⟨#[c]⟩) H
def BE:vv X (Hl X.K):=by
 intro value slice pins s σ H x y v u Q I rx ry h hs;obtain⟨p,xs,i,z,rfl,rfl,hq,he,q⟩:=h;cases rx;obtain⟨t,rfl⟩:=ry;obtain⟨its,r,pl,hz⟩:=I.list hq;obtain⟨j,h1,h2,h3,h4,h5⟩:=ow he;obtain⟨w,ew,rw'⟩:=r.get h2;have hl:=r.length;have hn:=jj;have fin:EP X pins σ Q w s:=⟨z,H,I,rw',q⟩;by_cases h0:0<=i
 ·have hj:i.toNat=j:=by
   rw[seqIndex_of h0 h5] at h1;exact Option.some.inj h1
  exact item_listR pl.isList h0 (by lia) (by rw[hj];simpa using ew) fin hs
 ·have hj:(i+(its.toArray.size:Int)).toNat=j:=by
   rw[O4 (by lia) h4] at h1
   rw[JD,<- hl];exact Option.some.inj h1
  exact subscriptTail_builtinR (x:=w) pl.isList.typeIs slot_list_getitem.lookup
   (wpAny_getItem_list_neg (Q:=λr s'=>r=w/\EP X pins σ Q r s') pl.isList (by lia) (by rw[JD]<;>lia) (by lia) (by rw[hj];simpa using ew) ⟨rfl,fin⟩) hs
def rM:vv X (Fp X.K):=by
 intro value slice pins s σ H x y v u Q I rx ry h hs;obtain⟨p,xs,i,z,rfl,rfl,hq,he,q⟩:=h;cases rx;obtain⟨t,rfl⟩:=ry;obtain⟨its,r,pl,hz⟩:=I.tuple hq;obtain⟨j,h1,h2,h3,h4,h5⟩:=ow he;obtain⟨w,ew,rw'⟩:=r.get h2;have hl:=r.length;have hn:=jj;have fin:EP X pins σ Q w s:=⟨z,H,I,rw',q⟩;exact subscriptTail_builtinR (x:=w) pl.typeIs slot_tuple_getitem.lookup
  (getItem_tuple (j:=j) (Q:=λr s'=>r=w/\EP X pins σ Q r s') pl (by lia) (by lia) (by rw[JD,<- hl];exact h1) (by simpa using ew) ⟨rfl,fin⟩) hs
def E3:vv X Gq:=by
 intro value slice pins s σ H x y v u Q I rx ry h hs;obtain⟨z,i,c,rfl,rfl,hz,he,q⟩:=h;obtain⟨t,rfl⟩:=rx;obtain⟨t',rfl⟩:=ry;obtain⟨j,h1,h2,h3,h4,h5⟩:=ow he;have hl:z.cps.toList.length=z.length:=by simp[Str.length]
 rw[hl] at h1 h4 h5;have hn:=jj;exact tail_any (typeIs_str s z t) slot_str_getitem.lookup (getItem_str (c:=c) (by
  have e1:decide (i < -(2^63:Int))=false:=JV (by lia)
  have e2:decide (i >= 2^63)=false:=JV (by lia)
  rw[e1,e2,Bool.or_false]) (by rw[h1];simpa using h2) ⟨.str ⟨#[c]⟩,H,I.tok _,⟨_,rfl⟩,q⟩) hs
def Jk(K:W.Frag):R2:=λx y H Q=>Hl K x y H Q\/Fp K x y H Q\/Gq x y H Q
def FE:vv X (Jk X.K):=BE.or (rM.or E3)
def so(its:List Value)(n j:Nat)(u:Value):Obj.mapSeq (·.setIfInBounds j u) {cls:=.type "list",data:=.seq its.toArray n}={cls:=.type "list",data:=.seq (its.set j u).toArray n}:=by
 simp[Obj.mapSeq]
def Inv.lst{s:Shared}{p:Addr}(I:Inv X pins σ H s)(h:H p=some (.lst xs)):
  ∃(its:List Value) (n:Nat),Vals xs its/\s.heap.get? p=some {cls:=.type "list",data:=.seq its.toArray n}/\xs.length<=sizeLine:=by
 obtain⟨z,its,n,r,e⟩:=I.aP p _ h;exact⟨its,n,r,e,z⟩
def Inv.Ff{s:Shared}{p:Addr}{ys:List V}{n n':Nat}{f:Obj->Obj}(I:Inv X pins σ H s)(h:H p=some (.lst xs))
  (ho:s.heap.get? p=some {cls:=.type "list",data:=.seq its.toArray n}) (hf:f {cls:=.type "list",data:=.seq its.toArray n}={cls:=.type "list",data:=.seq its'.toArray n'}) (r:Vals ys its') (hz:ys.length<=sizeLine) (t:Nat) :
  Inv X pins σ (upd H p (.lst ys)) {s with heap:=s.heap.update p f,toks:=t}:=by
 have e:(s.heap.update p f).get? p=some {cls:=.type "list",data:=.seq its'.toArray n'}:=by
  rw[LC f ho (by rw[hf]<;>rfl),hf]
 refine I.write (x:=p) (e:=p) (by rw[h];trivial) (.inl rfl) (λb u hb q=>(LZ _ _ (KA hb)).trans q) ⟨_,e⟩ ?_
 exact⟨hz,its',n',r,e⟩
def Gy:V->V->V->Hp->(Hp->Prop)->Prop:=λo i v H Q=>∃p xs k j,o=.ref p/\i=.int k/\H p=some (.lst xs)/\iY xs.length k=some j/\Q (upd H p (.lst (xs.set j v)))
def set_list:DJ X Gy:=by
 intro pins s σ H o i v ov iv u Q I ro ri rv h;obtain⟨p,xs,k,j,rfl,rfl,hp,hj,q⟩:=h;cases ro;obtain⟨t,rfl⟩:=ri;obtain⟨its,n,r,ho,hz⟩:=I.lst hp;obtain⟨h1,h2,h3,h4⟩:=s_ hj;have hl:=r.length;have hn:=jj;have I':Inv X pins σ (upd H p (.lst (xs.set j v))) {s with heap:=s.heap.update p (Obj.mapSeq (·.setIfInBounds j u))}:=
  I.Ff hp ho (so its n j u) (r.set rv j) (by rw[Lm];exact hz) s.toks
 by_cases h0:0<=k
 ·have hk:k.toNat=j:=by
   rw[seqIndex_of h0 h4] at h1;exact Option.some.inj h1
  exact W.ki_setAt ho h0 (by lia) (by rw[JD,<- hl];exact h4) (by rw[hk];exact⟨_,I',q⟩)
 ·have hk:(k+(its.toArray.size:Int)).toNat=j:=by
   rw[O4 (by lia) h3] at h1
   rw[JD,<- hl];exact Option.some.inj h1
  exact W.ki_setBack ho (by lia) (by rw[JD,<- hl];exact h3) (by lia) (by rw[hk];exact⟨_,I',q⟩)
def ot(lo hi:Option Int)(n:Nat):(sliceBounds lo hi none n).1=((HT.bB n 0 lo:Nat):Int)/\(sliceBounds lo hi none n).2.1=((HT.bB n n hi:Nat):Int)/\(sliceBounds lo hi none n).2.2=1:=by
 refine⟨?_,?_,rfl⟩
 ·cases lo with
  |none=>simp[sliceBounds,HT.bB]
  |some i =>
   simp only[sliceBounds,HT.bB,Option.getD_none,show (1:Int) > 0 by decide,LV]
   by_cases h:i<0
   ·simp only[h,LV]<;>lia
   ·simp only[h,Lz]<;>lia
 ·cases hi with
  |none=>simp[sliceBounds,HT.bB]
  |some i =>
   simp only[sliceBounds,HT.bB,Option.getD_none,show (1:Int) > 0 by decide,LV]
   by_cases h:i<0
   ·simp only[h,LV]<;>lia
   ·simp only[h,Lz]<;>lia
def me(its:List Value)(lo hi:Option Int):slicePick its.toArray lo hi none=((its.drop (HT.bB its.length 0 lo)).take (HT.bB its.length its.length hi-HT.bB its.length 0 lo)).toArray:=by
 obtain⟨h1,h2,h3⟩:=ot lo hi its.toArray.size;unfold slicePick;rw[h1,h2,h3];simp only[sliceRange_one,pick_run,JD]<;>rfl
def EA(K:W.Frag):V->Option Int->Option Int->Hp->VK->Prop:=λx lo hi H Q=>∃a xs,x=.ref a/\bg K H a xs/\∀p,H p=none->Q (.ref p) (upd H p (.lst (dC xs lo hi)))
def nQ:uE X (EA X.K):=by
 intro pins s σ H x v vl vu lo hi sl Q I rx hs pl pu h;obtain⟨a,xs,rfl,hx,q⟩:=h;cases rx;obtain⟨its,r,ht,hz⟩:=I.list hx;have hlen:=r.length;refine⟨"list",_,slot_list_getitem.lookup,ht.isList.typeIs,?_⟩;refine wpAny_getItem_list_slice ht.isList hs pl pu .none (by simp) ?_ (by rw[JD]<;>lia)
 rw[me,<- hlen];refine⟨.ref s.heap.objs.size,_,I.laid (t':=s.toks) (o:=.lst (dC xs lo hi)) (λb ob q=>J5 _ q) (J8 _) ?_,rfl,q _ (I.aP.fresh (J8 _))⟩;exact⟨JC (jv xs lo hi) hz,_,0,(r.drop (HT.bB xs.length 0 lo)).take (HT.bB xs.length xs.length hi-HT.bB xs.length 0 lo),JK _ rfl⟩
noncomputable def d7:V->Bool
 |.aL=>true
 |.bl _=>true
 |.int _=>true
 |.str _=>true
 |_=>false
noncomputable def CS:V->V->Bool
 |.aL,.aL=>true
 |.bl a,.bl b=>a == b
 |.bl a,.int b=>(if a then 1 else 0) == b
 |.int a,.bl b=>a ==(if b then 1 else 0)
 |.int a,.int b=>a == b
 |.str a,.str b=>a == b
 |_,_=>false
def DZ{A:Around}{s:Shared}{y:V}{u v:Value}(ry:RelV y u)(rx:RelV x v)(fy:d7 y=true)(fx:d7 x=true):SeqAt.EqAt A s u v (CS y x):=by
 cases y with
 |aL =>
  cases ry
  cases x with
  |aL=>cases rx;exact SeqAt.EqAt.same _
  |bl b=>cases rx;exact SeqAt.EqAt.none_bool b
  |int b=>obtain⟨t,rfl⟩:=rx;exact SeqAt.EqAt.none_int b t
  |str b=>obtain⟨t,rfl⟩:=rx;exact SeqAt.EqAt.none_str b t
  |_=>exact absurd (show false=true from fx) JF
 |bl a =>
  cases ry
  cases x with
  |aL=>cases rx;exact SeqAt.EqAt.bool_none a
  |bl b=>cases rx;exact SeqAt.EqAt.bool_bool a b
  |int b=>obtain⟨t,rfl⟩:=rx;exact SeqAt.EqAt.bool_int a b t
  |str b=>obtain⟨t,rfl⟩:=rx;exact SeqAt.EqAt.bool_str a b t
  |_=>exact absurd (show false=true from fx) JF
 |int a =>
  obtain⟨t',rfl⟩:=ry
  cases x with
  |aL=>cases rx;exact SeqAt.EqAt.int_none a t'
  |bl b=>cases rx;exact SeqAt.EqAt.int_bool a t' b
  |int b=>obtain⟨t,rfl⟩:=rx;exact SeqAt.EqAt.int_int a t' b t
  |str b=>obtain⟨t,rfl⟩:=rx;exact SeqAt.EqAt.int_str a t' b t
  |_=>exact absurd (show false=true from fx) JF
 |str a =>
  obtain⟨t',rfl⟩:=ry
  cases x with
  |aL=>cases rx;exact SeqAt.EqAt.str_none a t'
  |bl b=>cases rx;exact SeqAt.EqAt.str_bool a t' b
  |int b=>obtain⟨t,rfl⟩:=rx;exact SeqAt.EqAt.str_int a t' b t
  |str b=>obtain⟨t,rfl⟩:=rx;exact SeqAt.EqAt.str_str a t' b t
  |_=>exact absurd (show false=true from fx) JF
 |_=>exact absurd (show false=true from fy) JF
def Cn(x:V)(u:Value):Bool:=match u with
 |.none=>CS .aL x
 |.bool b=>CS (.bl b) x
 |.int i _=>CS (.int i) x
 |.str z _=>CS (.str z) x
 |_=>false
def Am{y:V}{u:Value}(r:RelV y u)(f:d7 y=true):Cn x u=CS y x:=by
 cases y with
 |aL=>cases r;rfl
 |bl b=>cases r;rfl
 |int i=>obtain⟨t,rfl⟩:=r;rfl
 |str z=>obtain⟨t,rfl⟩:=r;rfl
 |_=>exact absurd (show false=true from f) JF
theorem oH:∀{xs:List V} {us:List Value},Vals xs us->xs.all d7=true->us.any (Cn x)=xs.any λy=>CS y x
 |_,_,.nil,_=>rfl
 |y::xs,u::us,.cons r t,f=>by
  rw[Lu,K8] at f;rw[O1,O1,Am r f.1,oH t f.2]
theorem kU{A:Around}{s:Shared}{v:Value}(rx:RelV x v)(fx:d7 x=true):∀{xs:List V} {us:List Value},Vals xs us->xs.all d7=true->∀u∈us,SeqAt.EqAt A s u v (Cn x u)
 |_,_,.nil,_=>λu hu=>by cases hu
 |y::xs,u::us,.cons r t,f=>λu' hu=>by
  rw[Lu,K8] at f;rcases Jw.mp hu with rfl|hu
  ·rw[Am r f.1];exact DZ r rx f.1 fx
  ·exact kU rx fx t f.2 u' hu
def iL(x:V)(xs:List V):Bool:=xs.any λy=>CS y x
def HZ(K:W.Frag)(neg:Bool):R2:=λx y H Q=>∃p xs,y=.ref p/\(bg K H p xs\/bq K H p xs)/\d7 x=true/\xs.all d7=true/\Q (.bl (if neg then !iL x xs else iL x xs)) H
def nv:cY X (compareOp .In) (HZ X.K false):=by
 intro pins s σ H x y v u Q I rx ry h;obtain⟨p,xs,rfl,hq,fx,fs,q⟩:=h;cases ry;rcases hq with hq|hq
 ·obtain⟨its,r,pl,hz⟩:=I.list hq;refine SeqAt.in_listAt (Cn x) pl.isList (λw hw=>kU rx fx r fs w (by simpa using hw)) ⟨.bl _,H,I,rfl,?_⟩
  rw[show its.toArray.any (Cn x)=its.any (Cn x) by simp,oH r fs]
  exact q
 ·obtain⟨its,r,pl,hz⟩:=I.tuple hq;refine SeqAt.in_tupleAt (Cn x) pl (λw hw=>kU rx fx r fs w (by simpa using hw)) ⟨.bl _,H,I,rfl,?_⟩
  rw[show its.toArray.any (Cn x)=its.any (Cn x) by simp,oH r fs]
  exact q
def aZ.or{f:Value}{r r':List V->Hp->VK->Prop}(h:aZ X f r)(h':aZ X f r'):aZ X f (λxs H Q=>r xs H Q\/r' xs H Q):=by
 intro pins s σ H xs us Q I rs q;rcases q with q|q
 ·exact h pins s σ H xs us Q I rs q
 ·exact h' pins s σ H xs us Q I rs q
def oo:aZ X (.type "list") (λxs H Q=>∃p ys,xs=[.ref p]/\(bg X.K H p ys\/bq X.K H p ys)/\∀l,H l=none->Q (.ref l) (upd H l (.lst ys))):=by
 intro pins s σ H xs us Q I r h;obtain⟨p,ys,rfl,hq,q⟩:=h;obtain⟨u,rfl,rx⟩:=vals1 r;cases rx;have fin:∀(its:List Value),Vals ys its->ys.length<=sizeLine->∀(h':Heap) (c':Nat),(∀b o',s.heap.get? b=some o'->h'.get? b=some o') ->
   h'.get? s.heap.objs.size=some {cls:=.type "list",dict:=none,data:=.seq its.toArray c',slots:=#[]}->EP X pins σ Q (.ref s.heap.objs.size) {s with heap:=h'}:=λits r' hz h' c' kp e =>
  ⟨.ref s.heap.objs.size,_,I.laid (t':=s.toks) kp (J8 _) (show b7 X.prog X.w _ h' _ (.lst ys) from⟨hz,its,c',r',e⟩),rfl,q _ (I.aP.fresh (J8 _))⟩
 rcases hq with hq|hq
 ·obtain⟨its,r',pl,hz⟩:=I.list hq;have hlen:=r'.length;obtain⟨o,ho,hc,n,hd⟩:=pl.isList;exact call_list_seq p (.inl rfl) ho hc hd (λh' c' kp e=>fin its r' hz h' c' kp e) (by simp only[JD]<;>lia)
 ·obtain⟨its,r',pl,hz⟩:=I.tuple hq;have hlen:=r'.length;obtain⟨o,ho,hc,n,hd⟩:=pl;exact call_list_seq p (.inr rfl) ho hc hd (λh' c' kp e=>fin its r' hz h' c' kp e) (by simp only[JD]<;>lia)
def fj:aZ X (.type "tuple") (λxs H Q=>∃p ys,xs=[.ref p]/\((bg X.K H p ys/\∀l,H l=none->Q (.ref l) (upd H l (.tup ys)))\/(bq X.K H p ys/\Q (.ref p) H))):=by
 intro pins s σ H xs us Q I r h;obtain⟨p,ys,rfl,h⟩:=h;obtain⟨u,rfl,rx⟩:=vals1 r;cases rx;rcases h with ⟨hq,q⟩|⟨hq,q⟩
 ·obtain⟨its,r',pl,hz⟩:=I.list hq;have hlen:=r'.length;refine call_tuple_list pl.isList (λh' kp=>?_) (by simp only[JD]<;>lia)
  have I1:Inv X pins σ H {s with heap:=h'}:=I.kept (t':=s.toks) kp
  have I2:Inv X pins σ (upd H h'.objs.size (.tup ys)) {s with heap:=h'.push {cls:=.type "tuple",data:=.seq its.toArray}}:=
   I1.laid (t':=s.toks) (λb o e=>J5 _ e) (J8 _) (show b7 X.prog X.w _ _ _ (.tup ys) from⟨hz,its,r',ee.new _ _⟩)
  exact⟨.ref h'.objs.size,_,I2,rfl,q _ (I1.aP.fresh (J8 _))⟩
 ·obtain⟨its,r',pl,hz⟩:=I.tuple hq;exact call_tuple_same pl ⟨.ref p,H,I,rfl,q⟩
def FL(K:W.Frag)(T:String)(x:V)(H:Hp):Prop:=match x with
 |.str _=>T="str"
 |.int _=>T="int"
 |.ref p=>(T="list"/\∃xs,bg K H p xs)\/(T="tuple"/\∃o,K.lookup p=some o/\o.cls=.type "tuple"/\o.dict=none) \/
   (T="dict"/\((∃kvs,H p=some (.dK kvs))\/∃kvs,H p=some (.dT kvs)))\/(T="set"/\∃S n,H p=some (.set S n))
 |_=>False
def zd{s:Shared}{T:String}{v:Value}(I:Inv X pins σ H s)(r:RelV x v)(ty:FL X.K T x H):
  s.TypeIs v T/\∀a,v=.ref a->∃ob,s.heap.get? a=some ob/\ob.dict=none:=by
 cases x with
 |str z =>
  obtain⟨t,rfl⟩:=r
  cases (show T="str" from ty)
  exact⟨typeIs_str s z t,λ_ e=>nomatch e⟩
 |int i =>
  obtain⟨t,rfl⟩:=r
  cases (show T="int" from ty)
  exact⟨N0 s i t,λ_ e=>nomatch e⟩
 |ref p =>
  cases r;rcases ty with ⟨rfl,xs,hq⟩|⟨rfl,o,hk,hc,hd⟩|⟨rfl,hk⟩|⟨rfl,S,n,hk⟩
  ·obtain⟨its,_,pl,_⟩:=I.list hq;refine⟨pl.isList.typeIs,λa e=>?_⟩;cases e;obtain⟨o,n,e,c,hd,_⟩:=pl;exact⟨o,e,hd⟩
  ·refine⟨⟨o,I.fm p o hk,hc⟩,λa e=>?_⟩;cases e;exact⟨o,I.fm _ o hk,hd⟩
  ·have z:∃o,s.heap.get? p=some o/\o.ExactDict:=by
    rcases hk with ⟨kvs,hk⟩|⟨kvs,hk⟩
    ·obtain⟨_,_,_,_,o,_,_,e,ex,_⟩:=I.aP p _ hk;exact⟨o,e,ex⟩
    ·obtain⟨_,_,_,_,o,_,_,e,ex,_⟩:=I.aP p _ hk;exact⟨o,e,ex⟩
   obtain⟨o,e,ex⟩:=z;refine⟨⟨o,e,ex.1⟩,λa e2=>?_⟩;cases e2;exact⟨o,e,ex.2.1⟩
  ·obtain⟨o,_,_,_,e,ex,_⟩:=I.aP p _ hk;refine⟨⟨o,e,ex.1⟩,λa e2=>?_⟩;cases e2;exact⟨o,e,ex.2.1⟩
 |_=>exact False.elim ty
def yC(K:W.Frag)(T:String)(r:V->List V->Hp->VK->Prop)(to:TE):TE:=λσ H Q=>to σ H λx H1=>FL K T x H1/\r x [] H1 Q
def EI(K:W.Frag)(T:String)(r:V->List V->Hp->VK->Prop)(to:TE)(t:TA):TE:=λσ H Q=>to σ H λx H1=>FL K T x H1/\t σ H1 λxs H2=>r x xs H2 Q
variable {o e:Expr} {es:List Expr} {to:TE} {t:TA} {name:Str} {apos cpos:Pos} {T id:String} {r:V->List V->Hp->VK->Prop}
def EK(pa:PlainAttrs T)(slot:Slot T name id)(hty:typeOf (.builtin id)=pure (.type "method_descriptor"))(hm:wJ X id r)(ho:PE X o to)
  (hbase:autoParam (attributeBase o name X.env (eval o X.env)=eval o X.env) ℜ0) (hline:autoParam ((apos.endLine == cpos.line)=true) ℜ0):PE X (.Call (.Attribute o name apos) [] [] cpos) (yC X.K T r to):=by
 intro pins s σ H Q I h;refine wpAny_Call_method0_late hbase hline (bN (ho pins s σ H _ I h) λv s1 hq53=>?_);obtain⟨x,H1,I1,r1,ty,q1⟩:=hq53;obtain⟨h1,h2⟩:=zd I1 r1 ty;exact⟨T,id,pa,slot,hty,h1,h2,NY rfl (PySem.evalArgs_none (hm pins s1 σ H1 x [] v [] Q I1 r1 .nil q1))⟩
def FW(pa:PlainAttrs T)(slot:Slot T name id)(hty:typeOf (.builtin id)=pure (.type "method_descriptor"))(hm:wJ X id r)(ho:PE X o to)(ha:PA X (e::es) t)
  (hbase:autoParam (attributeBase o name X.env (eval o X.env)=eval o X.env) ℜ0)
  (hfew:autoParam (((backTo cpos (starEach (e::es) X.env)).all (λx=>!x.1) && (backToKw cpos (keywordEach [] X.env)).all (λx=>x.1.isSome)
   && decide ((e::es).length+([]:List Keyword).length+(if ([]:List Keyword).isEmpty then 0 else 1)<30))=true) ℜ0)
  (hline:autoParam ((apos.endLine == cpos.line)=true) ℜ0) (hs:autoParam (starEach (e::es) X.env=(false,eval e X.env)::starEach es X.env) ℜ0) (hplain:autoParam ((backTo cpos (starEach es X.env)).any (·.1)=false) ℜ0) :
  PE X (.Call (.Attribute o name apos) (e::es) [] cpos) (EI X.K T r to t):=by
 intro pins s σ H Q I h;refine wpAny_Call_method_late hbase hfew hline rfl (bN (ho pins s σ H _ I h) λv s1 hq54=>?_);obtain⟨x,H1,I1,r1,ty,q1⟩:=hq54;obtain⟨h1,h2⟩:=zd I1 r1 ty;refine⟨T,id,pa,slot,hty,h1,h2,?_⟩;have hA:=ha cpos pins s1 σ H1 _ I1 q1;rw[hs] at hA ⊢;refine NY (by show (false || (backTo cpos (starEach es X.env)).any (·.1))=false;rw[hplain]<;>rfl) (Calls.evalArgs_plain ?_)
 exact bN hA λus s2 ⟨vs,H2,I2,r2,q2⟩=>hm pins s2 σ H2 x vs v us Q I2 r1 r2 q2
/- xs.append(e),list.index on a module's tuple .. are wJ facts of 06m -/
end
def Gp(X:Cx)(id:String)(r:V->List V->Hp->VK->Prop):Prop:=
 ∀(pins:List (Addr×Obj)) (s:Shared) (σ:St) (H:Hp) (x:V) (xs:List V) (v:Value) (us:List Value) (Q:VK),Inv X pins σ H s->RelV x v->Vals xs us->r x xs H Q ->
  wpAny (model X.prog X.w) X.A (call (.builtin id) (v::us)) (EP X pins σ Q) X.xe s
theorem Vals.one:∀{x:V} {us:List Value},Vals [x] us->∃u,us=[u]/\RelV x u
 |_,_,.cons r .nil=>⟨_,rfl,r⟩
theorem Vals.eraseIdx:∀{xs:List V} {us:List Value} (i:Nat),Vals xs us->Vals (xs.eraseIdx i) (us.eraseIdx i)
 |_,_,_,.nil=>.nil
 |_,_,0,.cons _ t=>t
 |_,_,i+1,.cons r t=>.cons r (Vals.eraseIdx i t)
theorem Vals.rep(h:Vals xs us):∀k:Nat,Vals (List.replicate k xs).flatten (List.replicate k us).flatten
 |0=>.nil
 |k+1=>by
  rw[Kk,Kk,Lr,Lr];exact Vals.append h (Vals.rep h k)
theorem mX:∀(l:List α) (i:Nat),(l.eraseIdx i).length<=l.length
 |[],_=>J8 _
 |_::_,0=>KQ _
 |_::r,i+1=>Nat.succ_le_succ (mX r i)
theorem foldl_rep(its:List Value):∀(k:Nat) (acc:List Value),
  List.foldl (λx1 x2=>x1++x2) acc.toArray (List.replicate k its.toArray)=(acc++(List.replicate k its).flatten).toArray
 |0,acc=>by simp
 |k+1,acc=>by
  have e:acc.toArray++its.toArray=(acc++its).toArray:=by simp
  have e2:(acc++its)++(List.replicate k its).flatten=acc++(List.replicate (k+1) its).flatten:=by
   rw[Kk,Lr,JQ]
  rw[<- e2,<- foldl_rep its k (acc++its),<- e,Kk,List.foldl_cons]
section
variable {X:Cx} {pins:List (Addr×Obj)} {σ:St} {H:Hp} {s:Shared} {l b:Addr} {xs ys zs:List V}
def Inv.Fe{n:Nat}{f:Array Value->Array Value}{t':Nat}(I:Inv X pins σ H s)(hH:H l=some (.lst xs))
  (e:s.heap.get? l=some {cls:=.type "list",data:=.seq its.toArray n}) (hf:f its.toArray=its'.toArray) (hv:Vals ys its') (hz:ys.length<=sizeLine) :
  Inv X pins σ (upd H l (.lst ys)) {s with heap:=s.heap.update l (Obj.mapSeq f),toks:=t'}:=by
 have q:=PySem.IsL.update e f;rw[hf] at q;refine I.write (x:=l) (e:=l) (by rw[hH];exact trivial) (.inl rfl) (λb' u hb hu=>(LZ s.heap (Obj.mapSeq f) (KA hb)).trans hu) ⟨_,q⟩ ?_
 exact⟨hz,its',_,hv,q⟩
def Inv.FA{t':Nat}(I:Inv X pins σ H s)(hv:Vals ys its)(hz:ys.length<=sizeLine):
  Inv X pins σ (upd H s.heap.objs.size (.lst ys)) {s with heap:=s.heap.push {cls:=.type "list",data:=.seq its.toArray},toks:=t'}:=
 I.laid (λ_ _ q=>J5 _ q) (J8 _) ⟨hz,its,0,hv,JK _ rfl⟩
def Inv.fresh(I:Inv X pins σ H s):H s.heap.objs.size=none:=I.aP.fresh (J8 _)
def Inv.qV(I:Inv X pins σ H s)(hH:H l=some (.lst xs)):xs.length<=sizeLine/\∃(its:List Value) (n:Nat),Vals xs its/\xs.length=its.length/\s.heap.get? l=some {cls:=.type "list",data:=.seq its.toArray n}:=by
 obtain⟨z,its,n,r,e⟩:=I.aP l _ hH;exact⟨z,its,n,r,r.length,e⟩
def xo{n:Nat}(h:n<=sizeLine):Builtin.List.listTooLong n=false:=by
 unfold Builtin.List.listTooLong;exact JV (by lia)
end
section
variable {X:Cx}
def uv:V->List V->Hp->VK->Prop:=λx vs H Q=>∃l xs y,x=.ref l/\vs=[y]/\H l=some (.lst xs)/\xs.length<sizeLine/\Q .aL (upd H l (.lst (xs++[y])))
def mW:Gp X "list.append" uv:=by
 intro pins s σ H x vs v us Q I rx rv h;obtain⟨l,xs,y,rfl,rfl,hH,hz,q⟩:=h;cases rx;obtain⟨u,rfl,ru⟩:=rv.one;obtain⟨z,its,n,r,hl,e⟩:=I.qV hH;refine LJ F.slot_list_append ⟨_,e,rfl⟩ F.entry_list_append (F.args_list_append_2 _ _) (PySem.list_append l its.toArray n u (by rw[JD];lia)) ⟨e,?_⟩
 refine⟨.aL,_,I.Fe (its':=its++[u]) hH e (by simp) (r.append (.cons ru .nil)) ?_,rfl,q⟩
 rw[Jv,LD];lia
def Ee:V->List V->Hp->VK->Prop:=λx vs H Q=>∃l xs i k y,x=.ref l/\vs=[.int i]/\H l=some (.lst xs)/\-(2^63)<=i/\i<2^63/\seqIndex? i xs.length=some k/\xs[k]?=some y/\Q y (upd H l (.lst (xs.eraseIdx k)))
def pj:Gp X "list.pop" Ee:=by
 intro pins s σ H x vs v us Q I rx rv h;obtain⟨l,xs,i,k,y,rfl,rfl,hH,h1,h2,hk,hy,q⟩:=h;cases rx;obtain⟨u,rfl,ru⟩:=rv.one;obtain⟨t,rfl⟩:=ru;obtain⟨z,its,n,r,hl,e⟩:=I.qV hH;obtain⟨w,hw,rw'⟩:=r.get hy;refine LJ F.slot_list_pop ⟨_,e,rfl⟩ F.entry_list_pop (F.args_list_pop_2 _ _)
  (MeetsSeq.list_pop_at l its.toArray n i t k w (Om h1 h2) (by rw[JD,<- hl];exact hk) (by rw[<- J_];exact hw) (by rw[JD];lia)) ⟨e,?_⟩
 refine⟨y,_,I.Fe (its':=its.eraseIdx k) hH e ?_ (r.eraseIdx k) ?_,rw',q⟩
 ·show its.toArray.eraseIdxIfInBounds k=(its.eraseIdx k).toArray;rw[List.eraseIdxIfInBounds_toArray]
 ·have:=mX xs k;lia
def Ht:R2:=λx y H Q=>∃l b xs zs,x=.ref l/\y=.ref b/\H l=some (.lst xs)/\H b=some (.lst zs)/\xs.length+zs.length<=sizeLine/\∀p,H p=none->Q (.ref p) (upd H p (.lst (xs++zs)))
def yt:cY X (binaryOp .Add) Ht:=by
 intro pins s σ H x y v u Q I rx ry h;obtain⟨l,b,xs,zs,rfl,rfl,hH,hB,hz,q⟩:=h;cases rx;cases ry;obtain⟨z,its,n,r,hl,e⟩:=I.qV hH;obtain⟨z2,its2,n2,r2,hl2,e2⟩:=I.qV hB;refine PySem.P.add_list e e2 ?_ (by rw[JD,JD];lia)
 have ea:its.toArray++its2.toArray=(its++its2).toArray:=by simp
 rw[ea];exact⟨.ref _,_,I.FA (t':=s.toks) (r.append r2) (by rw[Jv];lia),rfl,q _ I.fresh⟩
def GB:R2:=λx y H Q=>∃l k xs,x=.ref l/\y=.int k/\H l=some (.lst xs)/\-(2^63)<=k/\k<2^63/\xs.length*k.toNat<=sizeLine /\
 ∀p,H p=none->Q (.ref p) (upd H p (.lst (List.replicate k.toNat xs).flatten))
def len_rep(xs:List α)(k:Nat):(List.replicate k xs).flatten.length=k*xs.length:=by
 induction k with
 |zero=>simp
 |succ k ih=>rw[Kk,Lr,Jv,ih,My,Nat.add_comm]
def D_:cY X (binaryOp .Mult) GB:=by
 intro pins s σ H x y v u Q I rx ry h;obtain⟨l,k,xs,rfl,rfl,hH,h1,h2,hz,q⟩:=h;cases rx;obtain⟨t,rfl⟩:=ry;obtain⟨z,its,n,r,hl,e⟩:=I.qV hH;have hlen:its.toArray.size*k.toNat<=sizeLine:=by rw[JD,<- hl];exact hz
 have hcap:¬ its.toArray.size*k.toNat >(2^63-1) / 8:=by
  have:(sizeLine:Nat)<=(2^63-1) / 8:=by decide
  lia
 have hfit:¬ (!Builtin.List.listFitsIndex k)=true:=by
  rw[Om h1 h2];exact JF
 have hlong:¬ Builtin.List.listTooLong (its.toArray.size*k.toNat)=true:=by
  rw[xo hlen];exact JF
 have hnew:List.foldl (λx1 x2=>x1++x2) #[] (List.replicate (if its.toArray.isEmpty=true then 0 else k.toNat) its.toArray)=(List.replicate k.toNat its).flatten.toArray:=by
  have f0:∀m:Nat,List.foldl (λx1 x2=>x1++x2) #[] (List.replicate m its.toArray)=(List.replicate m its).flatten.toArray:=λm=>by
   have:=foldl_rep its m [];rw[Le] at this;exact this
  rw[f0]
  cases its with
  |nil=>simp
  |cons a r'=>rw[Jy (by simp)]
 refine N1 (T:="list") (U:="int") (by decide) ⟨_,e,rfl⟩ (λs'=>N0 s' k t) noFill_list_mul F.fills_int_mul F.slot_int_rmul repeat_list F.slot_int_index.lookup
  (LJ F.slot_int_rmul (N0 s k t) F.entry_int_rmul (F.args_int_rmul_2 _ _) (int___rmul___int_list k t l its.toArray n)
   ⟨e,rfl,⟨_,e,rfl⟩,LJ F.slot_list_mul ⟨_,e,rfl⟩ F.entry_list_mul (F.args_list_mul_2 _ _) (AutoListH.list___mul___list_int_3 l its.toArray n k t hfit hcap hlong) ⟨e,?_⟩⟩)
 rw[hnew];exact⟨.ref _,_,I.FA (t':=s.toks) (r.rep k.toNat) (by rw[len_rep,Nat.mul_comm];exact hz),rfl,q _ I.fresh⟩
end
section
variable {κ:Type} [DecidableEq κ]
noncomputable def f_(kvs:List (κ×V))(k:κ):Option V:=(kvs.find? λkv=>decide (kv.1=k)).map (·.2)
noncomputable def putK(kvs:List (κ×V))(k:κ)(v:V):List (κ×V):=
 if (kvs.any λkv=>decide (kv.1=k))=true then kvs.map (λkv=>if kv.1=k then (kv.1,v) else kv) else kvs++[(k,v)]
def cP{p:κ×V}{r:List (κ×V)}{k:κ}(e:p.1=k):f_ (p::r) k=some p.2:=by simp[f_,NO,e]
def cU{p:κ×V}{r:List (κ×V)}{k:κ}(e:¬ p.1=k):f_ (p::r) k=f_ r k:=by simp[f_,NO,e]
theorem iG(k:κ):∀kvs:List (κ×V),(kvs.any λkv=>decide (kv.1=k))=(f_ kvs k).isSome
 |[]=>rfl
 |p::r=>by
  rw[O1];by_cases e:p.1=k
  ·simp only[cP e,Kl e,Bool.true_or,Option.isSome_some]
  ·rw[cU e,JV e,Bool.false_or];exact iG k r
theorem pI(k j:κ)(y:V):∀kvs:List (κ×V),f_ (kvs.map λkv=>if kv.1=k then (kv.1,y) else kv) j=(f_ kvs j).map λx=>if j=k then y else x
 |[]=>rfl
 |p::r=>by
  have ih:=pI k j y r;rw[Ke];by_cases h:p.1=k
  ·rw[JA h];by_cases e:p.1=j
   ·rw[cP (p:=(p.1,y)) e,cP e,MQ,JA (e.symm.trans h)]
   ·rw[cU (p:=(p.1,y)) e,cU e,ih]
  ·rw[Jy h];by_cases e:p.1=j
   ·rw[cP (p:=p) e,cP e,MQ,Jy (λz=>h (e.trans z))]
   ·rw[cU (p:=p) e,cU e,ih]
theorem mR(k j:κ)(y:V):∀kvs:List (κ×V),f_ kvs k=none->f_ (kvs++[(k,y)]) j=if j=k then some y else f_ kvs j
 |[],_=>by
  by_cases e:k=j
  ·rw[JA e.symm];exact cP (p:=(k,y)) e
  ·rw[Jy (λz=>e z.symm)];exact cU (p:=(k,y)) e
 |p::r,hn=>by
  rw[KN];have hk:¬ p.1=k:=λz=>by rw[cP z] at hn;cases hn
  rw[cU hk] at hn;have ih:=mR k j y r hn;by_cases e:p.1=j
  ·rw[cP e,cP e,Jy (λz=>hk (e.trans z))]
  ·rw[cU e,cU e,ih]
def qh(kvs:List (κ×V))(k j:κ)(y:V):f_ (putK kvs k y) j=if j=k then some y else f_ kvs j:=by
 unfold putK;by_cases a:(kvs.any λkv=>decide (kv.1=k))=true
 ·rw[JA a,pI];rw[iG] at a;by_cases e:j=k
  ·obtain⟨x,hx⟩:=Mx.mp a;rw[JA e,e,hx,MQ,JA rfl]
  ·rw[Jy e]
   cases f_ kvs j with
   |none=>rfl
   |some x=>rw[MQ,Jy e]
 ·rw[Jy a];refine mR k j y kvs ?_;rw[iG] at a
  cases q:f_ kvs k with
  |none=>rfl
  |some x=>rw[q] at a;exact (a rfl).elim
def yR{kvs:List (κ×V)}{k:κ}(v:V)(h:f_ kvs k=none):putK kvs k v=kvs++[(k,v)]:=by
 unfold putK;rw[iG,h];exact Jy (by decide)
end
def EG(i:Expr):Prop:=∀ov iv,subscripted i false ov iv=operate [ov,iv] (getItem ov iv)
def Bm{prog:Program}{w:World}{A:Around}{E:Value->Shared->Prop}{s:Shared}{env:Env}{value slice:Expr}{pos:Pos}{T id:String}{Q:Value->Shared->Prop}
  (hl:typeLookup (.type T) "__getitem__"=pure (some (.builtin id))) (hs:EG slice)
  (h:wpAny (model prog w) A (eval value env) (λo s₁=>wpAny (model prog w) A (eval slice env) (λi s₂=>s₂.TypeIs o T/\wpAny (model prog w) A (getItem o i) Q E s₂) E s₁) E s) :
  wpAny (model prog w) A (eval (.Subscript value slice pos) env) Q E s:=by
 refine Subscript_ (Kt h (λo s₁ h₁=>Kt h₁ (λi s₂ h₂=>?_) λ_ _ x=>x) λ_ _ x=>x);obtain⟨hT,h₂⟩:=h₂;unfold subscriptTail;refine Js ?_;rw[getitemInPython_of_ne hT.not_modules];refine Js (wpAny_specialOf hT hl ?_);have fin:wpAny (model prog w) A (subscripted slice false o i) (λr s₃=>wpAny (model prog w) A (letTemporaryGo value o r >>= λ_=>pure r) Q E s₃) E s₂:=by
  rw[hs o i];exact wpAny_operating (Kt h₂ (λr s₃ h₃=>Js (wpAny_letTemporaryGo (J9 h₃))) λ_ _ x=>x)
 first
  |exact J9 (Js fin)
  |exact Js (J9 (Js fin))
  |exact Js fin
end L2
namespace Att
open PySem PySem.W PySem.Calls PyProof.Rows
def jA{P:Params}{h:Heap}:∀(ns:List Int) (vs:List Value),WellAll P h vs (ns.map WData.int)->IntsAre vs ns:=by
 intro ns
 induction ns with
 |nil =>
  intro vs w;rw[List.map_nil] at w;cases w;exact .nil
 |cons n ns ih =>
  intro vs w;rw[List.map_cons] at w
  cases w with
  |cons a b =>
   cases a;exact .cons _ _ (ih _ b)
def vW{l:OpenLaw}{n:Nat}(hn:l.most=some n){P:Params}{h:Heap}{args:List WData}{vals:List Value}
  (hpre:l.row.toRowW.claim.pre args=true) (hwl:WellAll P h vals args) :
  ∃a vs ns,vals=[Value.ref a]/\args=[WData.list (ns.map WData.int)]/\h.get? a=some {cls:=.type "list",data:=.seq vs.toArray}/\IntsAre vs ns/\ns.length<=n:=by
 have hsh:WShape.hasAll [] args [.list .int]=true:=(pre_splitW hpre).1;have hc:l.pre.holds [] {args:=args}=true:=(pre_splitW hpre).2;obtain⟨d,r,rfl,h1,h2⟩:=hasAllW_cons hsh;obtain rfl:=hasAllW_nil h2;obtain⟨xs,rfl,h3⟩:=hasW_list h1;obtain⟨ns,rfl⟩:=items_int h3;have hlen:ns.length<=n:=by
  unfold OpenLaw.pre at hc;have h4:(WTm.not (.lt (.lit (.int (n:Int))) (.len (.arg 0)))).holds [] {args:=[.list (ns.map .int)]}=true:=by
   have h4:=(holds_andW hc).1;rw[hn] at h4;exact h4
  have h5:=condW_of h4 (w_not (w_lt w_lit (w_len_list (w_arg rfl))));rw[List.length_map] at h5;refine Nat.le_of_not_lt λq=>?_;have q':(n:Int)<((ns.length:Nat):Int):=by lia
  first
   | (rw[decide_eq_true q'] at h5;exact absurd h5 (by decide))
   | (simp at h5;lia)
 cases hwl with
 |cons w1 w2 =>
  cases w2
  cases w1 with
  |list ho hall=>exact⟨_,_,ns,rfl,rfl,ho,jA ns _ hall,hlen⟩
def wH(l:OpenLaw)(args:List WData):l.row.toRowW.claim.post args (.bool true) args=true:=
 postW_of (r:=l.row.toRowW) (X:=(true == true))
  (show WShape.has [] (.bool true) .bool=true by first|rfl|decide|simp[WShape.has,WShape.arms,WShape.armsAll])
  (show (WTm.eq .res (.lit (.bool true))).value [] {args:=args,res:=some (.bool true),after:=args}=some (.bool (true == true)) from w_eq_bool (w_res rfl) w_lit) rfl
def qo{l:OpenLaw}{n:Nat}{q:Program}{loose:List Str}{XP:(Str->Option Value)->Heap->Prop}{YP:World->Heap->Prop}{d:DefRec}
  (hn:l.most=some n) (hdf:d.params.defaults=[])
  (call:∀(w:World) (s₀ s₁:Shared) (mg mb:Str->Option Value) (fa:Addr) (o:Obj) (pm cd doc:Value) (a:Addr) (vs:List Value) (ns:List Int),
   Ground q loose [] XP w s₀ mg mb s₁.heap->YP w s₁.heap ->
   s₁.heap.get? fa=some o->o.data=.func (docDef d.name d.params d.body d.scope pm cd doc)->s₁.heap.CodeRec cd d.name->mg d.name=some (.ref fa) ->
   s₁.heap.get? a=some {cls:=.type "list",data:=.seq vs.toArray}->IntsAre vs ns->ns.length<=n->s₁.gens=#[] ->
   codeAny (model l.prog w) callerA (.call (.ref fa) ⟨[.ref a],[]⟩) (λr s'=>r=.ok (.ret (.bool true))/\OldK s₁.heap s'.heap/\s'.os=s₁.os/\AllBare s'.gens) s₁) :
  WalkO q loose XP YP l.row.toRowW d [] (λf vs=>PySem.call f vs):=by
 intro w s₀ s₁ mg mb G Y fa o pm cd doc dV kV ho hd gW hD hmg hg args vals as hpre hlay hrd hwl hlo;obtain rfl:dV=.none:=Dflts.none hD hdf;obtain rfl:kV=.none:=Dflts.noKw hD;obtain⟨a,vs,ns,rfl,rfl,hobj,hints,hlen⟩:=vW hn hpre hwl;refine enter_call (codeAny_mono (call w s₀ s₁ mg mb fa o pm cd doc a vs ns G Y ho (fd_plain hd) gW hmg hobj hints hlen hg) λr s' hq=>?_);obtain⟨rfl,h2,h3,h4⟩:=hq;exact⟨.inl ⟨.bool true,.bool true,[],rfl,λ_=>rfl,.bool true,wH l _,λ_=>⟨List.Pairwise.nil,λ_ hm=>(nomatch hm)⟩⟩,h2,h3,h4⟩
end Att
namespace L2
open PySem PySem.Spec PyProof.Rows
variable{P prog q:Program}{K:W.Frag}{N ON loose own:List Str}{mb mg:Str->Option Value}{base h h':Heap}{b elt iter tg:Expr}{o:HO}{C a e f it p t:Addr}{w:World}{CX:nL}{i j k:Nat}{fd:FuncData}{qual x:Str}{sp:Sp}{ns:List Int}{To d:Option Addr}{X:Cx}{st:Stmt}{osc scope:Scope}{env:Env}{cells:List (Str×Addr)}{α:Type}{M:Model}{E:Value->Shared->Prop}{es ifs:List Expr}{g:TG}{tc:TT}{te:TE}{pins:List (Addr×Obj)}{σ:St}{H H':Hp}{Q:Unit->Shared->Prop}{RR:Value->Addr->Result->Shared->Prop}{cpos:Pos}{r:List V->Hp->VK->Prop}{xs:List V}{items:Array Value}{ex fp:List Addr}{D:Ends}{cls:Value}
theorem mY:∀{vs:List Value} {ns:List Int},IntsAre vs ns->Vals (ns.map V.int) vs
 |_,_,.nil=>.nil
 |_,_,.cons n t h=>.cons ⟨t,rfl⟩ (mY h)
structure iD (q:Program) (K:W.Frag):Prop where
 nt:W.noTabs K=true
 nd:((bU K).map (·.2.1)).Nodup
 fd:∀x∈eE,W.tabIn K x=none\/((recsOf q).find? (λe=>e.name == x)).isSome=true
def iD.at{mean:ExcName->Option Value}(L:iD q K)(T:Top q loose mean mg mb h)(X:K.In h):∀t∈bU K,W.CodeHd h t.1 t.2.1/\h.get? t.2.1=some (W.tabObj #[]):=λt ht=>by
 unfold bU at ht;obtain⟨x,hx,e⟩:=Mw.mp ht;obtain⟨p,e1,e2⟩:=JS.mp e;obtain⟨c,Pt⟩:=p;subst e2;rcases L.fd x hx with z|z
 ·rw[z] at e1;cases e1
 ·obtain⟨d,hd⟩:=Mx.mp z;exact W.tab_of T X hd e1
noncomputable def oG:List (Addr×Addr×Str)->Addr->Option HO
 |[],_=>none
 |t::r,b=>if b=t.2.1 then some (.wW #[.str t.2.2 0]) else oG r b
theorem gN{b:Addr}:∀{l:List (Addr×Addr×Str)},oG l b=some o->∃t∈l,b=t.2.1/\o=.wW #[.str t.2.2 0]
 |t::r,e=>by
  unfold oG at e;by_cases z:b=t.2.1
  ·rw[JA z] at e;cases e;exact⟨t,.head _,z,rfl⟩
  ·rw[Jy z] at e;obtain⟨u,hu,q⟩:=gN e;exact⟨u,.tail _ hu,q⟩
theorem qE{t:Addr×Addr×Str}:∀{l:List (Addr×Addr×Str)},(l.map (·.2.1)).Nodup->t∈l->oG l t.2.1=some (.wW #[.str t.2.2 0])
 |u::r,nd,m=>by
  obtain⟨n1,n2⟩:=Ky.mp nd;unfold oG;rcases Jw.mp m with rfl|m
  ·rw[JA rfl]
  ·rw[Jy λz=>n1 (Kg.mpr ⟨t,m,z⟩)];exact qE n2 m
def yz{fa:Addr}{s₁:Shared}{vs:List Value}
  (KX:K.In s₁.heap) (hns:s₁.heap.Ns mainGlobals mg) (hb:s₁.heap.Ns builtinsNs mb) (hbb:∀x:Str,x≠"__name__"->mb x=bootBuiltins x) (hlim:s₁.heap.NoLimit) (hbm:Fj mg s₁.heap)
  (hT:∀t∈bU K,W.CodeHd s₁.heap t.1 t.2.1/\s₁.heap.get? t.2.1=some (W.tabObj #[])) (L:iD q K) (hg:s₁.gens=#[])
  (ha:s₁.heap.get? a=some {cls:=.type "list",data:=.seq vs.toArray}) (hi:IntsAre vs ns) (hl:ns.length<=sizeLine) (hr:bz k callerA)
  (F:∀base:Heap,K.In base->base.Ns mainGlobals mg->bY P w K mg base CX k fa fd [x] sp) (hbind:∀(s:Shared) (u:Value),BindsTo s fd ⟨[u],[]⟩ [(x,u)])
  (mq:∀H:Hp,True->bg K H a (ns.map V.int)->sp [.ref a] H (λv _=>v=.bl true) λ_ _ _=>False)
  (hCX:∀H e s',CX [] H s₁ (λ_ _ _=>False) e s'->False) :
  codeAny (model P w) callerA (.call (.ref fa) ⟨[.ref a],[]⟩) (λr s'=>r=.ok (.ret (.bool true))/\OldK s₁.heap s'.heap/\s'.os=s₁.os/\AllBare s'.gens) s₁:=by
 have rv:=mY hi;have lenV:=hi.length;have naT:∀t∈bU K,t.2.1≠a:=λt ht z=>by
  have e:=(hT t ht).2;rw[z,ha] at e;cases e
 let oS:Obj:={cls:=.type "list",data:=.seq vs.toArray}
 have core:∀S:Option HO,(S=none\/S=some (.ik oS (.lst (ns.map V.int))))->(S≠none->K.lookup a=none)->bg K (λb=>if b=a then S else oG (bU K) b) a (ns.map V.int) ->
   codeAny (model P w) callerA (.call (.ref fa) ⟨[.ref a],[]⟩) (λr s'=>r=.ok (.ret (.bool true))/\OldK s₁.heap s'.heap/\s'.os=s₁.os/\AllBare s'.gens) s₁:=by
  intro S hS hK hSq;generalize hH:(λb=>if b=a then S else oG (bU K) b)=H at hSq
  have hA:H a=S:=by rw[<- hH];exact JA rfl
  have hB:∀b,b≠a->H b=oG (bU K) b:=λb z=>by rw[<- hH];exact Jy z
  have free:∀{b:Addr} {o:Obj},s₁.heap.get? b=some o->o≠W.tabObj #[]->(b=a->S=none)->H b=none:=λ{b o} e hn hz=>by
   by_cases z:b=a
   ·rw[z,hA];exact hz z
   ·rw[hB b z]
    cases q:oG (bU K) b with
    |none=>rfl
    |some u =>
     obtain⟨t,ht,e1,_⟩:=gN q;have e2:=(hT t ht).2;rw[<- e1,e] at e2;exact absurd (Option.some.inj e2) hn
  have nsK:∀{b:Addr} {m:Str->Option Value},s₁.heap.Ns b m->(mw s₁.heap H).Ns b m:=λ{b m} ⟨o,es,ep,e,d,r⟩=>⟨o,es,ep,iq e (free e (λz=>by rw[z] at d;cases d) λz=>by rw[z,ha] at e;cases e;cases d),d,r⟩
  have hKb:K.In (mw s₁.heap H):=λb o e=>iq (KX b o e) (free (KX b o e) (λz=>by
    have h2:=List.all_eq_true.mp L.nt (b,o) (W.mem_of_lookupK e);subst z;exact absurd (show false=true from h2) JF) λz=>by
    cases q:S with
    |none=>rfl
    |some u=>rw[z,hK (by rw[q];simp)] at e;cases e)
  have gW:∀t∈bU K,W.CodeHd (mw s₁.heap H) t.1 t.2.1:=λt ht=>by
   obtain⟨o,us,fl,tf,fg,tg,inF,tx,tt,e1,e2,r⟩:=(hT t ht).1;exact⟨o,us,fl,tf,fg,tg,inF,tx,tt,iq e1 (free e1 (λz=>by rw[z] at e2;cases e2) λz=>by rw[z,ha] at e1;cases e1;exact absurd (Value.type.inj e2) (by decide)),e2,r⟩
  have hbm':Fj mg (mw s₁.heap H):=by
   obtain⟨bm,ob,b1,b2,b3,b4,b5⟩:=hbm;exact⟨bm,ob,b1,b2,iq b3 (free b3 (λz=>by rw[z] at b4;cases b4) λz=>by rw[z,ha] at b3;cases b3;exact absurd (Value.type.inj b4) (by decide)),b4,b5⟩
  have aP:gQ P w H s₁.heap:=λb u e=>by
   by_cases z:b=a
   ·rw[z,hA] at e;rcases hS with h0|h0
    ·rw[h0] at e;cases e
    ·rw[h0] at e;cases e;subst z;exact⟨ha,by rw[Jt];exact hl,vs,_,rv,ha⟩
   ·rw[hB b z] at e;obtain⟨t,ht,e1,e2⟩:=gN e;subst e2;exact⟨#[],by rw[e1];exact (hT t ht).2,trivial,λpos cv c=>by cases (show (none:Option Value)=some cv from c)⟩
  have hM:Mod K mg (mw s₁.heap H):=⟨hKb,nsK hns,⟨mb,nsK hb,hbb⟩,let ⟨mc,h1,h2⟩:=hlim;⟨mc,nsK h1,h2⟩,gW,hbm'⟩
  have e0:rC P w K mg (mw s₁.heap H) callerA [] s₁ H:=⟨rfl,hM,λb o e=>Bl e,N8 (uY _ _),trivial,λb hb=>absurd (show b∈([]:List Addr) from hb) (by simp),aP,.of_eq hg,λt ht=>⟨#[],by
   rw[hB _ (naT t ht),qE L.nd ht,Nf]⟩⟩
  refine N9 ((F _ hKb (nsK hns)).run callerA [] s₁ H ⟨[.ref a],[]⟩ [.ref a] [.ref a] _ _ hr e0 (hbind s₁ (.ref a)) (.cons rfl .nil) (mq H trivial hSq)) λr s' h=>?_
  cases r with
  |error e=>exact (hCX H e s' h).elim
  |ok fl =>
   cases fl with
   |next=>exact False.elim h
   |brk=>exact False.elim h
   |cont=>exact False.elim h
   |ret u =>
    obtain⟨v,H',os,bare,un,hok',r',qv⟩:=h;have q':v=.bl true:=qv;subst q';obtain rfl:u=Value.bool true:=r';have each:∀b o,s₁.heap.get? b=some o->s'.heap.get? b=some o\/∃c,W.CodeHd s₁.heap c b/\o=W.tabObj #[]/\∃ps,s'.heap.get? b=some (W.tabObj ps):=λb o e=>by
     cases qb:H b with
     |none=>exact .inl (un.keep b o e qb (by intro z;exact absurd (show b∈([]:List Addr) from z) (by simp)) (by simp))
     |some u =>
      by_cases z:b=a
      ·rw[z,hA] at qb;rcases hS with h0|h0
       ·rw[h0] at qb;cases qb
       ·have z2:=un.jB a oS _ (by rw[hA,h0])
        obtain⟨e2,_⟩:=hok' a _ z2;rw[z,ha] at e;cases e;exact .inl (by rw[z];exact e2)
      ·have qt:=qb;rw[hB b z] at qt;obtain⟨t,ht,e1,e2⟩:=gN qt;obtain⟨h1,h2⟩:=hT t ht;rw[<- e1] at h1 h2;rw[e] at h2;cases h2;subst e2;obtain⟨more,e3⟩:=un.ja b _ qb;obtain⟨qs,e4,_⟩:=hok' b _ e3;exact .inr ⟨_,h1,rfl,qs,e4⟩
    refine⟨rfl,⟨λb o e=>?_,λb o e=>?_⟩,os,bare⟩
    ·rcases each b o e with z|⟨c,hc,z,ps,hp⟩
     ·exact .inl z
     ·subst z;exact .inr (.inl ⟨(hc.tab e).isCodeTable,rfl,#[],ps,rfl,by rw[Array.empty_append];exact hp⟩)
    ·rcases each b o e with z|⟨c,hc,z,ps,hp⟩
     ·exact⟨o,z⟩
     ·exact⟨_,hp⟩
 cases hk:K.lookup a with
 |some o =>
  have e:=KX a o hk;rw[ha] at e;cases e;exact core none (.inl rfl) (λz=>absurd rfl z) (.inr ⟨_,vs.toArray,_,hk,rfl,rfl,rfl,by rw[JD,lenV];exact hl,by simpa using rv⟩)
 |none=>exact core (some (.ik oS (.lst (ns.map V.int)))) (.inr rfl) (λ_=>hk) (.inl (.inr ⟨oS,JA rfl⟩))
def AK{l:W.OpenLaw}{n:Nat}{XP:(Str->Option Value)->Heap->Prop}{YP:World->Heap->Prop}{d:DefRec}{K:Params->W.Frag}{CX:World->nL}{sp:World->Sp}
  (hn:l.most=some n) (hn2:n<=sizeLine) (hdf:d.params.defaults=[]) (hr:bz k callerA)
  (hY:∀(w:World) (h:Heap),YP w h->(K w.params).In h)
  (F:∀(w:World) (mg:Str->Option Value) (fa:Addr) (h:Heap),(K w.params).In h->h.Ns mainGlobals mg->mg d.name=some (.ref fa) ->
   ∃fd:FuncData,(∀(s:Shared) (u:Value),BindsTo s fd ⟨[u],[]⟩ [(x,u)]) /\
    ∀base:Heap,(K w.params).In base->base.Ns mainGlobals mg->bY l.prog w (K w.params) mg base (CX w) k fa fd [x] (sp w))
  (mq:∀(w:World) (H:Hp) (a:Addr) (ns:List Int),ns.length<=n->True->bg (K w.params) H a (ns.map V.int)->sp w [.ref a] H (λv _=>v=.bl true) λ_ _ _=>False)
  (hCX:∀(w:World) (H:Hp) (s:Shared) (e:Value) (s':Shared),CX w [] H s (λ_ _ _=>False) e s'->False) (hL:∀(w:World) (h:Heap),(K w.params).In h->iD q (K w.params)) :
  W.WalkO q loose XP YP l.row.toRowW d [] (λf vs=>PySem.call f vs):=by
 refine Att.qo hn hdf λw s₀ s₁ mg mb fa o pm cd doc a vs ns G Y ho hd gW hmg hobj hints hlen hg=>?_;have KX:=hY w _ Y;obtain⟨fd,hb,hF⟩:=F w mg fa _ KX G.T.g hmg;have L:=hL w _ KX;exact yz KX G.T.g G.T.b G.T.builtins G.T.nolimit G.T.bmain (L.at G.T KX) L hg hobj hints (JC hlen hn2) hr hF hb (λH hO hS=>mq w H a ns hlen hO hS) λH e s'=>hCX w H s₁ e s'
noncomputable def inClass(s:Stmt)(j:Nat):Stmt:=match s with
 |.ClassDef _ _ _ body _ _ _ _ _ _ _=>body.getD j (.Pass ⟨0,0,0,0⟩)
 |_=>.Pass ⟨0,0,0,0⟩
noncomputable def bS(s:Stmt):Arguments:=match s with
 |.FunctionDef _ a _ _ _ _ _ _ _ _=>a
 |_=>{posonlyargs:=[],args:=[],vararg:=none,kwonlyargs:=[],kw_defaults:=[],kwarg:=none,defaults:=[]}
noncomputable def aV(s:Stmt):List Stmt:=match s with
 |.FunctionDef _ _ b _ _ _ _ _ _ _=>b
 |_=>[]
noncomputable def ae(s:Stmt):Scope:=match s with
 |.FunctionDef _ _ _ _ _ _ sc _ _ _=>sc
 |_=>{kind:=.function,names:=[],isGenerator:=false,isCoroutine:=false}
abbrev aN:nL:=λ_ _ _ _ _ _=>False
abbrev E0:XK:=λ_ _ _=>False
def kN:Passes aN X E0:=λ_ _ _ _ _ _ _ h=>h.elim
structure lZ (K:W.Frag) (x qual:Str) (st:Stmt) (f:Addr) (fd:FuncData):Prop where
 ex:∃(oc:Value) (od:Option Addr) (kV doc pm:Value) (an:Option Addr) (cdv ct:Value) (osl:Array (Option Value)),
  fd=W.fnOf x qual (bS st) (aV st) (ae st) .none kV doc pm an cdv ct/\K.lookup f=some ⟨oc,od,.func fd,osl⟩/\W.codeIn K cdv qual=true
 kp:W.keepIn K (.ref f)=true
section
variable {P:Program} {w:World} {K:W.Frag} {mg:Str->Option Value} {base:Heap}
def lZ.ok{ps:List Str}(F:lZ K x qual st f fd)(S:av N ps (ae st))(len:∀vs H Q E,sp vs H Q E->vs.length=ps.length)
  (hbody:∀(cdv:Value) (A:Around) (outer:List Env) (s:Shared) (H:Hp) (vs:List V) (Q:VK) (E:XK),bz k (A.deeper (envOfC qual (ae st) s.heap.objs.size f cdv))->sp vs H Q E ->
   ∃t,sI (fY aN P w K mg base N qual (ae st) f cdv A outer s H E).vK (aV st) t/\t {nx:=λ_ H'=>Q .aL H',rt:=Q} (start N vs) H):bY P w K mg base aN (k+1) f fd ps sp:=by
 obtain⟨oc,od,kV,doc,pm,an,cdv,ct,osl,rfl,lk,gW⟩:=F.ex;refine xU lk gW S len λA outer s H vs Q E hr mq=>?_;obtain⟨t,h,q⟩:=hbody cdv A outer s H vs Q E hr mq;exact⟨t,h.vK,q⟩
def lZ.binds{ps:List Str}(F:lZ K x qual st f fd)
  (h:∀(kV doc pm:Value) (an:Option Addr) (cdv ct:Value) (us:List Value),us.length=ps.length->bindArgs (W.fnOf x qual (bS st) (aV st) (ae st) .none kV doc pm an cdv ct) ⟨us,[]⟩=pure (ps.zip us)):Binds K fd ps []:=by
 obtain⟨oc,od,kV,doc,pm,an,cdv,ct,osl,rfl,lk,gW⟩:=F.ex;exact .all (h kV doc pm an cdv ct)
def cH{oc:Value}{od an:Option Addr}{osl:Array (Option Value)}{kV doc pm cdv ct:Value}(l:K.lookup f=some ⟨oc,od,.func (W.fnOf x qual (bS st) (aV st) (ae st) .none kV doc pm an cdv ct),osl⟩)
  (c:W.codeIn K cdv qual=true) (k:W.keepIn K (.ref f)=true):lZ K x qual st f (W.fnOf x qual (bS st) (aV st) (ae st) .none kV doc pm an cdv ct):=⟨⟨oc,od,kV,doc,pm,an,cdv,ct,osl,rfl,l,c⟩,k⟩
end
def aI{A:Around}(hr:bz k A):A.units+1<cLine:=Kv (Nat.add_le_add_left (by decide:1<=64) _) hr.units
section
variable {X:Cx}
def pv(i:Nat){pos:Pos}(hN:autoParam (X.N[i]?=some x) ℜ0)(hv:autoParam (Hc X.env.scope x) ℜ4)(hd:autoParam ((x ==("__debug__":Str))=false) ℜ1)
  (gW:autoParam ((x ==("__classdict__":Str))=false) ℜ1):PE X (.Name x pos) (sP i):=En hN hv hd gW
end
def A9(H H':Hp):Prop:=∀b o,H b=some o->H' b=some o
def A9.refl(H:Hp):A9 H H:=λ_ _ h=>h
noncomputable def eC(cells:List (Str×Addr)):List (Str×NameKind)->List (Str×Addr)->List (Str×Addr)
 |[],acc=>acc
 | (n,k)::r,acc=>if k=.free then eC cells r ((n,(cells.lookup n).getD 0)::acc) else eC cells r acc
def hG(h:∀x∈scope.names,x.2=.free->∃c,env.cells.lookup x.1=some c):closureFor scope env=pure (eC env.cells scope.names []):=by
 have all:∀(l:List (Str×NameKind)) (acc:List (Str×Addr)),(∀x∈l,x.2=.free->∃c,env.cells.lookup x.1=some c) ->
   (forIn l acc λ(x:Str×NameKind) (cs:List (Str×Addr))=>(match x with | (name,kind)=>if (kind == NameKind.free)=true then (do let c <- cellOf env name;pure (ForInStep.yield ((name,c)::cs))) else pure (ForInStep.yield cs):Sem (ForInStep (List (Str×Addr)))))=(pure (eC env.cells l acc):Sem (List (Str×Addr))):=by
  intro l
  induction l with
  |nil=>intro acc _;rfl
  |cons x r ih =>
   intro acc hl;obtain⟨n,k⟩:=x;rw[LX];by_cases hk:k=.free
   ·subst hk;obtain⟨c,hc⟩:=hl (n,.free) J7 rfl;have e:cellOf env n=pure c:=by unfold cellOf;rw[hc]
    simp only[Mi,LV,e,eC,pure_bind];rw[ih _ λy hy=>hl y (Jx _ hy),hc];rfl
   ·have hb:(k == NameKind.free)=false:=by simpa using hk
    simp only[hb,KZ,Lz,eC,hk,pure_bind];exact ih _ λy hy=>hl y (Jx _ hy)
 unfold closureFor;simp only[bind_pure];exact all scope.names [] h
theorem iW:∀{l:List (Str×NameKind)} {acc:List (Str×Addr)},(∀x∈l,x.2=.free->∃c,cells.lookup x.1=some c)->(∀x c,acc.lookup x=some c->cells.lookup x=some c) ->
  ∀x c,(eC cells l acc).lookup x=some c->cells.lookup x=some c
 |[],_,_,h,x,c,e=>h x c e
 | (n,k)::r,acc,hl,h,x,c,e=>by
  unfold eC at e;have hr:∀y∈r,y.2=.free->∃c,cells.lookup y.1=some c:=λy hy=>hl y (Jx _ hy)
  split at e
  ·rename_i hk;refine iW hr (λy d q=>?_) x c e;rw[K_] at q
   split at q
   ·rename_i hy;obtain⟨c',hc'⟩:=hl (n,k) J7 hk;have hy':y=n:=by simpa using hy
    subst hy';simp only[] at hc';rw[hc'] at q ⊢;exact q
   ·exact h y d q
  ·exact iW hr h x c e
theorem iR:∀{l:List (Str×NameKind)} {acc:List (Str×Addr)},(∃c,acc.lookup x=some c)->∃c,(eC cells l acc).lookup x=some c
 |[],_,h=>h
 | (n,k)::r,acc,h=>by
  unfold eC;split
  ·refine iR ?_;rw[K_];split
   ·exact⟨_,rfl⟩
   ·exact h
  ·exact iR h
theorem gJ:∀{l:List (Str×NameKind)} {acc:List (Str×Addr)},(x,NameKind.free)∈l->∃c,(eC cells l acc).lookup x=some c
 |[],_,h=>by simp at h
 | (n,k)::r,acc,h=>by
  unfold eC;rcases Jw.mp h with e|h
  ·cases e;rw[JA rfl];exact iR ⟨(cells.lookup x).getD 0,by rw[K_];simp⟩
  ·split
   ·exact gJ h
   ·exact gJ h
noncomputable def aK(X:Cx)(scope:Scope)(N:List Str)(C:Addr)(s:Shared)(H:Hp)(fp:List Addr):Cx where
 prog:=X.prog
 w:=X.w
 K:=X.K
 mg:=X.mg
 base:=X.base
 A:=X.A
 N:=N
 s₀:=s
 H₀:=H
 env:=compEnvC scope (eC X.env.cells scope.names []) C X.env
 outer:=X.stack
 stack:=X.stack
 ex:=fp
 calm:=X.calm
 fn:=λ_=>false
 pn:=[]
 xe:=λ_ _=>False
structure az (osc:Scope) (ON:List Str) (scope:Scope) (own N:List Str):Prop where
 kind:scope.kind=.function
 nd:N.Nodup
 len:N.length=own.length+ON.length
 kL:∀y∈scope.names,y.2≠.cell
 loc:∀y∈scope.names,y.2=.local->scope.names.lookup y.1=some .local
 free:∀y∈scope.names,y.2=.free->osc.names.lookup y.1=some .cell\/osc.names.lookup y.1=some .free
 out:∀p∈ON.zip (N.drop own.length),p.1=p.2\/scope.names.lookup p.2=none
 own:∀x∈N.drop own.length,scope.names.lookup x≠some .local
def cQ(x:Str)(hn:∀y∈scope.names,y.2≠.cell):((relabel scope env).names.lookup x=some .local->scope.names.lookup x=some .local) /\
  ((relabel scope env).names.lookup x=some .cell\/(relabel scope env).names.lookup x=some .free->scope.names.lookup x=some .free):=by
 unfold relabel;simp only;revert hn;generalize scope.names=l;intro hn
 induction l with
 |nil=>simp
 |cons y r ih =>
  obtain⟨n,k⟩:=y;have ih:=ih λy hy=>hn y (Jx _ hy);have hk:k≠.cell:=hn (n,k) J7;rw[Ke];simp only;by_cases hc:(k == NameKind.free && env.scope.kind == ScopeKind.function && env.kindOf n == some NameKind.cell)=true
  ·rw[JA hc,K_,K_];have hf:k=.free:=by
    simp only[K8] at hc
    simpa using hc.1.1
   split
   ·subst hf;simp
   ·exact ih
  ·rw[Jy hc,K_,K_];split
   ·constructor
    ·exactλh=>h
    ·rintro (h|h)
     ·exact absurd (Option.some.inj h) hk
     ·exact h
   ·exact ih
def ET(X:Cx)(ifs:List Expr)(t:TT):Prop:=
 ∀(pins:List (Addr×Obj)) (s:Shared) (σ:St) (H:Hp) (Q:Bool->Hp->Prop),Inv X pins σ H s->t σ H Q ->
  wpAny (model X.prog X.w) X.A (forIn ifs true λc r=>if r=true then do let ok <- isTrue c X.env (eval c X.env);pure (ForInStep.yield ok) else pure (ForInStep.yield r)) (TP X pins σ Q) X.xe s
def gw:TT:=λ_ H Q=>Q true H
def BW:ET X [] gw:=λ_ _ _ H _ I h=>wpAny_tests_nil ⟨H,I,h⟩
def AV{c:Expr}{t:TT}(h:PT X c t):ET X [c] t:=λpins s σ H Q I hw=>wpAny_tests_one (h pins s σ H Q I hw)
def wC{A:Around}{s:Shared}{m:Sem α}{Q' Q:α->Shared->Prop}(h:wpAny M A m Q' (λ_ _=>False) s)(k:∀x s',Q' x s'->Q x s'):wpAny M A m Q E s:=Kt h k λ_ _ z=>z.elim
def m5{A:Around}{R:Result->Shared->Prop}{s:Shared}{target:Expr}{pos:Pos}{it acc:Value}{XE:Value->Shared->Prop}(I:Nat->Shared->Prop)(hx:∀x s',XE x s'->notedBy (model prog w) A env (λv s''=>R (.error v) s'') x s')
  (turn:∀n s,I n s->wpAny (model prog w) A (pyNext it) (λr s₁=>match r with
   |none=>R (.ok .next) s₁
   |some v=>wpAny (model prog w) A (letOwnedTupleGo target it v) (λ_ s₁'=>wpAny (model prog w) A (assign target env v) (λ_ s₂ =>
     wpAny (model prog w) A (forIn ifs true λc r=>if r=true then do let ok <- isTrue c env (eval c env);pure (ForInStep.yield ok) else pure (ForInStep.yield r)) (λok s₃ =>
      if ok=true then wpAny (model prog w) A (eval elt env) (λx s₄ =>
       wpAny (model prog w) A (call (.builtin "list.append") [acc,x]) (λ_ s₅=>∃m,m<n/\I m s₅) XE s₄) XE s₃
      else ∃m,m<n/\I m s₃) XE s₂) XE s₁') XE s₁) XE s)
  (n:Nat) (h:I n s):codeAny (model prog w) A (.compLoop (.ListComp elt [⟨target,iter,ifs,0⟩] scope pos) 0 it acc env) R s:=by
 refine codeAny_loop rfl I (λn s hI=>?_) n h;show wpAny _ A ((compTurn (.ListComp elt [⟨target,iter,ifs,0⟩] scope pos) 0 it acc env).onRaise (λx=>do noteFrame x env;theTreesLotGoes x)) _ _ s
 refine wpAny_noted ?_;rw[compTurn_list];refine Js (MD (Js (Kt (turn n s hI) (λr s₁ h₁=>?_) hx)))
 cases r with
 |none=>exact J9 h₁
 |some v =>
  refine Js (Kt h₁ (λ_ s₁' h₁'=>?_) hx);refine Js (Kt h₁' (λ_ s₂ h₂=>Js (Kt h₂ (λok s₃ h₃=>?_) hx)) hx)
  cases ok with
  |false=>exact J9 ⟨rfl,h₃⟩
  |true =>
   exact Js (Js (Kt h₃ (λx s₄ h₄=>Js (Kt h₄ (λ_ s₅ h₅=>J9 (J9 ⟨rfl,h₅⟩)) hx)) hx))
def i9(wi:TI)(k:Nat)(g:TG)(tc:TT)(te:TE):TE:=λσ H Q=>wi σ H λJ H1=>∀D,H1 D=none ->
 ∃W:Nat->Nat->List V->St->Hp->Prop,(∃m,W 0 m [] (List.replicate k none++σ) (upd H1 D (.lst [])))/\∀i m ys σ' H',W i m ys σ' H'->H' D=some (.lst ys) /\
  ((J.stop i H'/\Q (.ref D) H')\/(J.go i H'/\ys.length<sizeLine/\∀x H2,J.Dg i H' x H2->g x σ' H2 λσ3 H3=>tc σ3 H3 λb H4 =>
   if b=true then te σ3 H4 λv H5=>H5 D=some (.lst ys)/\∃m',m'<m/\W (i+1) m' (ys++[v]) σ3 (upd H5 D (.lst (ys++[v])))
   else ∃m',m'<m/\W (i+1) m' ys σ3 H4))
def sh{pos:Pos}{wi:TI}(S:az osc ON scope own N)(hosc:X.env.scope=osc)(hON:X.N=ON)(hc:X.calm=true)(hi:PI X tg iter wi)
  (hg:∀C s H fp,PG (aK X scope N C s H fp) tg g) (ht:∀C s H fp,ET (aK X scope N C s H fp) ifs tc) (XE:Addr->Shared->Hp->List Addr->Value->Shared->Prop)
  (he:∀C s H fp pins s' σ' H' Q',(∀b∈fp,∃o,(b,o)∈pins)->Inv (aK X scope N C s H fp) pins σ' H' s'->te σ' H' Q'->wpAny (model X.prog X.w) X.A (eval elt (aK X scope N C s H fp).env) (EP (aK X scope N C s H fp) pins σ' Q') (XE C s H fp) s')
     {s:Shared} {Q:VK} (I:Inv X pins σ H s) (h:i9 wi own.length g tc te σ H Q) 
  (fin:∀(D C:Addr) (H':Hp) (s':Shared) (m:Str->Option Value),Inv X pins σ H' s'->Q (.ref D) H'->H' C=none->X.s₀.heap.objs.size<=C->C≠X.env.locals->(∀x c,X.env.cells.lookup x=some c->c≠C)->(∀p∈X.pn++pins,p.1≠C) ->
   s'.heap.Ns C m->RR (.ref D) C (.ok .next) s')
  (hx:∀(D C:Addr) (s3:Shared) (H3:Hp) (fp:List Addr),C=s3.heap.objs.size->Inv X pins σ H3 s3->(∀{pins':List (Addr×Obj)} {σ':St} {H':Hp} {s':Shared},Inv (aK X scope N C s3 H3 fp) pins' σ' H' s'->Inv X pins σ H' s') ->
   X.s₀.heap.objs.size<=C->C≠X.env.locals->(∀x c,X.env.cells.lookup x=some c->c≠C)->(∀p∈X.pn++pins,p.1≠C)->∀x s',XE C s3 H3 fp x s'->notedBy (model X.prog X.w) X.A (aK X scope N C s3 H3 fp).env (λv s''=>RR (.ref D) C (.error v) s'') x s') :
  wpAny (model X.prog X.w) X.A (eval iter X.env) (λx s₁=>wpAny (model X.prog X.w) X.A (pyIter x) (λit s₂=>wpAny (model X.prog X.w) X.A (newList []) (λacc s₃ =>
   wpAny (model X.prog X.w) X.A (newFunctionEnv scope X.env.globals (eC X.env.cells scope.names []) [] X.env.qual none .none (some X.env)) (λcenv s₄ =>
    codeAny (model X.prog X.w) X.A (.compStart (.ListComp elt [⟨tg,iter,ifs,0⟩] scope pos) 0 it acc {cenv with scope:=relabel scope X.env}) (RR acc cenv.locals) s₄) X.xe s₃) X.xe s₂) X.xe s₁) X.xe s:=by
 refine bN (hi pins s σ H _ I h) λv s1 h1=>bN h1 λitv s2 h2=>?_;obtain⟨it,fp,tn,J,H2,e,I2,T,st2,f2,q⟩:=h2;subst e;refine KR (wpAny_newFunctionEnv S.kL (by intro y hy;simp at hy) (λh₁ hns₁ hsb₁=>?_) S.kind)
 dsimp only at hns₁ hsb₁ ⊢;have I3:Inv X pins σ (upd H2 s2.heap.objs.size (.lst [])) {s2 with heap:=s2.heap.push {cls:=.type "list",data:=.seq ([]:List Value).toArray},toks:=s2.toks}:=I2.FA (t':=s2.toks) .nil (Nat.zero_le _)
 have hD2:H2 s2.heap.objs.size=none:=I2.fresh;obtain⟨W,⟨m0,w0⟩,turn⟩:=q _ hD2;generalize hs3:({s2 with heap:=s2.heap.push {cls:=.type "list",data:=.seq ([]:List Value).toArray},toks:=s2.toks}:Shared)=s3 at I3
 have eh3:s3.heap=s2.heap.push {cls:=.type "list",data:=.seq ([]:List Value).toArray}:=by rw[<- hs3]
 generalize hD:s2.heap.objs.size=D at I3 turn w0 hD2 ⊢;generalize hH3:upd H2 D (.lst [])=H3 at I3 w0;rw[<- eh3] at hns₁ hsb₁ ⊢;have hC3:H3 s3.heap.objs.size=none:=I3.fresh;have hsz3:s3.heap.objs.size=D+1:=by rw[eh3,KC,hD]
 have fp2:∀b∈fp,b<s2.heap.objs.size:=λb hb=>by
  obtain⟨o,e,_⟩:=T.obj _ _ st2 b hb;exact JL e
 have f3:∀b∈fp,m3 X pins H3 b:=λb hb=>by
  obtain⟨g0,g1⟩:=f2 b hb;refine⟨?_,g1⟩;rw[<- hH3,ak (by rw[<- hD];exact JU (fp2 b hb))]
  exact g0
 have neC:∀b o,s3.heap.get? b=some o->b≠s3.heap.objs.size:=λb o e=>JU (JL e);have old:∀b o,s3.heap.get? b=some o->h₁.get? b=some o:=λb o e=>hsb₁.extBut b o (neC b o e) (J5 _ e);have hk:=S.kind;have hfr:∀y∈scope.names,y.2=.free->∃c,X.env.cells.lookup y.1=some c:=λy hy hf=>I3.ok.has _ (by subst hosc;exact S.free y hy hf)
 have sub:=iW (acc:=[]) hfr (by intro x c e;simp at e)
 have JB:∀tk,Inv (aK X scope N s3.heap.objs.size s3 H3 fp) [] (List.replicate own.length none++σ) H3 {s3 with heap:=h₁,toks:=tk}:=λtk=>by
  refine⟨⟨I3.ok.mod,S.kind,I3.ok.glob,I3.ok.blt,J8 _,λx y c e1 e2=>I3.ok.inj x y c (sub x c e1) (sub y c e2),λx hx=>?_,λx c hf _=>(by cases hf),I3.ok.hd,I3.ok.frames,.inl rfl,λb hb=>?_,I3.bs,JC I3.ok.tU I3.sz,λb o e hb=>?_,λb hb hf=>?_,I3.stack,I3.jT,I3.ok.tabs.un I3.base⟩,
   rfl,I3.bare,Un.kept old,⟨_,hns₁,λi x v e1 e2 e3=>?_⟩,λx c e=>?_,hC3,λx c e=>I3.cO x c (sub x c e),λp hp=>absurd (show p∈([]:List (Addr×Obj)) from hp) (by simp),I3.aP.kept old,?_⟩
  ·have q:=(cQ (env:=X.env) x S.kL).2 hx;exact gJ (PySem.mem_of_lookup q)
  ·have hb:b∈fp:=hb;obtain⟨_,g1,g2,g3,g4,g5⟩:=f3 b hb;refine⟨?_,λx c e=>g4 x c (sub x c e)⟩;have:=fp2 b hb;show b≠s3.heap.objs.size;rw[hsz3,<- hD];exact JU (Ma this)
  ·have hb:b∈fp:=hb;obtain⟨_,g1,g2,g3,g4,g5⟩:=f3 b hb;rcases g3 with g3|g3
   ·exact I3.ok.om b o e g3
   ·exact absurd (JT (JL e) (JC I3.ok.tU g3)) (La _)
  ·have hb:b∈fp:=hb;obtain⟨_,g1,g2,g3,g4,g5⟩:=f3 b hb;rcases Jw.mp (I3.kr b hf) with z|z
   ·exact g1 z
   ·exact g2 z
  ·have hi:own.length<=i:=by
    rcases Ku i own.length with hlt|hge
    ·rw[JX (by simpa using hlt),NK] at e2
     split at e2<;>cases e2
    ·exact hge
   rw[JP (by simpa using hi),JI] at e2
   have e1:N[own.length+(i-own.length)]?=some x:=by rw[Nat.add_sub_cancel' hi];exact e1
   have e1d:(N.drop own.length)[i-own.length]?=some x:=by rw[K4];exact e1
   have nl:scope.names.lookup x≠some .local:=S.own x (JY e1d);have vis:scope.names.lookup x=some .free:=by
    rcases e3 with z|z
    ·exact absurd ((cQ (env:=X.env) x S.kL).1 z) nl
    ·exact (cQ (env:=X.env) x S.kL).2 z
   have hlen:=I3.len;have hlt:i-own.length<X.N.length:=by
    rw[<- hlen];exact (Ju.mp e2).1
   have hxN:X.N[i-own.length]?=some x:=by
    rw[Jr hlt];have mz:(X.N[i-own.length],x)∈ON.zip (N.drop own.length):=by
     rw[<- hON];refine JY (i:=i-own.length) ?_;rw[List.getElem?_zip_eq_some];exact⟨Jr hlt,e1d⟩
    rcases S.out _ mz with z|z
    ·exact Km some z
    ·exact absurd z (by rw[vis];simp)
   have hko:X.env.scope.names.lookup x=some .cell\/X.env.scope.names.lookup x=some .free:=by subst hosc;exact S.free _ (PySem.mem_of_lookup vis) rfl
   obtain⟨m,hn,hl⟩:=I3.loc;have hv:Hc X.env.scope x:=by
    rcases hko with z|z
    ·exact .inr (.inl z)
    ·exact .inr (.inr z)
   obtain⟨u,ru,lk⟩:=hl _ x v hxN e2 hv;refine⟨u,ru,.inr ⟨?_,?_⟩⟩
   ·rcases e3 with z|z
    ·exact absurd ((cQ (env:=X.env) x S.kL).1 z) nl
    ·exact z
   ·rcases lk with ⟨k,_⟩|⟨_,c,ec,hcell⟩
    ·exfalso
     have k':X.env.scope.names.lookup x=some .local:=k;rcases hko with z|z
     ·rw[k'] at z;cases z
     ·rw[k'] at z;cases z
    ·obtain⟨c',ec'⟩:=gJ (cells:=X.env.cells) (acc:=[]) (PySem.mem_of_lookup vis);have:=sub x c' ec';rw[ec] at this;cases this;obtain⟨o,ho,hd⟩:=hcell;exact⟨c,ec',o,old c o ho,hd⟩
  ·obtain⟨v,o,ho,hd⟩:=I3.cell x c (sub x c e);exact⟨v,o,old c o ho,hd⟩
  ·show (List.replicate own.length none++σ).length=N.length;rw[S.len,Jv,JI,I3.len,hON]
 have stat:∀{H':Hp},(∀b∈fp,H' b=none)->∀b∈fp,m3 (aK X scope N s3.heap.objs.size s3 H3 fp) [] H' b:=λ{H'} hn b hb=>by
  obtain⟨_,g1,g2,g3,g4,g5⟩:=f3 b hb;refine⟨hn b hb,?_,λhf=>?_,.inl hb,λx c e=>g4 x c (sub x c e),λp hp=>absurd (show p∈([]:List (Addr×Obj)) from hp) (by simp)⟩
  ·have:=fp2 b hb;show b≠s3.heap.objs.size;rw[hsz3,<- hD];exact JU (Ma this)
  ·rcases Jw.mp (I3.kr b hf) with z|z
   ·exact g1 z
   ·exact g2 z
 have st4:tn 0 h₁:=T.keep _ _ _ st2 λb hb o e=>old b o (by rw[eh3];exact J5 _ e)
 have o3:∀x c,X.env.cells.lookup x=some c->c≠s3.heap.objs.size:=λx c e z=>by
  obtain⟨v,o,ho,_⟩:=I3.cell x c e;exact absurd (JL ho) (by rw[z];exact La _)
 have o4:∀p∈X.pn++pins,p.1≠s3.heap.objs.size:=λp hp z=>absurd (JL (I3.pin p hp).1) (by rw[z];exact La _)
 have outI:∀{pins':List (Addr×Obj)} {σ':St} {H':Hp} {s':Shared},Inv (aK X scope N s3.heap.objs.size s3 H3 fp) pins' σ' H' s'->Inv X pins σ H' s':=λI6=>by
  refine I3.CZ (ch:=fp) I6.os I6.base I6.aP I6.bare λb hb=>?_;obtain⟨_,g1,g2,g3,g4,g5⟩:=f3 b hb;exact⟨g3,g1,g4,g5⟩
 have loop:∀s4:Shared,s4={s3 with heap:=h₁,toks:=s2.toks+([]:List (Str×Value)).length} ->
   codeAny (model X.prog X.w) X.A (.compLoop (.ListComp elt [⟨tg,iter,ifs,0⟩] scope pos) 0 (.ref it) (.ref D) (aK X scope N s3.heap.objs.size s3 H3 fp).env) (RR (.ref D) s3.heap.objs.size) s4:=by
  rintro s4 rfl;refine m5 (XE:=XE s3.heap.objs.size s3 H3 fp) (λn s'=>∃i ys σ' H',Inv (aK X scope N s3.heap.objs.size s3 H3 fp) [] σ' H' s'/\tn i s'.heap/\(∀b∈fp,H' b=none)/\W i n ys σ' H') (hx D _ s3 H3 fp rfl I3 outI I3.sz (L7 I3.lt) o3 o4) ?_ m0 ⟨0,[],_,H3,JB _,st4,λb hb=>(f3 b hb).1,w0⟩;rintro n s5 ⟨i,ys,σ5,H5,I5,st5,fr5,w5⟩;obtain⟨hD5,ways⟩:=turn i n ys σ5 H5 w5;rcases ways with ⟨stop,qn⟩|⟨go,hys,step⟩
  ·refine wC (T.done (aK X scope N s3.heap.objs.size s3 H3 fp) rfl rfl rfl hc i [] s5 σ5 H5 _ I5 (stat fr5) st5 stop) λr s6 hq1=>?_;obtain⟨hr,I6⟩:=hq1;subst hr;obtain⟨m,hn,_⟩:=I6.loc;exact fin D _ H5 s6 m (outI I6) qn I6.free I3.sz (L7 I3.lt) o3 o4 hn
  ·refine wC (T.item (aK X scope N s3.heap.objs.size s3 H3 fp) rfl rfl rfl hc i [] s5 σ5 H5 _ I5 (stat fr5) st5 go) λr s6 hq2=>?_;obtain⟨u,hr,h6⟩:=hq2;subst hr;refine wC h6 λ_ s7 hq3=>?_;obtain⟨x,H7,I7,r7,y7,st7,fr7⟩:=hq3;have I7':=I7.pinned (stat fr7) (T.obj _ _ st7);have back:∀{σ8:St} {H8:Hp} {s8:Shared},Inv (aK X scope N s3.heap.objs.size s3 H3 fp) ([]++jb fp s7.heap) σ8 H8 s8->tn (i+1) s8.heap/\∀b∈fp,H8 b=none:=λ{σ8 H8 s8} I8=>by
    refine⟨T.keep _ _ _ st7 λb hb o e=>(I8.pin (b,o) (JR _ (JR _ (dZ hb e)))).1,λb hb=>?_⟩;obtain⟨o,e,d⟩:=T.obj _ _ st7 b hb;exact (I8.pin (b,o) (JR _ (JR _ (dZ hb e)))).2.1
   have hcov:∀b∈fp,∃o,(b,o)∈([]:List (Addr×Obj))++jb fp s7.heap:=λb hb=>by
    obtain⟨o,e,_⟩:=T.obj _ _ st7 b hb;exact⟨o,JR _ (dZ hb e)⟩
   refine wC (hg _ _ _ _ _ s7 σ5 H7 x u _ I7' r7 (step x H7 y7)) λ_ s8 hq4=>?_;obtain⟨σ8,H8,I8,q8⟩:=hq4;refine wC (ht _ _ _ _ _ s8 σ8 H8 _ I8 q8) λok s9 hq5=>?_;obtain⟨H9,I9,q9⟩:=hq5
   cases ok with
   |false =>
    rw[Jy (by simp)] at q9 ⊢
    obtain⟨m',hm,w9⟩:=q9;exact⟨m',hm,i+1,ys,σ8,H9,I9.gz,(back I9).1,(back I9).2,w9⟩
   |true =>
    rw[JA rfl] at q9 ⊢;refine bN (he _ _ _ _ _ s9 σ8 H9 _ hcov I9 q9) λy s10 hq6=>?_;obtain⟨v10,H10,I10,r10,hD10,m',hm,w10⟩:=hq6;refine wC (mW _ s10 σ8 H10 (.ref D) [v10] (.ref D) [y] (λr H11=>r=.aL/\H11=upd H10 D (.lst (ys++[v10]))) I10 rfl (.cons r10 .nil) ⟨D,ys,v10,rfl,rfl,hD10,hys,rfl,rfl⟩) λ_ s11 hq7=>?_;obtain⟨_,H11,I11,_,_,e11⟩:=hq7;subst e11;exact⟨m',hm,i+1,_,σ8,_,I11.gz,(back I11).1,(back I11).2,w10⟩
 have start:=codeAny_compStart_list (R:=RR (.ref D) s3.heap.objs.size) (loop _ rfl) (T.self X.A 0 _ _ _ st4 (loop _ rfl));subst hs3;exact start
def mV{pos:Pos}{wi:TI}(S:az osc ON scope own N)(hosc:X.env.scope=osc)(hON:X.N=ON)(hc:X.calm=true)(hi:PI X tg iter wi)
  (hg:∀C s H fp,PG (aK X scope N C s H fp) tg g) (ht:∀C s H fp,ET (aK X scope N C s H fp) ifs tc) (he:∀C s H fp,PE (aK X scope N C s H fp) elt te)
     {s:Shared} {Q:VK} (I:Inv X pins σ H s) (h:i9 wi own.length g tc te σ H Q) 
  (fin:∀(D C:Addr) (H':Hp) (s':Shared) (m:Str->Option Value),Inv X pins σ H' s'->Q (.ref D) H'->H' C=none->X.s₀.heap.objs.size<=C->C≠X.env.locals->(∀x c,X.env.cells.lookup x=some c->c≠C)->(∀p∈X.pn++pins,p.1≠C) ->
   s'.heap.Ns C m->RR (.ref D) C (.ok .next) s') :
  wpAny (model X.prog X.w) X.A (eval iter X.env) (λx s₁=>wpAny (model X.prog X.w) X.A (pyIter x) (λit s₂=>wpAny (model X.prog X.w) X.A (newList []) (λacc s₃ =>
   wpAny (model X.prog X.w) X.A (newFunctionEnv scope X.env.globals (eC X.env.cells scope.names []) [] X.env.qual none .none (some X.env)) (λcenv s₄ =>
    codeAny (model X.prog X.w) X.A (.compStart (.ListComp elt [⟨tg,iter,ifs,0⟩] scope pos) 0 it acc {cenv with scope:=relabel scope X.env}) (RR acc cenv.locals) s₄) X.xe s₃) X.xe s₂) X.xe s₁) X.xe s:=
 sh S hosc hON hc hi hg ht (λ_ _ _ _ _ _=>False) (λC s H fp pins s' σ' H' Q' _ I h=>he C s H fp pins s' σ' H' Q' I h) I h fin λ_ _ _ _ _ _ _ _ _ _ _ _ _ _ z=>z.elim
def B_{pos:Pos}{wi:TI}(S:az osc ON scope own N)(hosc:X.env.scope=osc)(hON:X.N=ON)(hc:X.calm=true)(hi:PI X tg iter wi)
  (hg:∀C s H fp,PG (aK X scope N C s H fp) tg g) (ht:∀C s H fp,ET (aK X scope N C s H fp) ifs tc) (he:∀C s H fp,PE (aK X scope N C s H fp) elt te)
  (hs:autoParam (∀x,foldedSetIterable iter X.env x=pure x) ℜ3) :
  PE X (.ListComp elt [⟨tg,iter,ifs,0⟩] scope pos) (i9 wi own.length g tc te):=by
 intro pins s σ H Q I h;have hfr:∀y∈scope.names,y.2=.free->∃c,X.env.cells.lookup y.1=some c:=λy hy hf=>I.ok.has _ (by subst hosc;exact S.free y hy hf)
 rw[eval_ListComp];refine NA (use:=none) rfl hs (hG hfr) S.kind S.loc ?_;refine mV S hosc hON hc hi hg ht he I h (RR:=λacc C=>compPost (model X.prog X.w) X.A X.xe none (EP X pins σ Q) acc C) ?_;intro D C H' s' m I' q h1 h2 h3 h4 h5 hn;exact⟨m,hn,λh'' hs''=>⟨.ref D,H',I'.turned (t':=s'.toks) (λb o hb e=>(hs''.2 b hb).trans e) h1 h3 (.inr h2) h4 h5,rfl,q⟩⟩
def rq{pos spos py:Pos}{wi:TI}{y:Str}(hN:X.N.Nodup)(hj:X.N[j]?=some y)(hx:Loc X.env.scope y)(S:az osc ON scope own N)(hosc:X.env.scope=osc)(hON:X.N=ON)(hc:X.calm=true)(hi:PI X tg iter wi)
  (hg:∀C s H fp,PG (aK X scope N C s H fp) tg g) (ht:∀C s H fp,ET (aK X scope N C s H fp) ifs tc) (he:∀C s H fp,PE (aK X scope N C s H fp) elt te)
  (hsw:autoParam (swapsWith (.ListComp elt [⟨tg,iter,ifs,0⟩] scope pos) (some (.Name y py)) spos.line X.env=pure true) ℜ0)
  (hf:autoParam (X.fn y=true\/X.env.scope.names.lookup y=some .local) ℜ2)
  (hs:autoParam (∀x,foldedSetIterable iter X.env x=pure x) ℜ3) :
  PS X (.Assign [.Name y py] (.ListComp elt [⟨tg,iter,ifs,0⟩] scope pos) spos) (lP (i9 wi own.length g tc te) (aT j)):=by
 intro pins s σ H Dn I h;have hfr:∀y∈scope.names,y.2=.free->∃c,X.env.cells.lookup y.1=some c:=λy hy hf=>I.ok.has _ (by subst hosc;exact S.free y hy hf)
 rw[exec_Assign_Name_used _ _ _ _ hsw];refine Js (MD (Js ?_));show wpAny _ X.A (do let _ <- comprehension (.ListComp elt [⟨tg,iter,ifs,0⟩] scope pos) scope X.env _ (newList []) false (eval iter X.env) (some (assign (.Name y py) X.env))) _ _ s
 refine Js (Kt (NA (use:=some (assign (.Name y py) X.env)) (Q:=λ_ s'=>SP X pins Dn .next s') rfl hs (hG hfr) S.kind S.loc ?_) (λ_ s' hq=>J9 (J9 hq)) λ_ _ e=>e);refine mV S hosc hON hc hi hg ht he I h (RR:=λacc C=>compPost (model X.prog X.w) X.A X.xe (some (assign (.Name y py) X.env)) (λ_ s'=>SP X pins Dn .next s') acc C) ?_;intro D C H' s' m I' q h1 h2 h3 h4 h5 hn;show wpAny _ X.A (assign (.Name y py) X.env (.ref D)) _ _ _;refine wpAny_assign_Name (nu I' hN hj hx (v:=.ref D) rfl (λs'' I'' hsb=>?_) hf);obtain⟨a,sb,ha⟩:=hsb;have nC:C≠a:=by
  rcases ha with ha|ha
  ·rw[ha];exact h3
  ·exact (h4 y a ha).symm
 exact⟨m,hn.sameBut sb nC,λh'' hs''=>⟨_,H',I''.turned (t':=s''.toks) (λb o hb e=>(hs''.2 b hb).trans e) h1 h3 (.inr h2) h4 h5,q⟩⟩
noncomputable def eG(e:Expr):Bool:=match e with
 |.Starred ..=>false
 |_=>true
def cC{e:Expr}(h:eG e=true):starEach (e::es) env=(false,eval e env)::starEach es env:=by
 cases e<;>first|rfl|cases h
theorem plain_any{pos:Pos}:∀{es:List Expr},es.all eG=true->(backTo pos (starEach es env)).any (·.1)=false
 |[],_=>rfl
 |e::es,h=>by
  rw[Lu,K8] at h;rw[cC h.1];show (false || (backTo pos (starEach es env)).any (·.1))=false;rw[plain_any h.2];rfl
theorem plain_all{pos:Pos}:∀{es:List Expr},es.all eG=true->(backTo pos (starEach es env)).all (λx=>!x.1)=true
 |[],_=>rfl
 |e::es,h=>by
  rw[Lu,K8] at h;rw[cC h.1];show (true && (backTo pos (starEach es env)).all (λx=>!x.1))=true;rw[plain_all h.2];rfl
def Dz{e:Expr}(h:(e::es).all eG=true)(hl:(e::es).length<30):
  ((backTo cpos (starEach (e::es) env)).all (λx=>!x.1) && (backToKw cpos (keywordEach [] env)).all (λx=>x.1.isSome) && decide ((e::es).length+([]:List Keyword).length+(if ([]:List Keyword).isEmpty then 0 else 1)<30))=true:=by
 rw[plain_all h];have e2:(backToKw cpos (keywordEach [] env)).all (λx=>x.1.isSome)=true:=rfl;rw[e2];have e3:(e::es).length+([]:List Keyword).length+(if ([]:List Keyword).isEmpty then 0 else 1)<30:=hl
 rw[Kl e3];rfl
section
variable {X:Cx} {e:Expr} {es:List Expr} {te:TE} {t:TA}
def Iq(ha:PE X e te)(hr:PA X es t)(h:autoParam (eG e=true) ℜ0):PA X (e::es) (jt te t):=uK ha hr (cC h)
def Gn{id:String}{p pos:Pos}(hc:aZ X (.builtin id) r)(hg:Gl X x)(hm:X.mg x=none)(hv:bootBuiltins x=some (.builtin id))(ha:PA X (e::es) t)(h1:autoParam (eG e=true) ℜ0)(h2:autoParam (es.all eG=true) ℜ0)(hn:autoParam (x≠"__name__") ℜ1)(hdb:autoParam ((x ==("__debug__":Str))=false) ℜ1):
  PE X (.Call (.Name x p) (e::es) [] pos) (BO r t):=yp hc hg hm hv ha hn hdb (cC h1) (plain_any h2)
def Gu{T:String}{p pos:Pos}(hc:aZ X (.type T) r)(hg:Gl X x)(hm:X.mg x=none)(hv:bootBuiltins x=some (.type T))(ha:PA X (e::es) t)(h1:autoParam (eG e=true) ℜ0)(h2:autoParam (es.all eG=true) ℜ0)(hn:autoParam (x≠"__name__") ℜ1)(hdb:autoParam ((x ==("__debug__":Str))=false) ℜ1):
  PE X (.Call (.Name x p) (e::es) [] pos) (BO r t):=vF hc hg hm hv ha hn hdb (cC h1) (plain_any h2)
def Ew{o:Expr}{to:TE}{name:Str}{apos:Pos}{T id:String}{r:V->List V->Hp->VK->Prop}(pa:PlainAttrs T)(slot:Slot T name id)(hty:typeOf (.builtin id)=pure (.type "method_descriptor"))(hm:wJ X id r)(ho:PE X o to)(ha:PA X (e::es) t)
  (hbase:attributeBase o name X.env (eval o X.env)=eval o X.env) (hline:(apos.endLine == cpos.line)=true) (h:(e::es).all eG=true) (hl:(e::es).length<30):PE X (.Call (.Attribute o name apos) (e::es) [] cpos) (EI X.K T r to t):=by
 have h':=h;rw[Lu,K8] at h';exact FW pa slot hty hm ho ha hbase (Dz h hl) hline (cC h'.1) (plain_any h'.2)
def r9{a:Expr}{ta:TA}{p pos:Pos}(hg:Gl X "range")(hm:X.mg "range"=none)(ha:PA X [a] ta)(h:autoParam (eG a=true) ℜ0):PI X tg (.Call (.Name "range" p) [a] [] pos) (mQ ta):=wD hg hm ha (cC h)
end
structure HasFn (K:W.Frag) (mg:Str->Option Value) (x:Str) (st:Stmt) (ps:List Str):Prop where
 ex:∃(f:Addr) (fd:FuncData),lZ K x x st f fd/\Binds K fd ps []/\mg x=some (.ref f)
structure ao (P:Program) (w:World) (K:W.Frag) (mg:Str->Option Value) (base:Heap) (CX:nL) (k:Nat) (x:Str) (ps:List Str) (sp:Sp):Prop where
 ex:∃(f:Addr) (fd:FuncData),mg x=some (.ref f)/\W.keepIn K (.ref f)=true/\Binds K fd ps []/\bY P w K mg base CX k f fd ps sp
section
variable {P:Program} {w:World} {K:W.Frag} {mg:Str->Option Value} {base:Heap}
def HasFn.ok{ps:List Str}(F:HasFn K mg x st ps)(S:av N ps (ae st))(len:∀vs H Q E,sp vs H Q E->vs.length=ps.length)
  (hbody:∀(f:Addr) (cdv:Value) (A:Around) (outer:List Env) (s:Shared) (H:Hp) (vs:List V) (Q:VK) (E:XK),bz k (A.deeper (envOfC x (ae st) s.heap.objs.size f cdv))->sp vs H Q E ->
   ∃t,sI (fY aN P w K mg base N x (ae st) f cdv A outer s H E).vK (aV st) t/\t {nx:=λ_ H'=>Q .aL H',rt:=Q} (start N vs) H):ao P w K mg base aN (k+1) x ps sp:=by
 obtain⟨f,fd,F1,b,m⟩:=F.ex;exact⟨f,fd,m,F1.kp,b,F1.ok S len λcdv A outer s H vs Q E hr h=>hbody f cdv A outer s H vs Q E hr h⟩
end
section
variable {X:Cx} {CX:nL} {k:Nat} {ps:List Str} {sp:Sp} {E:XK} {x:Str} {p pos:Pos} {e:Expr} {es:List Expr} {t:TA}
def GH(F:ao X.prog X.w X.K X.mg X.base CX k x ps sp)(hr:bz k X.A)(hg:Gl X x)(hx:Passes CX X E)(ha:PA X (e::es) t)(h1:autoParam (eG e=true) ℜ0)(h2:autoParam (es.all eG=true) ℜ0)(hdb:autoParam ((x ==("__debug__":Str))=false) ℜ1):
  PE X (.Call (.Name x p) (e::es) [] pos) (gY sp [] E t):=by
 obtain⟨f,fd,m,kp,b,G⟩:=F.ex;exact Bq G hr hg m kp b .nil hx ha hdb (cC h1) (plain_any h2)
def DF(F:ao X.prog X.w X.K X.mg X.base CX k x ps sp)(hr:bz k X.A)(hg:Gl X x)(hx:Passes CX X E)(hdb:autoParam ((x ==("__debug__":Str))=false) ℜ1):
  PE X (.Call (.Name x p) [] [] pos) (gY sp [] E j9):=by
 obtain⟨f,fd,m,kp,b,G⟩:=F.ex;exact x6 G hr hg m kp b .nil hx hdb
end
noncomputable def Ft:Expr->Option V
 |.Constant (.int i) _ _=>some (.int i)
 |.Constant (.str x) _ _=>some (.str x)
 |.Constant (.bool b) _ _=>some (.bl b)
 |.Constant .none _ _=>some .aL
 |_=>none
def tH:List Expr->Option (List V)
 |[]=>some []
 |e::es=>match Ft e,tH es with
  |some v,some vs=>some (v::vs)
  |_,_=>none
def tK(vs:List V):TA:=λ_ H Q=>Q vs H
def DE{e:Expr}{v:V}(h:Ft e=some v):PE X e (tC v)/\∀es,starEach (e::es) X.env=(false,eval e X.env)::starEach es X.env:=by
 unfold Ft at h
 split at h
 ·cases h;exact⟨zW,λ_=>rfl⟩
 ·cases h;exact⟨yV,λ_=>rfl⟩
 ·cases h;exact⟨CP,λ_=>rfl⟩
 ·cases h;exact⟨yq,λ_=>rfl⟩
 ·cases h
theorem mE{X:Cx}:∀{es:List Expr} {vs:List V},tH es=some vs->PA X es (tK vs)
 |[],vs,h=>by cases h;exact wX
 |e::es,vs,h=>by
  unfold tH at h
  split at h
  ·rename_i v ws e1 e2;cases h;have p:=DE (X:=X) e1;exact uK (te:=tC v) (t:=tK ws) p.1 (mE e2) (p.2 es)
  ·cases h
noncomputable def sq(H:Hp)(p:Addr):Option (Bool×List V):=match H p with
 |some (.lst xs)=>some (true,xs)
 |some (.tup xs)=>some (false,xs)
 |some (.ik _ (.lst xs))=>some (true,xs)
 |some (.ik _ (.tup xs))=>some (false,xs)
 |_=>none
def gI(h:sq H p=some (true,xs)):bg K H p xs:=by
 unfold sq at h
 split at h
 ·rename_i e;cases h;exact .inl (.inl e)
 ·cases h
 ·rename_i e;cases h;exact .inl (.inr ⟨_,e⟩)
 ·cases h
 ·cases h
def gh(h:sq H p=some (false,xs)):bq K H p xs:=by
 unfold sq at h
 split at h
 ·cases h
 ·rename_i e;cases h;exact .inl (.inl e)
 ·cases h
 ·rename_i e;cases h;exact .inl (.inr ⟨_,e⟩)
 ·cases h
def r6{b:Bool}(h:sq H p=some (b,xs)):bg K H p xs\/bq K H p xs:=by
 cases b with
 |true=>exact .inl (gI h)
 |false=>exact .inr (gh h)
def ar(h:H p=some (.lst xs)):sq H p=some (true,xs):=by unfold sq;rw[h]
def aF(h:H p=some (.tup xs)):sq H p=some (false,xs):=by unfold sq;rw[h]
section
variable {X:Cx}
def vI(K:W.Frag):R2:=λx y H Q=>match x,y with
 |.int i,.int j=>Q (.int (i+j)) H
 |.str i,.str j=>i.length+j.length<=sizeLine/\Q (.str (i++j)) H
 |.ref a,.ref b=>match H a,H b with
  |some (.lst xs),some (.lst ys)=>xs.length+ys.length<=sizeLine/\∀p,H p=none->Q (.ref p) (upd H p (.lst (xs++ys)))
  |some (.tup xs),some (.tup ys)=>xs≠[]/\ys≠[]/\xs.length+ys.length<=sizeLine/\∀p,H p=none->Q (.ref p) (upd H p (.tup (xs++ys)))
  |_,_=>False
 |_,_=>False
def C4:cY X (binaryOp .Add) (vI X.K):=by
 intro pins s σ H x y v u Q I rx ry h
 cases x with
 |int i=>cases y with
  |int j=>exact yj pins s σ H _ _ v u Q I rx ry ⟨i,j,rfl,rfl,h⟩
  |_=>exact (show False from h).elim
 |str i=>cases y with
  |str j=>exact lI pins s σ H _ _ v u Q I rx ry ⟨i,j,rfl,rfl,h.1,h.2⟩
  |_=>exact (show False from h).elim
 |ref a=>cases y with
  |ref b =>
   unfold vI at h;simp only at h
   split at h
   ·rename_i xs ys e1 e2;exact yt pins s σ H _ _ v u Q I rx ry ⟨a,b,xs,ys,rfl,rfl,e1,e2,h.1,h.2⟩
   ·rename_i xs ys e1 e2;obtain⟨h1,h2,h3,h4⟩:=h;exact tG pins s σ H _ _ v u Q I rx ry ⟨a,b,xs,ys,rfl,rfl,bq.of e1,bq.of e2,h1,h3,λz=>absurd z h2,λ_=>h4⟩
   ·exact h.elim
  |_=>exact (show False from h).elim
 |_=>exact (show False from h).elim
def EX:R2:=λx y H Q=>match x,y with
 |.int i,.int j=>ze i j/\Q (.int (i*j)) H
 |.ref a,.int j=>GB (.ref a) (.int j) H Q
 |_,_=>False
def cF:cY X (binaryOp .Mult) EX:=by
 intro pins s σ H x y v u Q I rx ry h
 cases x with
 |int i=>cases y with
  |int j=>exact Fc pins s σ H _ _ v u Q I rx ry ⟨i,j,rfl,rfl,h.1,h.2⟩
  |_=>exact (show False from h).elim
 |ref a=>cases y with
  |int j=>exact D_ pins s σ H _ _ v u Q I rx ry h
  |_=>exact (show False from h).elim
 |_=>exact (show False from h).elim
def aW:cY X (compareOp .Eq) FQ:=FV
def wY:cY X (compareOp .NotEq) HR:=Hz
def Gr(K:W.Frag)(neg:Bool):R2:=λx y H Q=>match y with
 |.str j=>∃i,x=.str i/\Q (.bl (if neg then !(!(Builtin.Str.occurrences j i 0 j.length 1).isEmpty) else !(Builtin.Str.occurrences j i 0 j.length 1).isEmpty)) H
 |.ref p=>match sq H p with
  |some (_,xs)=>d7 x=true/\xs.all d7=true/\Q (.bl (if neg then !iL x xs else iL x xs)) H
  |none=>∃xs,bq K H p xs/\d7 x=true/\xs.all d7=true/\Q (.bl (if neg then !iL x xs else iL x xs)) H
 |_=>False
def Fq{neg:Bool}{x:V}{Q:VK}(h:Gr K neg x (.ref p) H Q):HZ K neg x (.ref p) H Q:=by
 unfold Gr at h;simp only at h
 split at h
 ·rename_i xs e;exact⟨p,_,rfl,r6 e,h.1,h.2.1,h.2.2⟩
 ·obtain⟨xs,hq,h⟩:=h;exact⟨p,xs,rfl,.inr hq,h.1,h.2.1,h.2.2⟩
def Fm(hu:k<cLine):cY X (compareOp .In) (Gr X.K false):=by
 intro pins s σ H x y v u Q I rx ry h
 match y,h with
 |.str j,h =>
  obtain⟨i,rfl,h'⟩:=h;exact vE pins s σ H _ _ v u Q I rx ry ⟨i,j,rfl,rfl,h'⟩
 |.ref p,h=>exact nv pins s σ H _ _ v u Q I rx ry (Fq h)
def Ax(K:W.Frag):R2:=λx y H Q=>match x,y with
 |.str z,.int i=>z.length<=sizeLine/\(match bI z.cps.toList i with|some c=>Q (.str ⟨#[c]⟩) H|none=>False)
 |.ref p,.int i=>match sq H p with
  |some (_,xs)=>(match bI xs i with|some v=>Q v H|none=>False)
  |none=>∃xs v,bq K H p xs/\bI xs i=some v/\Q v H
 |_,_=>False
def Jh(hu:k<cLine):vv X (Ax X.K):=by
 intro value slice pins s σ H x y v u Q I rx ry h hs;refine FE value slice pins s σ H x y v u Q I rx ry ?_ hs
 cases x with
 |str z=>cases y with
  |int i =>
   obtain⟨hz,h⟩:=h
   split at h
   ·rename_i c e;exact .inr (.inr ⟨z,i,c,rfl,rfl,hz,e,h⟩)
   ·exact h.elim
  |_=>exact (show False from h).elim
 |ref p=>cases y with
  |int i =>
   unfold Ax at h;simp only at h
   split at h
   ·rename_i b xs e
    split at h
    ·rename_i w' e'
     cases b with
     |true=>exact .inl ⟨p,xs,i,w',rfl,rfl,gI e,e',h⟩
     |false=>exact .inr (.inl ⟨p,xs,i,w',rfl,rfl,gh e,e',h⟩)
    ·exact h.elim
   ·obtain⟨xs,w',hq,e',h⟩:=h;exact .inr (.inl ⟨p,xs,i,w',rfl,rfl,hq,e',h⟩)
  |_=>exact (show False from h).elim
 |_=>exact (show False from h).elim
def HW(K:W.Frag):V->Option Int->Option Int->Hp->VK->Prop:=λx lo hi H Q=>match x with
 |.ref p=>match sq H p with
  |some (true,xs)=>∀q,H q=none->Q (.ref q) (upd H q (.lst (dC xs lo hi)))
  |some (false,xs)=>sM K (.ref p) lo hi H Q
  |none=>sM K (.ref p) lo hi H Q
 |_=>False
def C3:uE X (HW X.K):=by
 intro pins s σ H x v vl vu lo hi sl Q I rx hs pl pu h
 match x,h with
 |.ref p,h =>
  unfold HW at h;simp only at h
  split at h
  ·rename_i xs e;exact nQ pins s σ H _ v vl vu lo hi sl Q I rx hs pl pu ⟨p,xs,rfl,gI e,h⟩
  ·exact rh pins s σ H _ v vl vu lo hi sl Q I rx hs pl pu h
  ·exact rh pins s σ H _ v vl vu lo hi sl Q I rx hs pl pu h
def zg:V->V->V->Hp->(Hp->Prop)->Prop:=λo i v H Q=>match o,i with
 |.ref p,.int k=>match H p with
  |some (.lst xs)=>(match iY xs.length k with|some j=>Q (upd H p (.lst (xs.set j v)))|none=>False)
  |_=>False
 |_,_=>False
def uset:DJ X zg:=by
 intro pins s σ H o i v ov iv u Q I ro ri rv h
 cases o with
 |ref p=>cases i with
  |int k =>
   unfold zg at h;simp only at h
   split at h
   ·rename_i xs e
    split at h
    ·rename_i j e';exact set_list pins s σ H _ _ v ov iv u Q I ro ri rv ⟨p,xs,k,j,rfl,rfl,e,e',h⟩
    ·exact h.elim
   ·exact h.elim
  |_=>exact (show False from h).elim
 |_=>exact (show False from h).elim
def zO(K:W.Frag):List V->Hp->VK->Prop:=λxs H Q=>match xs with
 |[.str y]=>y.length<=sizeLine/\Q (.int y.length) H
 |[.ref p]=>match sq H p with
  |some (_,ys)=>Q (.int ys.length) H
  |none=>∃ys,bq K H p ys/\Q (.int ys.length) H
 |_=>False
def vb:aZ X (.builtin "len") (zO X.K):=by
 intro pins s σ H xs us Q I r h;rcases xs with _|⟨x,_|⟨y,xs⟩⟩
 ·exact (show False from h).elim
 rotate_left
 ·cases x<;>exact (show False from h).elim
 cases x with
 |str y=>exact iy pins s σ H _ us Q I r ⟨.str y,_,rfl,⟨h.1,rfl⟩,h.2⟩
 |ref p =>
  unfold zO at h;simp only at h
  split at h
  ·rename_i b ys e;refine iy pins s σ H _ us Q I r ⟨.ref p,ys.length,rfl,?_,h⟩
   cases b with
   |true=>exact .inl ⟨ys,gI e,rfl⟩
   |false=>exact .inr ⟨ys,gh e,rfl⟩
  ·obtain⟨ys,hq,h⟩:=h;exact iy pins s σ H _ us Q I r ⟨.ref p,ys.length,rfl,.inr ⟨ys,hq,rfl⟩,h⟩
 |_=>exact (show False from h).elim
def GA:List V->Hp->VK->Prop:=λxs H Q=>match xs with
 |[.int i,.int j]=>Q (.int (if j<i then j else i)) H
 |_=>False
def iX(hc:X.calm=true):aZ X (.builtin "min") GA:=by
 intro pins s σ H xs us Q I r h;rcases xs with _|⟨x,_|⟨y,_|⟨z,xs⟩⟩⟩
 ·exact (show False from h).elim
 ·cases x<;>exact (show False from h).elim
 ·cases x with
  |int i=>cases y with
   |int j=>exact vY hc pins s σ H _ us Q I r ⟨i,j,rfl,h⟩
   |_=>exact (show False from h).elim
  |_=>exact (show False from h).elim
 ·cases x with
  |int i=>cases y<;>exact (show False from h).elim
  |_=>exact (show False from h).elim
def nJ(K:W.Frag):List V->Hp->VK->Prop:=λxs H Q=>match xs with
 |[.ref p]=>match sq H p with
  |some (true,ys)=>∀l,H l=none->Q (.ref l) (upd H l (.tup ys))
  |some (false,_)=>Q (.ref p) H
  |none=>∃ys,bq K H p ys/\Q (.ref p) H
 |_=>False
def qK:aZ X (.type "tuple") (nJ X.K):=by
 intro pins s σ H xs us Q I r h;rcases xs with _|⟨x,_|⟨y,xs⟩⟩
 ·exact (show False from h).elim
 rotate_left
 ·cases x<;>exact (show False from h).elim
 cases x with
 |ref p =>
  unfold nJ at h;simp only at h
  split at h
  ·rename_i ys e;exact fj pins s σ H _ us Q I r ⟨p,ys,rfl,.inl ⟨gI e,h⟩⟩
  ·rename_i ys e;exact fj pins s σ H _ us Q I r ⟨p,ys,rfl,.inr ⟨gh e,h⟩⟩
  ·obtain⟨ys,hq,h⟩:=h;exact fj pins s σ H _ us Q I r ⟨p,ys,rfl,.inr ⟨hq,h⟩⟩
 |_=>exact (show False from h).elim
def GP:List V->Hp->VK->Prop:=λxs H Q=>match xs with
 |[.int i]=>Q (.int i) H
 |[.bl k]=>Q (.int (if k=true then 1 else 0)) H
 |_=>False
def mL:aZ X (.type "int") GP:=by
 intro pins s σ H xs us Q I r h;rcases xs with _|⟨x,_|⟨y,ys⟩⟩
 ·exact (show False from h).elim
 ·cases x with
  |int i=>exact mT pins s σ H _ us Q I r (.inl ⟨i,rfl,h⟩)
  |bl k=>exact mT pins s σ H _ us Q I r (.inr ⟨k,rfl,h⟩)
  |_=>exact (show False from h).elim
 ·cases x<;>exact (show False from h).elim
def Hw:List V->Hp->VK->Prop:=λxs H Q=>match xs with
 |[.int i]=>i.natAbs.log2<1920/\Q (.str (toString i)) H
 |[.str z]=>Q (.str z) H
 |_=>False
def vi:aZ X (.type "str") Hw:=by
 intro pins s σ H xs us Q I r h
 match xs,h with
 |[.int i],h=>exact oa pins s σ H _ us Q I r ⟨i,rfl,h.1,h.2⟩
 |[.str z],h =>
  obtain⟨u,rfl,t,rfl⟩:=vals1 r;exact PySem.P.str_of_str ⟨.str z,H,I,⟨_,rfl⟩,h⟩
def vP(hc:X.calm=true):aZ X (.builtin "sum") (λxs H Q=>∃(p:Addr) (ns:List Int),xs=[.ref p]/\bg X.K H p (ns.map V.int)/\Q (.int ns.sum) H):=by
 intro pins s σ H xs us Q I r h;obtain⟨p,ns,rfl,hq,q⟩:=h;obtain⟨u,rfl,ru⟩:=vals1 r;cases ru;obtain⟨its,rv,pl,hz⟩:=I.list hq;have hi:=intsAre_of rv;obtain⟨xs,hx⟩:=hi.allInts.items;have hl':s.heap.IsList p (intItems xs):=by rw[<- hx];exact pl.isList
 refine sum_intListG (I.ok.hd hc) hl' λh' tk t' hk=>?_;have e1:ns=xs.toList.map (·.1):=by rw[<- nums_intItems,<- hx];exact hi.numsOf.symm
 have e2:preSum (numAt xs) xs.size=ns.sum:=by rw[preSum_eq,Kw (by simp),e1]
 rw[e2];exact⟨.int ns.sum,H,I.kept hk,⟨_,rfl⟩,q⟩
noncomputable def Ei(H:Hp):V->Option String
 |.aL=>some "NoneType"
 |.bl _=>some "bool"
 |.int _=>some "int"
 |.str _=>some "str"
 |.ref a=>match H a with
  |some (.lst _)=>some "list"
  |some (.tup _)=>some "tuple"
  |some (.dK _)=>some "dict"
  |_=>none
 |_=>none
def Fy{x:V}{t:String}(h:Ei H x=some t):h_ K H x (.type t):=by
 unfold Ei at h
 split at h
 ·cases h;exact .aL
 ·cases h;exact .bl _
 ·cases h;exact .int _
 ·cases h;exact .str _
 ·split at h
  ·rename_i e;cases h;exact .lst e
  ·rename_i e;cases h;exact .tup e
  ·rename_i e;cases h;exact .dK e
  ·cases h
 ·cases h
noncomputable def iE(t c:String):Bool:=decide (t=c) || (t == "bool" && c == "int")
def xS{t c:String}(ht:t∈["NoneType","bool","int","str","list","tuple","dict"])(hc:c∈["bool","int","str","list","tuple","dict"]):W.kitOne K (.type t) (.type c)=some (iE t c):=by
 simp only[Jw,JO,Kn] at ht hc;rcases ht with rfl|rfl|rfl|rfl|rfl|rfl|rfl<;>rcases hc with rfl|rfl|rfl|rfl|rfl|rfl<;>rfl
def Ec{x:V}{t:String}(h:Ei H x=some t):t∈["NoneType","bool","int","str","list","tuple","dict"]:=by
 unfold Ei at h
 split at h
 ·cases h;decide
 ·cases h;decide
 ·cases h;decide
 ·cases h;decide
 ·split at h
  ·cases h;decide
  ·cases h;decide
  ·cases h;decide
  ·cases h
 ·cases h
def Du(K:W.Frag):List V->Hp->VK->Prop:=λxs H Q=>match xs with
 |[x,.ty T]=>T∈["bool","int","str","list","tuple","dict"]/\match Ei H x with
  |some t=>Q (.bl (iE t T)) H
  |none=>∃t b,h_ K H x t/\W.kitOne K t (.type T)=some b/\Q (.bl b) H
 |_=>False
def vq:aZ X (.builtin "isinstance") (Du X.K):=by
 intro pins s σ H xs us Q I r h;rcases xs with _|⟨x,_|⟨y,_|⟨z,xs⟩⟩⟩
 ·exact (show False from h).elim
 ·exact (show False from h).elim
 rotate_left
 ·cases y<;>exact (show False from h).elim
 cases y with
 |ty T =>
  obtain⟨u,w',rfl,r1,r2⟩:=vals2 r;cases r2;obtain⟨hT,h⟩:=h
  split at h
  ·rename_i t e;exact mI I r1 (Fy e) (xS (Ec e) hT) λtk=>⟨.bl _,H,I.tok _,rfl,h⟩
  ·obtain⟨t,b,ty,k,q⟩:=h;exact mI I r1 ty k λtk=>⟨.bl b,H,I.tok _,rfl,q⟩
 |_=>exact (show False from h).elim
def Fg{T:String}{pos:Pos}(hg:Gl X x)(hm:X.mg x=none)(hv:bootBuiltins x=some (.type T))(hn:autoParam (x≠"__name__") ℜ1)(hd:autoParam ((x ==("__debug__":Str))=false) ℜ1):PE X (.Name x pos) (tC (.ty T)):=B5 hg hm hv rfl hn hd
def rJoin(K:W.Frag):V->List V->Hp->VK->Prop:=λx vs H Q=>∃z l ys,x=.str z/\vs=[.ref l]/\bg K H l (ys.map V.str)/\(ys.map (·.length)).sum+ys.length*z.length<=16777216/\Q (.str (Str.join z ys)) H
theorem lG:∀{ys:List Str} {us:List Value},Vals (ys.map V.str) us->StrsAre us ys
 |[],_,.nil=>.nil
 |y::ys,_,.cons r t=>by
  obtain⟨k,rfl⟩:=r;exact .cons y k (lG t)
def BF:wJ X "str.join" (rJoin X.K):=by
 intro pins s σ H x xs v us Q I rx rs h;obtain⟨z,l,ys,rfl,rfl,hq,hz,q⟩:=h;obtain⟨t,rfl⟩:=rx;obtain⟨u,rfl,ru⟩:=vals1 rs;cases ru;obtain⟨its,rv,pl,_⟩:=I.list hq;refine join_list pl.isList (by simpa using lG rv) hz λt' k=>?_
 have e:Txt.join z ys=Str.join z ys:=StrLaws.glued_eq_join z ys;rw[e];exact⟨.str _,H,I.tok _,⟨_,rfl⟩,q⟩
end
section
variable {X:Cx} {e:Expr} {te:TE}
theorem tW(p:Nat->Bool):∀(l:List Nat),l.drop (l.takeWhile p).length=l.dropWhile p
 |[]=>rfl
 |x::l=>by
  by_cases h:p x
  ·simp[List.takeWhile_cons,M_,h,tW p l]
  ·simp[List.takeWhile_cons,M_,h]
end
open AutoSeq1 (wpAny_loadPart')
section
variable {prog:Program} {w:World} {A:Around} {E:Value->Shared->Prop} {s:Shared}
def jD{l:Addr}{x:Value}{Q:Value->Shared->Prop}(hit:s.heap.IsTupleIter it l i)(hl:s.heap.IsTuple l items)(hx:items[i]?=some x)
  (hQ:∀h',h'.IsTupleIter it l (i+1)->Heap.SameBut it s.heap h'->Q x {s with heap:=h'}):wpAny (model prog w) A (Builtin.SmallTypes.nextOf (.ref it)) Q E s:=by
 obtain⟨o,ho,hc,hd⟩:=id hit;obtain⟨ol,hol,_,nl,hdl⟩:=hl;unfold Builtin.SmallTypes.nextOf;refine Js (K2 (name:=Str.ofString "__next__") hit.typeIs LF (K9 LF hit.typeIs Ng ?_ (Nc _)));show wpAny _ _ (field (.ref it) 0 >>= _) _ _ s;refine Js (Lg ho hd (x:=.ref l) rfl ?_);show wpAny _ _ (if (Value.ref l == Value.none)=true then _ else _) _ _ s
 rw[Jy (show ¬ ((Value.ref l == Value.none)=true) from JF)];show wpAny _ _ (field (.ref it) 1 >>= _) _ _ s;refine Js (Lg ho hd (x:=.int i 0) rfl ?_);show wpAny _ _ (seqItems? (.ref l) >>= _) _ _ s;refine Js (M5 hol hdl ?_);simp only[JW,hx];refine Js (M6 ho hd (by simp) (J9 ⟨x,rfl,J9 (hQ _ ?_ (KU ..))⟩))
 exact⟨_,LC _ ho (MJ (LY hd _)),(Obj.cls_mapFields ..).trans hc,by rw[LY hd];simp[rawInt]⟩
def lX{l:Addr}{Q:Value->Shared->Prop}(hh:A.handled=none)(hit:s.heap.IsTupleIter it l i)(hl:s.heap.IsTuple l items)(hx:items[i]?=none)
  (hE:∀h' e,Heap.ExtBut it s.heap h'->(∃o,h'.get? e=some o/\o.cls=.type "StopIteration")->E (.ref e) {s with heap:=h'}):wpAny (model prog w) A (Builtin.SmallTypes.nextOf (.ref it)) Q E s:=by
 obtain⟨o,ho,hc,hd⟩:=id hit;obtain⟨ol,hol,_,nl,hdl⟩:=hl;unfold Builtin.SmallTypes.nextOf;refine Js (K2 (name:=Str.ofString "__next__") hit.typeIs LF (K9 LF hit.typeIs Ng ?_ (Nc _)));show wpAny _ _ (field (.ref it) 0 >>= _) _ _ s;refine Js (Lg ho hd (x:=.ref l) rfl ?_);show wpAny _ _ (if (Value.ref l == Value.none)=true then _ else _) _ _ s
 rw[Jy (show ¬ ((Value.ref l == Value.none)=true) from JF)];show wpAny _ _ (field (.ref it) 1 >>= _) _ _ s;refine Js (Lg ho hd (x:=.int i 0) rfl ?_);show wpAny _ _ (seqItems? (.ref l) >>= _) _ _ s;refine Js (M5 hol hdl ?_);simp only[JW,hx];refine Js (Oz (Js (M6 ho hd (by simp) ?_)))
 show wpAny _ _ (newExc (.type "StopIteration") [] >>= _) _ _ _;refine Js ?_;simp only[newExc,newTuple];refine Js (KR ?_ (by size_fits))
 refine Js (m:=firstArgMember _ _) (wpAny_of_eq (a:=Value.none) (by first|rfl | (simp only[firstArgMember];rfl)) ?_)
 refine KR ?_ (by size_fits)
 simp only[raiseNew];refine Js (wpAny_handled ?_)
 first|rw[show A.in1.handled=none from hh]|rw[hh]
 refine Js (J9 (wpAny_throw ?_));exact hE _ _ (((KU ..).extBut.push _).push _) ⟨_,JK _ rfl,rfl⟩
def iO(hh:A.handled=none)(it l:Addr)(hne:l≠it)(items:Array Value):
  Draws prog w A it [it,l] items.size (λi v=>items[i]?=some v) (λi h=>h.IsTupleIter it l i/\h.IsTuple l items) where
 live:=λ_ _ st=>let ⟨o,ho,_⟩:=st.1;⟨o,ho⟩
 frame:=λ_ _ _ st hk=>⟨let ⟨o,e,r⟩:=st.1;⟨o,hk it (by simp) o e,r⟩,let ⟨o,e,r⟩:=st.2;⟨o,hk l (by simp) o e,r⟩⟩
 item:=λi s Q E hi st hQ=>by
  refine jD st.1 st.2 (x:=items[i]) (by simp[hi]) λh' hit' hs'=>?_
  exact hQ _ h' s.toks (by simp[hi]) ⟨hit',st.2.extBut hs'.extBut hne⟩ hs'
 done:=λs Q E st hE=>lX hh st.1 st.2 (by simp) hE
def ku(l:Addr)(items:Array Value)(n:Nat)(dct:Option Addr)(sl:Array (Option Value)):
  Meets (Builtin.«enumerate.__new__» ⟨[.type "enumerate",.ref l],[]⟩) (λ_ R s=>s.heap.get? l=some {cls:=.type "tuple",dict:=dct,data:=.seq items n,slots:=sl} /\
   R (.ok (.ret (.ref (s.heap.push {cls:=.type "tuple_iterator",data:=.fields #[.ref l,.int 0 0]}).objs.size)))
    {s with heap:=(s.heap.push {cls:=.type "tuple_iterator",data:=.fields #[.ref l,.int 0 0]}).push {cls:=.type "enumerate",data:=.fields #[.none,.bool false,.ref s.heap.objs.size,rawInt 0,.none,.none]}}):=
 .of_wp λprog w A R s h=>by
  obtain⟨hp,g,d,tk,os⟩:=s;obtain⟨hl,h⟩:=h;have hsub:=sub_enumerate;have hL:Heap.IsTuple (Shared.heap ⟨hp,g,d,tk,os⟩) l items:=⟨_,hl,rfl,n,rfl⟩;wp_walk using MR hl;refine wpAny_stack_any λst=>J9 ?_;split
  ·rename_i c _ _ _ _ _
   cases (c == Value.type "enumerate")<;>(wp_walk using MR hl,Mz hL;exact⟨_,rfl,h⟩)
  ·wp_walk using MR hl,Mz hL;exact⟨_,rfl,h⟩
def mf{l:Addr}{Q:Value->Shared->Prop}(hL:s.heap.IsTuple l items)
  (h:∀h',IsEnum h' (s.heap.objs.size+1) s.heap.objs.size 0 .none->h'.IsTupleIter s.heap.objs.size l 0->h'.objs.size=s.heap.objs.size+2 ->
   (∀b o,s.heap.get? b=some o->h'.get? b=some o)->Q (.ref (s.heap.objs.size+1)) {s with heap:=h'}) :
  wpAny (model prog w) A (call (.type "enumerate") [.ref l]) Q E s:=by
 obtain⟨⟨c,dct,dt,sl⟩,hl,hc,n,hd⟩:=hL
 replace hc:c=.type "tuple":=hc
 replace hd:dt=.seq items n:=hd
 subst hc hd;refine O5 F.called_enumerate (by decide) (F.typeCall_enumerate_1 _) (F.newCall_enumerate_1 _) (λobj=>F.args_object_init_2 obj _) F.entry_enumerate_new (ku l items n dct sl) ⟨hl,?_⟩
 have hz:(s.heap.push {cls:=.type "tuple_iterator",data:=.fields #[.ref l,.int 0 0]}).objs.size=s.heap.objs.size+1:=KC ..;show _/\_;rw[hz];have he:IsEnum ((s.heap.push {cls:=.type "tuple_iterator",data:=.fields #[.ref l,.int 0 0]}).push {cls:=.type "enumerate",data:=.fields #[.none,.bool false,.ref s.heap.objs.size,rawInt 0,.none,.none]}) (s.heap.objs.size+1) s.heap.objs.size 0 .none:=by
  have:=JK (s.heap.push {cls:=.type "tuple_iterator",data:=.fields #[.ref l,.int 0 0]}) (o:={cls:=.type "enumerate",data:=.fields #[.none,.bool false,.ref s.heap.objs.size,rawInt 0,.none,.none]}) rfl;rw[hz] at this;exact this
 refine⟨⟨_,he,rfl⟩,h _ he ⟨_,J5 _ (JK _ rfl),rfl,rfl⟩ (by rw[KC,hz]) λb o x=>J5 _ (J5 _ x)⟩
end
section
variable {X:Cx} {pins:List (Addr×Obj)} {σ:St} {H:Hp} {s:Shared} {h':Heap}
def Inv.turns{t':Nat}(I:Inv X pins σ H s)(hf:∀b∈fp,m3 X pins H b)(k:∀b o,b∉fp->s.heap.get? b=some o->h'.get? b=some o):Inv X pins σ H {s with heap:=h',toks:=t'}:=by
 have nf:∀b u,H b=some u->b∉fp:=λb u e z=>by rw[(hf b z).1] at e;cases e
 refine I.step (g':=s.gens) (d':=s.drawn) (ch:=fp) (λb hb=>?_) (λb o _ _ hc e _=>k b o hc e) (λb o _ _ hc e _=>⟨o.slots,k b o hc e⟩) (λ_ _ _ _ n=>n)
  (λb o hc e=>⟨o,k b o hc e⟩) (λ_ _ e=>e) (λ_ _ _ e=>e) (λb ps e=>⟨#[],by rw[e];simp⟩) (λm hm=>?_) (λb u e=>?_) I.bare
 ·obtain⟨_,g1,g2,g3,g4,g5⟩:=hf b hb;exact⟨g3,g1,g4,g5⟩
 ·obtain⟨o,es,ep,ho,r⟩:=hm;exact⟨o,es,ep,k _ o (λz=>(hf _ z).2.1 rfl) ho,r⟩
 ·refine (I.aP b u e).jI (λc v hc q=>k c v ?_ q) (λ_ q=>q) (λ_ _ q=>q) λ_ _ _ q=>q;rcases hc with z|z
  ·rw[z];exact nf b u e
  ·exact nf c _ z
def Inv.oC{t':Nat}(I:Inv X pins σ H s)(hf:∀b∈fp,m3 X pins H b)(hp:s.heap.objs.size<=p)(k:∀b o,b∉fp->s.heap.get? b=some o->h'.get? b=some o)
  (new:b7 X.prog X.w (upd H p o) h' p o):Inv X pins σ (upd H p o) {s with heap:=h',toks:=t'}:=by
 have nf:∀b u,H b=some u->b∉fp:=λb u e z=>by rw[(hf b z).1] at e;cases e
 have fr:H p=none:=I.aP.fresh hp;have np:∀b u,H b=some u->b≠p:=λb u e=>af e fr;have ne:∀b o,s.heap.get? b=some o->b≠p:=λb o e z=>by rw[z] at e;exact absurd (JT (JL e) hp) (La _)
 refine I.step (g':=s.gens) (d':=s.drawn) (ch:=fp) (λb hb=>?_) (λb o _ _ hc e _=>k b o hc e) (λb o _ _ hc e _=>⟨o.slots,k b o hc e⟩) (λb o _ e n=>by rw[ak (ne b o e)];exact n)
  (λb o hc e=>⟨o,k b o hc e⟩) (λb xs e=>by rw[ak (np b _ e)];exact e) (λb o u e=>by rw[ak (np b _ e)];exact e) (λb ps e=>⟨#[],by rw[ak (np b _ e),e];simp⟩) (λm hm=>?_) (λb u e=>?_) I.bare
 ·obtain⟨_,g1,g2,g3,g4,g5⟩:=hf b hb;exact⟨g3,g1,g4,g5⟩
 ·obtain⟨o,es,ep,ho,r⟩:=hm;exact⟨o,es,ep,k _ o (λz=>(hf _ z).2.1 rfl) ho,r⟩
 ·by_cases hb:b=p
  ·subst hb;rw[aa] at e;cases e;exact new
  ·rw[ak hb] at e;refine (I.aP b u e).jI (λc v hc q=>k c v ?_ q) (λc q=>by rw[ak (np c _ q)];exact q) (λc xs q=>by rw[ak (np c _ q)];exact q) λc _ _ q=>by rw[ak (np c _ q)];exact q
   rcases hc with z|z
   ·rw[z];exact nf b u e
   ·exact nf c _ z
end
def getL(K:W.Frag)(a:Addr):Nat->Hp->V->Prop:=λi H x=>∃xs,bg K H a xs/\xs[i]?=some x
def Ic(K:W.Frag)(a:Addr):Nat->Hp->V->Prop:=λi H x=>∃xs,bq K H a xs/\xs[i]?=some x
def IM(K:W.Frag)(a:Addr):Nat->Hp->Prop:=λi H=>∃xs,bg K H a xs/\xs.length=i
def IQ(K:W.Frag)(a:Addr):Nat->Hp->Prop:=λi H=>∃xs,bq K H a xs/\xs.length=i
def A_(K:W.Frag)(a:Addr):It:=
 ⟨λi H=>∃x,Ic K a i H x,λi H x H'=>∃p y,(∀xs,bq K H a xs->xs[i]?=some y)/\H p=none/\x=.ref p/\H'=upd H p (.tup [.int i,y]),IQ K a⟩
def rl{tk:Nat}{tp:Pos}(a it e:Addr)(hne:e≠it):Turn P w K (.Tuple es tk tp) (A_ K a) [e,it] e (λi h=>(∃old,IsEnum h e it i old)/\h.IsTupleIter it a i) where
 mem:=by simp
 obj:=λi h st b hb=>by
  obtain⟨⟨old,he⟩,o,eo,c,d⟩:=st;rcases Jw.mp hb with z|z
  ·subst z;exact⟨_,he,λv z=>by cases z⟩
  ·have z:b=it:=by simpa using z
   subst z;exact⟨o,eo,λv z=>by rw[d] at z;cases z⟩
 keep:=λi h h' st k=>by
  obtain⟨⟨old,he⟩,o,eo,r⟩:=st;exact⟨⟨old,k e (by simp) _ he⟩,o,k it (by simp) o eo,r⟩
 item:=by
  intro X hP hw hK hc i pins s σ H E I hf st hg;subst hP hw hK;obtain⟨x,xs,hq,hx⟩:=hg;obtain⟨⟨old,he⟩,hit⟩:=st;obtain⟨its,rv,p,hz⟩:=I.tuple hq;obtain⟨u,hu,ru⟩:=rv.get hx;obtain⟨g0,g1,g2,g3,g4,g5⟩:=hf e (by simp)
  obtain⟨f0,f1,f2,f3,f4,f5⟩:=hf it (by simp)
  have ht:s.heap.IsTuple a its.toArray:=p;have ha:a≠it:=by
   rintro rfl;obtain⟨o,e1,c1,_⟩:=hit;obtain⟨o',e2,c2,_⟩:=ht;rw[e1] at e2;cases e2;rw[c1] at c2;exact absurd (Value.type.inj c2) (by decide)
  have hea:e≠a:=by
   rintro rfl;obtain⟨o',e2,c2,_⟩:=ht;have e1:s.heap.get? e=some _:=he;rw[e1] at e2;cases e2;exact absurd (Value.type.inj c2) (by decide)
  have hi:i<its.toArray.size:=by
   have:=(Ju.mp hu).1
   simpa using this
  refine NL (iO (A:=X.A.in1) (I.ok.hd hc) it a ha its.toArray) he ⟨hit,ht⟩ hi hne (by simp[hne,hea]) λx' h' tk' hP ho hs' hT hsz hk=>?_
  have ex:x'=u:=by
   have hP':its.toArray[i]?=some x':=hP;rw[K0,hu] at hP';exact (Option.some.inj hP').symm
  subst ex;refine⟨.ref s.heap.objs.size,rfl,Np ho λh2 he2 hs2=>?_⟩;have fr:H s.heap.objs.size=none:=I.aP.fresh (J8 _);have hle:e≠s.heap.objs.size:=JU (JL he);have hT2:h2.get? s.heap.objs.size=some {cls:=.type "tuple",data:=.seq #[.int i tk',x']}:=(hs2.2 _ (KA hle)).trans hT;have I2:Inv X pins σ (upd H s.heap.objs.size (.tup [.int i,x])) {s with heap:=h2,toks:=tk'+1}:=by
   refine I.oC (fp:=[e,it]) hf (J8 _) (λb o hb eb=>?_) ⟨by show 2<=sizeLine;decide,[.int i tk',x'],.cons ⟨_,rfl⟩ (.cons ru .nil),⟨_,hT2,rfl,_,rfl,rfl⟩⟩
   have n1:b≠e:=λz=>hb (by simp[z])
   have n2:b≠it:=λz=>hb (by simp[z])
   exact (hs2.2 b n1).trans (hk b o n1 n2 eb)
  refine⟨.ref s.heap.objs.size,_,I2,rfl,⟨s.heap.objs.size,x,λys hy=>by rw[I.iT hy hq];exact hx,fr,rfl,rfl⟩,⟨⟨x',?_⟩,?_⟩,λb hb=>?_⟩
  ·have e:(((i+1:Nat)):Int)=(i:Int)+1:=by lia
   rw[e];exact he2
  ·obtain⟨o,e1,r⟩:=hs'.1;exact⟨o,(hs2.2 it (KA hne)).trans e1,r⟩
  ·have n:b≠s.heap.objs.size:=by
    rcases Jw.mp hb with z|z
    ·subst z;exact hle
    ·have z:b=it:=by simpa using z
     subst z;obtain⟨o,e1,_⟩:=hit;exact JU (JL e1)
   rw[ak n];exact (hf b hb).1
 done:=by
  intro X hP hw hK hc i pins s σ H E I hf st hg;subst hP hw hK;obtain⟨xs,hq,hx⟩:=hg;obtain⟨⟨old,he⟩,hit⟩:=st;obtain⟨its,rv,p,hz⟩:=I.tuple hq;have ht:s.heap.IsTuple a its.toArray:=p;have ha:a≠it:=by
   rintro rfl;obtain⟨o,e1,c1,_⟩:=hit;obtain⟨o',e2,c2,_⟩:=ht;rw[e1] at e2;cases e2;rw[c1] at c2;exact absurd (Value.type.inj c2) (by decide)
  have hl:=rv.length;have hsz:its.toArray.size=i:=by simp;lia
  refine NZ (iO (A:=X.A.in1) (I.ok.hd hc) it a ha its.toArray) he (by rw[hsz];exact⟨hit,ht⟩) λh' eb=>⟨rfl,?_⟩
  exact I.turns (t':=s.toks) hf λb o hb e1=>eb b o (λz=>hb (by simp[z])) e1
 self:=λA i s Q E st h=>by
  obtain⟨⟨old,he⟩,_⟩:=st;exact M8 he h
section
variable {X:Cx} {es:List Expr} {tk:Nat} {tp:Pos}
def qa(K:W.Frag)(ta:TA):TI:=λσ H R=>ta σ H λvs H1=>∃a,vs=[.ref a]/\(∃xs,bq K H1 a xs)/\R (A_ K a) H1
def A2{e:Expr}{ta:TA}{p pos:Pos}(hg:Gl X "enumerate")(hm:X.mg "enumerate"=none)(ha:PA X [e] ta)(h1:autoParam (eG e=true) ℜ0)(hv:autoParam (bootBuiltins "enumerate"=some (.type "enumerate")) ℜ6):
  PI X (.Tuple es tk tp) (.Call (.Name "enumerate" p) [e] [] pos) (qa X.K ta):=by
 intro pins s σ H R I h;refine Call_ (fS I hg hm hv (KJ (bN (ha pos pins s σ H _ I h) λus s1 hq1=>?_) (cC h1) rfl));obtain⟨vs,H1,I1,r1,q1⟩:=hq1;obtain⟨a,e,⟨xs,hq⟩,q⟩:=q1;subst e;obtain⟨u,rfl,ru⟩:=vals1 r1;cases ru;obtain⟨its,rv,pt,hz⟩:=I1.tuple hq;refine mf (show s1.heap.IsTuple a its.toArray from pt) λh' he hit hsz hk=>?_;refine M8 he ?_;have I2:Inv X pins σ H1 {s1 with heap:=h'}:=I1.kept (t':=s1.toks) hk
 refine⟨s1.heap.objs.size+1,[s1.heap.objs.size+1,s1.heap.objs.size],_,_,H1,rfl,I2,rl a s1.heap.objs.size (s1.heap.objs.size+1) (L7 (Ly _)),⟨⟨_,he⟩,hit⟩,λb hb=>?_,q⟩;have hb':s1.heap.objs.size<=b:=by
  rcases Jw.mp hb with z|z
  ·rw[z];exact KQ _
  ·have z:b=s1.heap.objs.size:=by simpa using z
   rw[z];exact J8 _
 exact I1.vS hb' (I1.aP.fresh hb')
def zv(K:W.Frag)(tl:TE):TI:=λσ H R=>tl σ H λx H1=>match x with
 |.ref a=>match sq H1 a with
  |some (true,_)=>R (xW K a) H1
  |some (false,_)=>R (xl K a) H1
  |none=>(∃xs,bq K H1 a xs)/\R (xl K a) H1
 |_=>False
def E4{l:Expr}{tl:TE}(hl:PE X l tl):PI X tg l (zv X.K tl):=by
 intro pins s σ H R I h;refine bN (hl pins s σ H _ I h) λv s1 hq2=>?_;obtain⟨x,H1,I1,r1,q1⟩:=hq2;obtain⟨a,rfl,q⟩:∃a,x=V.ref a/\(((∃xs,bg X.K H1 a xs)/\R (xW X.K a) H1)\/((∃xs,bq X.K H1 a xs)/\R (xl X.K a) H1)):=by
  match x,q1 with
  |.ref a,q1 =>
   simp only at q1
   split at q1
   ·rename_i xs e;exact⟨a,rfl,.inl ⟨⟨xs,gI e⟩,q1⟩⟩
   ·rename_i xs e;exact⟨a,rfl,.inr ⟨⟨xs,gh e⟩,q1⟩⟩
   ·exact⟨a,rfl,.inr q1⟩
 cases r1;rcases q with ⟨⟨xs,hq⟩,q⟩|⟨⟨xs,hq⟩,q⟩
 ·obtain⟨its,rv,p,hz⟩:=I1.list hq;refine Nt p.isList ?_;refine⟨s1.heap.objs.size,[s1.heap.objs.size],_,_,H1,rfl,I1.kept (t':=s1.toks) λb o e=>J5 _ e,vH a _,⟨_,JK _ rfl,rfl,rfl⟩,λb hb=>?_,q⟩;have e:b=s1.heap.objs.size:=by simpa using hb
  subst e;exact I1.vS (J8 _) (I1.aP.fresh (J8 _))
 ·obtain⟨its,rv,p,hz⟩:=I1.tuple hq;refine Mz (show s1.heap.IsTuple a its.toArray from p) ?_;refine⟨s1.heap.objs.size,[s1.heap.objs.size],_,_,H1,rfl,I1.kept (t':=s1.toks) λb o e=>J5 _ e,rO a _,⟨_,JK _ rfl,rfl,rfl⟩,λb hb=>?_,q⟩;have e:b=s1.heap.objs.size:=by simpa using hb
  subst e;exact I1.vS (J8 _) (I1.aP.fresh (J8 _))
end
def rn(J:It)(g:TG)(tb:TS)(D:Ends)(σ:St)(H:Hp):Prop:=∃W:Nat->Nat->St->Hp->Prop,(∃m,W 0 m σ H)/\∀i m σ H,W i m σ H ->
 (J.stop i H/\D.nx σ H)\/(J.go i H/\∃N:St->Hp->Prop,(∀σ' H',N σ' H'->∃m',m'<m/\W (i+1) m' σ' H')/\∀x H',J.Dg i H x H'->g x σ H' λσ2 H2=>tb {D with nx:=N,ct:=N,bk:=D.nx} σ2 H2)
def BA(wi:TI)(g:TG)(tb:TS)(D:Ends)(σ:St)(H:Hp):EJ wi g tb D σ H=wi σ H λJ H1=>rn J g tb D σ H1:=rfl
def kj(J:It)(k:Nat)(g:TG)(tc:TT)(te:TE)(Q:VK)(σ:St)(H1:Hp):Prop:=∀D,H1 D=none ->
 ∃W:Nat->Nat->List V->St->Hp->Prop,(∃m,W 0 m [] (List.replicate k none++σ) (upd H1 D (.lst [])))/\∀i m ys σ' H',W i m ys σ' H'->H' D=some (.lst ys) /\
  ((J.stop i H'/\Q (.ref D) H')\/(J.go i H'/\ys.length<sizeLine/\∀x H2,J.Dg i H' x H2->g x σ' H2 λσ3 H3=>tc σ3 H3 λb H4 =>
   if b=true then te σ3 H4 λv H5=>H5 D=some (.lst ys)/\∃m',m'<m/\W (i+1) m' (ys++[v]) σ3 (upd H5 D (.lst (ys++[v])))
   else ∃m',m'<m/\W (i+1) m' ys σ3 H4))
def zi(wi:TI)(k:Nat)(g:TG)(tc:TT)(te:TE)(σ:St)(H:Hp)(Q:VK):i9 wi k g tc te σ H Q=wi σ H λJ H1=>kj J k g tc te Q σ H1:=rfl
section
variable {K:W.Frag} {g:TG} {tb:TS} {D:Ends} {σ:St} {H:Hp} {te:TE} {Q:VK}
def dN(Pv:Nat->St->Hp->Prop)(h0:Pv 0 σ H)(hl:∀i σ H,i<=xs.length->Pv i σ H->bg K H a xs)
  (hs:∀i x σ H,xs[i]?=some x->Pv i σ H->g x σ H λσ2 H2=>tb {D with nx:=Pv (i+1),ct:=Pv (i+1),bk:=D.nx} σ2 H2) (hd:∀σ H,Pv xs.length σ H->D.nx σ H):rn (xW K a) g tb D σ H:=yW Pv h0 hl hs hd
def xR(Pv:Nat->St->Hp->Prop)(h0:Pv 0 σ H)(hl:∀i σ H,i<=xs.length->Pv i σ H->bq K H a xs)
  (hs:∀i x σ H,xs[i]?=some x->Pv i σ H->g x σ H λσ2 H2=>tb {D with nx:=Pv (i+1),ct:=Pv (i+1),bk:=D.nx} σ2 H2) (hd:∀σ H,Pv xs.length σ H->D.nx σ H):rn (xl K a) g tb D σ H:=B6 Pv h0 hl hs hd
def bR{lo:Int}{n:Nat}(Pv:Nat->St->Hp->Prop)(h0:Pv 0 σ H)
  (hs:∀i σ H,i<n->Pv i σ H->g (.int (lo+i)) σ H λσ2 H2=>tb {D with nx:=Pv (i+1),ct:=Pv (i+1),bk:=D.nx} σ2 H2) (hd:∀σ H,Pv n σ H->D.nx σ H):rn (De lo n) g tb D σ H:=wF Pv h0 hs hd
def cm(hn:xs.length<=sizeLine)(Pv:Addr->Nat->List V->Hp->Prop)(h0:∀D,H D=none->Pv D 0 [] (upd H D (.lst [])))(hD:∀D i ys H',Pv D i ys H'->H' D=some (.lst ys)/\ys.length=i)
  (hl:∀D i ys H',Pv D i ys H'->bq K H' a xs)
  (hs:∀D i ys H' x (R:VK),xs[i]?=some x->Pv D i ys H'->(∀v H5,H5 D=some (.lst ys)->Pv D (i+1) (ys++[v]) (upd H5 D (.lst (ys++[v])))->R v H5)->te (some x::σ) H' R) (hd:∀D ys H',Pv D xs.length ys H'->Q (.ref D) H') :
  kj (xl K a) 1 (aT 0) gw te Q σ H:=by
 intro D hD0;refine⟨λi m ys σ' H'=>m=xs.length-i/\i<=xs.length/\Pv D i ys H'/\∃o,σ'=o::σ,⟨xs.length,by simp,JJ _,h0 D hD0,none,rfl⟩,?_⟩
 rintro i m ys σ' H' ⟨rfl,hi,p,o,rfl⟩;obtain⟨hDi,hly⟩:=hD _ _ _ _ p;have q:=hl _ _ _ _ p;refine⟨hDi,?_⟩;by_cases hlt:i<xs.length
 ·refine .inr ⟨⟨xs,xs[i],q,by simp[hlt]⟩,by lia,λx H2 y=>?_⟩
  obtain⟨rfl,y⟩:=y;unfold aT gw;dsimp only;rw[if_pos rfl];exact hs D i ys H2 x _ (y xs q) p λv H5 q1 q2=>⟨q1,xs.length-(i+1),by lia,rfl,hlt,q2,_,rfl⟩
 ·have e:i=xs.length:=by lia
  subst e;exact .inl ⟨⟨xs,q,J8 _⟩,hd D ys H' p⟩
end
namespace Ap
def sP(i:Nat)(σ:St)(H:Hp)(Q:VK):L2.sP i σ H Q=∃v,σ[i]?=some (some v)/\Q v H:=rfl
def tC(v:V)(σ:St)(H:Hp)(Q:VK):L2.tC v σ H Q=Q v H:=rfl
def wQ(r:R2)(ta tb:TE)(σ:St)(H:Hp)(Q:VK):L2.wQ r ta tb σ H Q=ta σ H λx H1=>tb σ H1 λy H2=>r x y H2 Q:=rfl
def Hy(r:V->Hp->VK->Prop)(ta:TE)(σ:St)(H:Hp)(Q:VK):L2.Hy r ta σ H Q=ta σ H λx H1=>r x H1 Q:=rfl
def lj(t:TE)(σ:St)(H:Hp)(Q:Bool->Hp->Prop):L2.lj t σ H Q=t σ H λx H'=>∃k,x=.bl k/\Q k H':=rfl
def Gd(t:TT)(ta tb:TE)(σ:St)(H:Hp)(Q:VK):L2.Gd t ta tb σ H Q=t σ H λc H1=>if c=true then ta σ H1 Q else tb σ H1 Q:=rfl
def yO(t u:TT)(σ:St)(H:Hp)(Q:Bool->Hp->Prop):L2.yO t u σ H Q=t σ H λc H1=>if c=true then u σ H1 Q else Q false H1:=rfl
def Hq(t u:TT)(σ:St)(H:Hp)(Q:Bool->Hp->Prop):L2.Hq t u σ H Q=t σ H λc H1=>if c=true then Q true H1 else u σ H1 Q:=rfl
def yN(t:TT)(σ:St)(H:Hp)(Q:Bool->Hp->Prop):L2.yN t σ H Q=t σ H λc H1=>Q (!c) H1:=rfl
def qR(ta tb:TE)(σ:St)(H:Hp)(Q:VK):L2.qR ta tb σ H Q=ta σ H λx H1=>∃c,x=.bl c/\if c=true then tb σ H1 Q else Q (.bl false) H1:=rfl
def hX(r r':R2)(ta tb tc:TE)(σ:St)(H:Hp)(Q:VK):L2.hX r r' ta tb tc σ H Q=ta σ H λx H1=>tb σ H1 λy H2=>r x y H2 λz H3=>∃k,z=.bl k/\(if k=true then tc σ H3 λw' H4=>r' y w' H4 Q else Q (.bl false) H3):=rfl
def tK(vs:List V)(σ:St)(H:Hp)(Q:List V->Hp->Prop):L2.tK vs σ H Q=Q vs H:=rfl
def j9(σ:St)(H:Hp)(Q:List V->Hp->Prop):L2.j9 σ H Q=Q [] H:=rfl
def jt(ta:TE)(tr:TA)(σ:St)(H:Hp)(Q:List V->Hp->Prop):L2.jt ta tr σ H Q=ta σ H λx H1=>tr σ H1 λxs H2=>Q (x::xs) H2:=rfl
def xB(t:TA)(σ:St)(H:Hp)(Q:VK):L2.xB t σ H Q=t σ H λxs H1=>xs.length<=sizeLine/\∀p,H1 p=none->Q (.ref p) (upd H1 p (.tup xs)):=rfl
def zA(t:TA)(σ:St)(H:Hp)(Q:VK):L2.zA t σ H Q=t σ H λxs H1=>xs.length<=sizeLine/\∀p,H1 p=none->Q (.ref p) (upd H1 p (.lst xs)):=rfl
def gY(sp:Sp)(dvs:List V)(E:XK)(t:TA)(σ:St)(H:Hp)(Q:VK):L2.gY sp dvs E t σ H Q=t σ H λvs H1=>sp (vs++dvs) H1 Q E:=rfl
def BO(r:List V->Hp->VK->Prop)(t:TA)(σ:St)(H:Hp)(Q:VK):L2.BO r t σ H Q=t σ H λvs H1=>r vs H1 Q:=rfl
def EI(K:W.Frag)(T:String)(r:V->List V->Hp->VK->Prop)(to:TE)(t:TA)(σ:St)(H:Hp)(Q:VK):L2.EI K T r to t σ H Q=to σ H λx H1=>FL K T x H1/\t σ H1 λxs H2=>r x xs H2 Q:=rfl
def yC(K:W.Frag)(T:String)(r:V->List V->Hp->VK->Prop)(to:TE)(σ:St)(H:Hp)(Q:VK):L2.yC K T r to σ H Q=to σ H λx H1=>FL K T x H1/\r x [] H1 Q:=rfl
def Gx(r:V->Option Int->Option Int->Hp->VK->Prop)(te:TE)(tl th:TO)(σ:St)(H:Hp)(Q:VK):L2.Gx r te tl th σ H Q=te σ H λx H1=>tl σ H1 λl H2=>th σ H2 λu H3=>r x l u H3 Q:=rfl
def iI(σ:St)(H:Hp)(Q:Option Int->Hp->Prop):L2.iI σ H Q=Q none H:=rfl
def qj(t:TE)(σ:St)(H:Hp)(Q:Option Int->Hp->Prop):L2.qj t σ H Q=t σ H λx H1=>∃i,x=.int i/\Q (some i) H1:=rfl
def uU(t u:TS)(D:Ends)(σ:St)(H:Hp):L2.uU t u D σ H=t {D with nx:=u D} σ H:=rfl
def lP(te:TE)(g:TG)(D:Ends)(σ:St)(H:Hp):L2.lP te g D σ H=te σ H λx H1=>g x σ H1 D.nx:=rfl
def aT(i:Nat)(v:V)(σ:St)(H:Hp)(Q:St->Hp->Prop):L2.aT i v σ H Q=Q (σ.set i (some v)) H:=rfl
def xM(to ti:TE)(t:Bz)(v:V)(σ:St)(H:Hp)(Q:St->Hp->Prop):L2.xM to ti t v σ H Q=to σ H λo H1=>ti σ H1 λi H2=>t o i v H2 λH3=>Q σ H3:=rfl
def nH(K:W.Frag)(n:Nat)(t:vL)(v:V)(σ:St)(H:Hp)(Q:St->Hp->Prop):L2.nH K n t v σ H Q=∃a xs,v=.ref a/\bq K H a xs/\xs.length=n/\t xs σ H Q:=rfl
def zI(te:TE)(D:Ends)(σ:St)(H:Hp):L2.zI te D σ H=te σ H D.rt:=rfl
def pT(te:TE)(D:Ends)(σ:St)(H:Hp):L2.pT te D σ H=te σ H λ_ H1=>D.nx σ H1:=rfl
def oR(c:TT)(t u:TS)(D:Ends)(σ:St)(H:Hp):L2.oR c t u D σ H=c σ H λb H1=>if b=true then t D σ H1 else u D σ H1:=rfl
def p6(D:Ends)(σ:St)(H:Hp):L2.p6 D σ H=D.nx σ H:=rfl
def mQ(ta:TA)(σ:St)(H:Hp)(R:It->Hp->Prop):L2.mQ ta σ H R=ta σ H λvs H1=>∃j:Int,vs=[.int j]/\-(2^62)<=j/\j<2^62/\R (De 0 j.toNat) H1:=rfl
theorem zv(K:W.Frag)(tl:TE)(σ:St)(H:Hp)(R:It->Hp->Prop):L2.zv K tl σ H R=tl σ H λx H1=>match x with
 |.ref a=>match sq H1 a with
  |some (true,_)=>R (xW K a) H1
  |some (false,_)=>R (xl K a) H1
  |none=>(∃xs,bq K H1 a xs)/\R (xl K a) H1
 |_=>False:=rfl
def qa(K:W.Frag)(ta:TA)(σ:St)(H:Hp)(R:It->Hp->Prop):L2.qa K ta σ H R=ta σ H λvs H1=>∃a,vs=[.ref a]/\(∃xs,bq K H1 a xs)/\R (A_ K a) H1:=rfl
def rI(C:Int->Int->Prop)(g:Int->Int->V)(i j:Int)(H:Hp)(Q:VK):L2.rI C g (.int i) (.int j) H Q=(C i j/\Q (g i j) H):=by
 refine propext ⟨λhq2=>?_,λh=>⟨i,j,rfl,rfl,h⟩⟩;obtain⟨a,b,e1,e2,h⟩:=hq2
 cases e1;cases e2;exact h
def Ag(g:Int->Int->V)(i j:Int)(H:Hp)(Q:VK):L2.Ag g (.int i) (.int j) H Q=Q (g i j) H:=by
 refine propext ⟨λhq3=>?_,λh=>⟨i,j,rfl,rfl,h⟩⟩;obtain⟨a,b,e1,e2,h⟩:=hq3
 cases e1;cases e2;exact h
def rU(g:Int->V)(i:Int)(H:Hp)(Q:VK):L2.rU g (.int i) H Q=Q (g i) H:=by
 refine propext ⟨λhq4=>?_,λh=>⟨i,rfl,h⟩⟩;obtain⟨a,e1,h⟩:=hq4
 cases e1;exact h
def GQ(K:W.Frag)(i j:Int)(H:Hp)(Q:VK):vI K (.int i) (.int j) H Q=Q (.int (i+j)) H:=rfl
def Hf(K:W.Frag)(i j:Str)(H:Hp)(Q:VK):vI K (.str i) (.str j) H Q=(i.length+j.length<=sizeLine/\Q (.str (i++j)) H):=rfl
def Gz(i j:Int)(H:Hp)(Q:VK):EX (.int i) (.int j) H Q=(ze i j/\Q (.int (i*j)) H):=rfl
def Iv(i j:Int)(H:Hp)(Q:VK):FQ (.int i) (.int j) H Q=Q (.bl (decide (i=j))) H:=by
 have e:decide (V.int i=V.int j)=decide (i=j):=by rw[LN];constructor<;>intro h<;>(try cases h)<;>(try rw[h])<;>rfl
 unfold FQ;rw[e];exact propext ⟨λh=>h.2,λh=>⟨rfl,h⟩⟩
def Iz(i j:Str)(H:Hp)(Q:VK):FQ (.str i) (.str j) H Q=Q (.bl (decide (i=j))) H:=by
 have e:decide (V.str i=V.str j)=decide (i=j):=by rw[LN];constructor<;>intro h<;>(try cases h)<;>(try rw[h])<;>rfl
 unfold FQ;rw[e];exact propext ⟨λh=>h.2,λh=>⟨rfl,h⟩⟩
def IL(i j:Int)(H:Hp)(Q:VK):HR (.int i) (.int j) H Q=Q (.bl (!decide (i=j))) H:=by
 have e:decide (V.int i=V.int j)=decide (i=j):=by rw[LN];constructor<;>intro h<;>(try cases h)<;>(try rw[h])<;>rfl
 unfold HR;rw[e];exact propext ⟨λh=>h.2,λh=>⟨rfl,h⟩⟩
def Ia(K:W.Frag)(b:Bool)(H:Hp)(k:Bool):xv K (.bl b) H k=(k=b):=rfl
def Jf(CX:nL)(P:Program)(w:World)(K:W.Frag)(mg:Str->Option Value)(base:Heap)(N:List Str)(qual:Str)(scope:Scope)(f:Addr)(cd:Value)(A:Around)(outer:List Env)(s:Shared)(H:Hp)(E:XK):(fY CX P w K mg base N qual scope f cd A outer s H E).K=K:=rfl
end Ap
def KB(ex:List Addr)(H H':Hp):Prop:=∀b o,H b=some o->b∉ex->H' b=some o
def KB.refl(ex:List Addr)(H:Hp):KB ex H H:=λ_ _ e _=>e
def KB.trans{H1 H2:Hp}(a:KB ex H H1)(b:KB ex H1 H2):KB ex H H2:=λc o e n=>b c o (a c o e n) n
def KB.mono{ex':List Addr}(h:KB ex H H')(s:∀b∈ex,b∈ex'):KB ex' H H':=λb o e n=>h b o e λz=>n (s b z)
def KB.all(h:KB [] H H'):KB ex H H':=h.mono (by simp)
def KB.new(h:H p=none):KB ex H (upd H p o):=λb u e _=>by rw[ak (af e h)];exact e
def KB.set(h:p∈ex):KB ex H (upd H p o):=λb u e n=>by rw[ak (λ(z:b=p)=>n (by rw[z];exact h))];exact e
def KB.free(h:KB ex H H'){b:Addr}(n:b∉ex)(e:H' b=none):H b=none:=by
 cases q:H b with
 |none=>rfl
 |some o=>rw[h b o q n] at e;cases e
def KB.Dl(h:KB ex H H')(n:a∉ex)(q:bg K H a xs):bg K H' a xs:=by
 rcases q with (q|⟨o,q⟩)|q
 ·exact .inl (.inl (h _ _ q n))
 ·exact .inl (.inr ⟨o,h _ _ q n⟩)
 ·exact .inr q
def rf(x:α)(r:List α):bI (x::r) 0=some x:=aU (j:=0) rfl
def Hj(a x:α)(r:List α):bI (a::x::r) 1=some x:=aU (j:=1) rfl
def GL(a b x:α)(r:List α):bI (a::b::x::r) 2=some x:=aU (j:=2) rfl
def IP(a b c x:α)(r:List α):bI (a::b::c::x::r) 3=some x:=aU (j:=3) rfl
def ke{n:Nat}{i:Int}(h0:0<=i)(h:i<n):iY n i=some i.toNat:=by unfold iY;rw[JA h0,JA h]
namespace Ap
def Gv(K:W.Frag)(p:Addr)(i:Int)(H:Hp)(Q:VK):Ax K (.ref p) (.int i) H Q=(match sq H p with
  |some (_,xs)=>(match bI xs i with|some v=>Q v H|none=>False)
  |none=>∃xs v,bq K H p xs/\bI xs i=some v/\Q v H):=rfl
def GK(K:W.Frag)(z:Str)(i:Int)(H:Hp)(Q:VK):Ax K (.str z) (.int i) H Q=(z.length<=sizeLine/\(match bI z.cps.toList i with|some c=>Q (.str ⟨#[c]⟩) H|none=>False)):=rfl
def setRef(p:Addr)(k:Int)(v:V)(H:Hp)(Q:Hp->Prop):zg (.ref p) (.int k) v H Q=(match H p with
  |some (.lst xs)=>(match iY xs.length k with|some j=>Q (upd H p (.lst (xs.set j v)))|none=>False)
  |_=>False):=rfl
def Ey(K:W.Frag)(p:Addr)(H:Hp)(Q:VK):zO K [.ref p] H Q=(match sq H p with
  |some (_,ys)=>Q (.int ys.length) H
  |none=>∃ys,bq K H p ys/\Q (.int ys.length) H):=rfl
def EN(K:W.Frag)(y:Str)(H:Hp)(Q:VK):zO K [.str y] H Q=(y.length<=sizeLine/\Q (.int y.length) H):=rfl
def Hr(i j:Int)(H:Hp)(Q:VK):GA [.int i,.int j] H Q=Q (.int (if j<i then j else i)) H:=rfl
def HX(k:Bool)(H:Hp)(Q:VK):GP [.bl k] H Q=Q (.int (if k=true then 1 else 0)) H:=rfl
def Ij(i:Int)(H:Hp)(Q:VK):Hw [.int i] H Q=(i.natAbs.log2<1920/\Q (.str (toString i)) H):=rfl
def E2(K:W.Frag)(p:Addr)(H:Hp)(Q:VK):nJ K [.ref p] H Q=(match sq H p with
  |some (true,ys)=>∀l,H l=none->Q (.ref l) (upd H l (.tup ys))
  |some (false,_)=>Q (.ref p) H
  |none=>∃ys,bq K H p ys/\Q (.ref p) H):=rfl
def GG(K:W.Frag)(p:Addr)(lo hi:Option Int)(H:Hp)(Q:VK):HW K (.ref p) lo hi H Q=(match sq H p with
  |some (true,xs)=>∀q,H q=none->Q (.ref q) (upd H q (.lst (dC xs lo hi)))
  |some (false,xs)=>sM K (.ref p) lo hi H Q
  |none=>sM K (.ref p) lo hi H Q):=rfl
def F_(K:W.Frag)(neg:Bool)(x:V)(p:Addr)(H:Hp)(Q:VK):Gr K neg x (.ref p) H Q=(match sq H p with
  |some (_,xs)=>d7 x=true/\xs.all d7=true/\Q (.bl (if neg then !iL x xs else iL x xs)) H
  |none=>∃xs,bq K H p xs/\d7 x=true/\xs.all d7=true/\Q (.bl (if neg then !iL x xs else iL x xs)) H):=rfl
def Ir(K:W.Frag)(x:V)(T:String)(H:Hp)(Q:VK):Du K [x,.ty T] H Q=(T∈["bool","int","str","list","tuple","dict"]/\match Ei H x with
  |some t=>Q (.bl (iE t T)) H
  |none=>∃t b,h_ K H x t/\W.kitOne K t (.type T)=some b/\Q (.bl b) H):=rfl
def addRef(K:W.Frag)(a b:Addr)(H:Hp)(Q:VK):vI K (.ref a) (.ref b) H Q=(match H a,H b with
  |some (.lst xs),some (.lst ys)=>xs.length+ys.length<=sizeLine/\∀p,H p=none->Q (.ref p) (upd H p (.lst (xs++ys)))
  |some (.tup xs),some (.tup ys)=>xs≠[]/\ys≠[]/\xs.length+ys.length<=sizeLine/\∀p,H p=none->Q (.ref p) (upd H p (.tup (xs++ys)))
  |_,_=>False):=rfl
def E6(H:Hp)(p:Addr)(xs:List V):sq (upd H p (.lst xs)) p=some (true,xs):=ar aa
def BG(H:Hp)(p:Addr)(xs:List V):sq (upd H p (.tup xs)) p=some (false,xs):=aF aa
def AL(H:Hp)(p:Addr)(o:HO):upd H p o p=some o:=aa
end Ap
def au{t u:TS}(h:∀N,N=u D->t {D with nx:=N} σ H):uU t u D σ H:=h _ rfl
structure QE (X:Cx) (e:Expr) (t:TE):Prop where h:PE X e t
structure QT (X:Cx) (e:Expr) (t:TT):Prop where h:PT X e t
structure QW (X:Cx) (e:Expr) (t:TT):Prop where h:PW X e t
structure QA (X:Cx) (es:List Expr) (t:TA):Prop where h:PA X es t
structure QS (X:Cx) (st:Stmt) (t:TS):Prop where h:PS X st t
structure QB (X:Cx) (sts:List Stmt) (t:TS):Prop where h:sI X sts t
structure QI (X:Cx) (tg it:Expr) (t:TI):Prop where h:PI X tg it t
structure QG (X:Cx) (e:Expr) (t:TG):Prop where h:PG X e t
structure HH (X:Cx) (es:List Expr) (t:vL):Prop where h:FO X es t
structure QO (X:Cx) (e:Option Expr) (t:TO):Prop where h:PO X e t
structure FR (X:Cx) (es:List Expr) (t:TT):Prop where h:ET X es t
namespace Z
noncomputable def sim(b:Expr):Bool:=match b with
 |.Name .. |.Constant .. |.Call .. |.BinOp .. |.Subscript .. |.Attribute .. |.UnaryOp .. |.Compare .. |.IfExp ..=>true
 |_=>false
def IV(h:sim b=true):sY b:=by
 cases b<;>first | (intro _ _;rfl)|cases h
noncomputable def IZ(b:Expr):Bool:=match b with
 |.Name .. |.Call .. |.Subscript .. |.Attribute ..=>true
 |_=>false
def ptr(h:IZ b=true):∀whole,isTrue b env whole=(do let v <- whole;standAt b.pos;holding [v] (truthy v)):=by
 cases b<;>first | (intro _;rfl)|cases h
noncomputable def HF(b:Expr):Bool:=match b with
 |.ListComp .. |.SetComp .. |.DictComp ..=>false
 |_=>true
def IS{tg:Option Expr}{l:Nat}(h:HF b=true):swapsWith b tg l env=pure false:=by
 cases b<;>first|rfl|cases h
section
variable {X:Cx}
def aE(K:W.Frag)(hK:X.K=K):cY X (binaryOp .Add) (vI K):=by subst hK;exact C4
def Bg(K:W.Frag)(hK:X.K=K)(hu:k<cLine):cY X (compareOp .In) (Gr K false):=by subst hK;exact Fm hu
def aA(K:W.Frag)(hK:X.K=K)(hu:k<cLine):vv X (Ax K):=by subst hK;exact Jh hu
def vX(K:W.Frag)(hK:X.K=K):uE X (HW K):=by subst hK;exact C3
def Dd(K:W.Frag)(hK:X.K=K):uE X (EA K):=by subst hK;exact nQ
def bO(K:W.Frag)(hK:X.K=K):aZ X (.builtin "len") (zO K):=by subst hK;exact vb
def y_(K:W.Frag)(hK:X.K=K):aZ X (.builtin "len") (λxs H Q=>∃x n,xs=[x]/\Gb K x H n/\Q (.int n) H):=by subst hK;exact iy
def kO(K:W.Frag)(hK:X.K=K):aZ X (.builtin "isinstance") (Du K):=by subst hK;exact vq
def dJ(K:W.Frag)(hK:X.K=K):aZ X (.type "tuple") (nJ K):=by subst hK;exact qK
def Hb(K:W.Frag)(hK:X.K=K)(hc:X.calm=true):aZ X (.builtin "sum") (λxs H Q=>∃(p:Addr) (ns:List Int),xs=[.ref p]/\bg K H p (ns.map V.int)/\Q (.int ns.sum) H):=by subst hK;exact vP hc
def yr(K:W.Frag)(hK:X.K=K):wJ X "str.join" (rJoin K):=by subst hK;exact BF
end
section
variable {X:Cx} {a b c e o:Expr} {es:List Expr} {ta tb tc te to:TE} {t:TA} {pos p p2:Pos} {tA tB':TT} {rest:List Expr} {x:Str}
def int{i:Int}:QE X (.Constant (.int i) j pos) (tC (.int i)):=⟨zW⟩
def bl{i:Bool}:QE X (.Constant (.bool i) j pos) (tC (.bl i)):=⟨CP⟩
def aL:QE X (.Constant .none j pos) (tC .aL):=⟨yq⟩
def str{i:Str}:QE X (.Constant (.str i) j pos) (tC (.str i)):=⟨yV⟩
def v(i:Nat)(hN:autoParam (X.N[i]?=some x) ℜ0)(hv:autoParam (Hc X.env.scope x) ℜ4)(hd:autoParam ((x ==("__debug__":Str))=false) ℜ1)
  (gW:autoParam ((x ==("__classdict__":Str))=false) ℜ1):QE X (.Name x pos) (sP i):=⟨pv i hN hv hd gW⟩
def glob{w:V}{u:Value}(hg:Gl X x)(hm:X.mg x=some u)(r:RelV w u)(hd:autoParam ((x ==("__debug__":Str))=false) ℜ1):QE X (.Name x pos) (tC w):=⟨tB hg hm r hd⟩
def op{o:Operator}{r:R2}(ho:cY X (binaryOp o) r)(ha:QE X a ta)(hb:QE X b tb):QE X (.BinOp a o b pos) (wQ r ta tb):=⟨HB ho ha.h hb.h⟩
def un{o:UnaryOp}{r:V->Hp->VK->Prop}(ho:HN X (unaryOp o) r)(ha:QE X a ta):QE X (.UnaryOp o a pos) (Hy r ta):=⟨GU ho ha.h⟩
def cmp{o:CmpOp}{r:R2}(ho:cY X (compareOp o) r)(ha:QE X a ta)(hb:QE X b tb)(hm:autoParam (behindInMarks o b=false) ℜ0):QE X (.Compare a [o] [b] pos) (wQ r ta tb):=⟨A8 ho ha.h hb.h hm⟩
def chain{o o':CmpOp}{r r':R2}(ho:cY X (compareOp o) r)(ho':cY X (compareOp o') r')(ha:QE X a ta)(hb:QE X b tb)(hc:QE X c tc)(hm:autoParam (lastMarks [o,o'] [b,c]=false) ℜ5):QE X (.Compare a [o,o'] [b,c] pos) (hX r r' ta tb tc):=⟨xY ho ho' ha.h hb.h hc.h hm⟩
def and(ha:QE X a ta)(hb:QE X (.BoolOp .And (b::rest) pos) tb):QE X (.BoolOp .And (a::b::rest) pos) (qR ta tb):=⟨DP ha.h hb.h⟩
def one{o:BoolOp}(ha:QE X a ta):QE X (.BoolOp o [a] pos) ta:=⟨DC ha.h⟩
def not(ha:QE X a ta):QE X (.UnaryOp .Not a pos) (pG ta):=⟨E9 ha.h⟩
def FH(hc:QT X c tA)(ha:QE X a ta)(hb:QE X b tb):QE X (.IfExp c a b pos) (Gd tA ta tb):=⟨xX hc.h ha.h hb.h⟩
def slice{r:V->Option Int->Option Int->Hp->VK->Prop}{lo hi:Option Expr}{tl th:TO}(hr:uE X r)(he:QE X e te)(hl:QO X lo tl)(hu:QO X hi th):QE X (.Subscript e (.Slice lo hi none p2) pos) (Gx r te tl th):=⟨zV hr he.h hl.h hu.h⟩
def nY:QO X none iI:=⟨A0⟩
def oY(he:QE X e te):QO X (some e) (qj te):=⟨Bj he.h⟩
def ix{r:R2}(hr:vv X r)(ha:QE X a ta)(hb:QE X b tb)(hs:autoParam (sim b=true) ℜ0):QE X (.Subscript a b pos) (wQ r ta tb):=⟨CG hr ha.h hb.h (IV hs)⟩
def tup(h:QA X es t):QE X (.Tuple es k pos) (xB t):=⟨Ek h.h⟩
def lst(h:QA X es t):QE X (.List es pos) (zA t):=⟨EM h.h⟩
def nil:QA X [] j9:=⟨wX⟩
def cons(ha:QE X e te)(hr:QA X es t)(h:autoParam (eG e=true) ℜ0):QA X (e::es) (jt te t):=⟨Iq ha.h hr.h h⟩
def consts{vs:List V}(h:tH es=some vs):QA X es (tK vs):=⟨mE h⟩
def cb{id:String}(hc:aZ X (.builtin id) r)(hg:Gl X x)(hm:X.mg x=none)(hv:bootBuiltins x=some (.builtin id))(ha:QA X (e::es) t)(h1:autoParam (eG e=true) ℜ0)(h2:autoParam (es.all eG=true) ℜ0)(hn:autoParam (x≠"__name__") ℜ1)(hdb:autoParam ((x ==("__debug__":Str))=false) ℜ1):
  QE X (.Call (.Name x p) (e::es) [] pos) (BO r t):=⟨Gn hc hg hm hv ha.h h1 h2 hn hdb⟩
def ct{T:String}(hc:aZ X (.type T) r)(hg:Gl X x)(hm:X.mg x=none)(hv:bootBuiltins x=some (.type T))(ha:QA X (e::es) t)(h1:autoParam (eG e=true) ℜ0)(h2:autoParam (es.all eG=true) ℜ0)(hn:autoParam (x≠"__name__") ℜ1)(hdb:autoParam ((x ==("__debug__":Str))=false) ℜ1):
  QE X (.Call (.Name x p) (e::es) [] pos) (BO r t):=⟨Gu hc hg hm hv ha.h h1 h2 hn hdb⟩
def C_{T:String}(hg:Gl X x)(hm:X.mg x=none)(hv:bootBuiltins x=some (.type T))(hn:autoParam (x≠"__name__") ℜ1)(hd:autoParam ((x ==("__debug__":Str))=false) ℜ1):QE X (.Name x pos) (tC (.ty T)):=⟨Fg hg hm hv hn hd⟩
def fn{ps:List Str}{E:XK}(F:ao X.prog X.w X.K X.mg X.base CX k x ps sp)(hr:bz k X.A)(hg:Gl X x)(hx:Passes CX X E)(ha:QA X (e::es) t)(h1:autoParam (eG e=true) ℜ0)(h2:autoParam (es.all eG=true) ℜ0)(hdb:autoParam ((x ==("__debug__":Str))=false) ℜ1):
  QE X (.Call (.Name x p) (e::es) [] pos) (gY sp [] E t):=⟨GH F hr hg hx ha.h h1 h2 hdb⟩
def Jg{ps:List Str}{E:XK}(F:ao X.prog X.w X.K X.mg X.base CX k x ps sp)(hr:bz k X.A)(hg:Gl X x)(hx:Passes CX X E)(hdb:autoParam ((x ==("__debug__":Str))=false) ℜ1):
  QE X (.Call (.Name x p) [] [] pos) (gY sp [] E j9):=⟨DF F hr hg hx hdb⟩
def bm(K:W.Frag)(hK:X.K=K){name:Str}{apos:Pos}{T id:String}{r:V->List V->Hp->VK->Prop}(pa:PlainAttrs T)(slot:Slot T name id)(hty:typeOf (.builtin id)=pure (.type "method_descriptor"))(hm:wJ X id r)(ho:QE X o to)(ha:QA X (e::es) t)
  (hbase:autoParam (attributeBase o name X.env (eval o X.env)=eval o X.env) ℜ0) (hline:autoParam ((apos.endLine == pos.line)=true) ℜ0) (h:autoParam ((e::es).all eG=true) ℜ0) (hl:autoParam ((e::es).length<30) ℜ1):QE X (.Call (.Attribute o name apos) (e::es) [] pos) (EI K T r to t):=by
 subst hK;exact⟨Ew pa slot hty hm ho.h ha.h hbase hline h hl⟩
def comp{wi:TI}{tc:TT}(S:az osc ON scope own N)(hosc:X.env.scope=osc)(hON:X.N=ON)(hc:X.calm=true)(hi:QI X tg iter wi)
  (hg:∀C s H fp,QG (aK X scope N C s H fp) tg g) (ht:∀C s H fp,FR (aK X scope N C s H fp) ifs tc) (he:∀C s H fp,QE (aK X scope N C s H fp) elt te) (hs:autoParam (∀x,foldedSetIterable iter X.env x=pure x) ℜ3) :
  QE X (.ListComp elt [⟨tg,iter,ifs,0⟩] scope pos) (i9 wi own.length g tc te):=⟨B_ S hosc hON hc hi.h (λC s H fp=>(hg C s H fp).h) (λC s H fp=>(ht C s H fp).h) (λC s H fp=>(he C s H fp).h) hs⟩
def aR{o:CmpOp}{r:R2}(ho:cY X (compareOp o) r)(ha:QE X a ta)(hb:QE X b tb)(hm:autoParam (behindInMarks o b=false) ℜ0):QT X (.Compare a [o] [b] pos) (lj (wQ r ta tb)):=⟨Bi ho ha.h hb.h hm⟩
def EF{o o':CmpOp}{r r':R2}(ho:cY X (compareOp o) r)(ho':cY X (compareOp o') r')(ha:QE X a ta)(hb:QE X b tb)(hc:QE X c tc)(hm:autoParam (lastMarks [o,o'] [b,c]=false) ℜ5):QT X (.Compare a [o,o'] [b,c] pos) (lj (hX r r' ta tb tc)):=⟨yL ho ho' ha.h hb.h hc.h hm⟩
def tw(h:QW X e tA):QT X e tA:=⟨h.h.pt⟩
def je(ha:QT X a tA):QT X (.UnaryOp .Not a pos) (yN tA):=⟨DT ha.h⟩
def Bw(K:W.Frag)(ta:TE):TT:=λσ H Q=>ta σ H λx H'=>∃k,xv K x H' k/\Q k H'
def gT(K:W.Frag)(hK:X.K=K)(ha:QE X a ta)(he:autoParam (IZ a=true) ℜ0):QT X a (Bw K ta):=by subst hK;exact⟨xH ha.h (ptr he)⟩
def jw(ha:QT X a tA):QW X (.BoolOp .And [a] pos) tA:=⟨AJ ha.h⟩
def nE(ha:QT X a tA):QW X (.BoolOp .Or [a] pos) tA:=⟨Em ha.h⟩
def qT(ha:QT X a tA)(hb:QW X (.BoolOp .And (b::rest) pos) tB'):QW X (.BoolOp .And (a::b::rest) pos) (yO tA tB'):=⟨EZ ha.h hb.h⟩
def Bp(ha:QT X a tA)(hb:QW X (.BoolOp .Or (b::rest) pos) tB'):QW X (.BoolOp .Or (a::b::rest) pos) (Hq tA tB'):=⟨HC ha.h hb.h⟩
def aH(hN:X.N.Nodup)(hi:X.N[i]?=some x)(hx:Loc X.env.scope x)(hf:autoParam (X.fn x=true\/X.env.scope.names.lookup x=some .local) ℜ2):QG X (.Name x pos) (aT i):=⟨B3 hN hi hx hf⟩
def m8(K:W.Frag)(hK:X.K=K){n:Nat}{tg:vL}(hc:X.calm=true)(h:HH X es tg)(hn:autoParam ((assignEach es X.env).length=n) ℜ0)(hst:autoParam ((assignEach es X.env).findIdx? (·.1)=none) ℜ0):QG X (.Tuple es k pos) (nH K n tg):=by subst hK;exact⟨xQ hc h.h hn hst⟩
def gr:HH X [] vj:=⟨AX⟩
def bw{u:vL}(h1:QG X e g)(h2:HH X es u)(hs:autoParam ((assignEach (e::es) X.env).map (·.2)=assign e X.env::(assignEach es X.env).map (·.2)) ℜ0):HH X (e::es) (gZ g u):=⟨yw h1.h h2.h hs⟩
def mx{i:Expr}{ti:TE}(ho:QE X o to)(hi:QE X i ti)
  (ha:autoParam (∀v,assign (.Subscript o i pos) X.env v=(do
   let ov <- holding [v] (eval o X.env)
   let iv <- holding [v,ov] (eval i X.env)
   standAt pos
   holding [v,ov,iv] (setItem ov iv v)
   release [v,ov,iv] [])) ℜ3):QG X (.Subscript o i pos) (xM to ti zg):=⟨DQ ho.h hi.h uset ha⟩
def oW{ta:TA}(hg:Gl X "range")(hm:X.mg "range"=none)(ha:QA X [a] ta)(h:autoParam (eG a=true) ℜ0):QI X tg (.Call (.Name "range" p) [a] [] pos) (mQ ta):=⟨r9 hg hm ha.h h⟩
def enum(K:W.Frag)(hK:X.K=K){tp:Pos}{ta:TA}(hg:Gl X "enumerate")(hm:X.mg "enumerate"=none)(ha:QA X [e] ta)(h1:autoParam (eG e=true) ℜ0):QI X (.Tuple es k tp) (.Call (.Name "enumerate" p) [e] [] pos) (qa K ta):=by subst hK;exact⟨A2 hg hm ha.h h1⟩
def any(K:W.Frag)(hK:X.K=K){l:Expr}{tl:TE}(hl:QE X l tl):QI X tg l (zv K tl):=by subst hK;exact⟨E4 hl.h⟩
def pe:FR X [] gw:=⟨BW⟩
def Ji(h:QT X c tA):FR X [c] tA:=⟨AV h.h⟩
end
section
variable {X:Cx} {e o tg:Expr} {te to:TE} {st:Stmt} {sts xs ys:List Stmt} {t u:TS} {pos pos':Pos} {x:Str}
def b9:QB X [] p6:=⟨BY⟩
def ax(h:QS X st t):QB X [st] t:=⟨AD h.h⟩
def aq(h:QS X st t)(h2:QB X sts u):QB X (st::sts) (uU t u):=⟨xF h.h h2.h⟩
def set(hN:X.N.Nodup)(hi:X.N[i]?=some x)(hx:Loc X.env.scope x)(he:QE X e te)(hs:autoParam (HF e=true) ℜ0)(hf:autoParam (X.fn x=true\/X.env.scope.names.lookup x=some .local) ℜ2):
  QS X (.Assign [.Name x pos'] e pos) (lP te (aT i)):=⟨Fw hN hi hx he.h (IS hs) hf⟩
def setC{p2:Pos}{wi:TI}(hN:X.N.Nodup)(hj:X.N[j]?=some x)(hx:Loc X.env.scope x)(S:az osc ON scope own N)(hosc:X.env.scope=osc)(hON:X.N=ON)(hc:X.calm=true)(hi:QI X tg iter wi)
  (hg:∀C s H fp,QG (aK X scope N C s H fp) tg g) (ht:∀C s H fp,FR (aK X scope N C s H fp) ifs tc) (he:∀C s H fp,QE (aK X scope N C s H fp) elt te)
  (hsw:autoParam (swapsWith (.ListComp elt [⟨tg,iter,ifs,0⟩] scope p2) (some (.Name x pos')) pos.line X.env=pure true) ℜ0)
  (hf:autoParam (X.fn x=true\/X.env.scope.names.lookup x=some .local) ℜ2) (hs:autoParam (∀x,foldedSetIterable iter X.env x=pure x) ℜ3) :
  QS X (.Assign [.Name x pos'] (.ListComp elt [⟨tg,iter,ifs,0⟩] scope p2) pos) (lP (i9 wi own.length g tc te) (aT j)):=⟨rq hN hj hx S hosc hON hc hi.h (λC s H fp=>(hg C s H fp).h) (λC s H fp=>(ht C s H fp).h) (λC s H fp=>(he C s H fp).h) hsw hf hs⟩
def asg(he:QE X e te)(hg:QG X tg g)(hs:autoParam (swapsWithSole [tg] e pos.line X.env=pure false) ℜ0)(hw:autoParam (swappedStores [tg] e X.env=pure none) ℜ0)
  (h1:autoParam ((assignEach [tg] X.env).map (·.2)=[assign tg X.env]) ℜ0):QS X (.Assign [tg] e pos) (lP te g):=⟨Et he.h hg.h hs hw h1⟩
def ret(he:QE X e te):QS X (.Return (some e) pos) (zI te):=⟨DN he.h⟩
def expr(he:QE X e te)(hs:autoParam (HF e=true) ℜ0):QS X (.Expr e pos) (pT te):=⟨Bb he.h (IS hs)⟩
def cZ{c:Expr}(hc:QT X c tc)(ha:QB X xs t)(hb:QB X ys u):QS X (.If c xs ys pos) (oR tc t u):=⟨GW hc.h ha.h hb.h⟩
def fh{wi:TI}(hp:PassesOwn (model X.prog X.w) X.A X.env X.xe)(hc:X.calm=true)(hi:QI X tg iter wi)(hg:QG X tg g)(hb:QB X xs t)(hs:autoParam (∀x,foldedSetIterable iter X.env x=pure x) ℜ3):QS X (.For tg iter xs [] pos) (EJ wi g t):=⟨ES hp hc hi.h hg.h hb.h hs⟩
def yD{c:Expr}(hp:PassesOwn (model X.prog X.w) X.A X.env X.xe)(hc:QT X c tc)(hb:QB X xs t):QS X (.While c xs [] pos) (zH tc t):=⟨yu hp hc.h hb.h⟩
end
end Z
namespace Ap
def Bw(K:W.Frag)(ta:TE)(σ:St)(H:Hp)(Q:Bool->Hp->Prop):L2.Z.Bw K ta σ H Q=ta σ H λx H'=>∃k,xv K x H' k/\Q k H':=rfl
def pG(ta:TE)(σ:St)(H:Hp)(Q:VK):L2.pG ta σ H Q=ta σ H λx H1=>∃c,x=.bl c/\Q (.bl (!c)) H1:=rfl
end Ap
def HasFn.eZ{ps:List Str}(F:HasFn K mg x st ps)(S:av N ps (ae st))(len:∀vs H Q E,sp vs H Q E->vs.length=ps.length)
  (hbody:∀(f:Addr) (cdv:Value) (A:Around) (outer:List Env) (s:Shared) (H:Hp) (vs:List V) (Q:VK) (E:XK),bz k (A.deeper (envOfC x (ae st) s.heap.objs.size f cdv))->sp vs H Q E ->
   ∃t,QB (fY aN P w K mg base N x (ae st) f cdv A outer s H E).vK (aV st) t/\t {nx:=λ_ H'=>Q .aL H',rt:=Q} (start N vs) H):ao P w K mg base aN (k+1) x ps sp:=
 F.ok S len λf cdv A outer s H vs Q E hr h=>let ⟨t,q,r⟩:=hbody f cdv A outer s H vs Q E hr h;⟨t,q.h,r⟩
def Cq{ps:List Str}(F:lZ K x x st f fd)(S:av N ps (ae st))(len:∀vs H Q E,sp vs H Q E->vs.length=ps.length)
  (hbody:∀(cdv:Value) (A:Around) (outer:List Env) (s:Shared) (H:Hp) (vs:List V) (Q:VK) (E:XK),bz k (A.deeper (envOfC x (ae st) s.heap.objs.size f cdv))->sp vs H Q E ->
   ∃t,QB (fY aN P w K mg base N x (ae st) f cdv A outer s H E).vK (aV st) t/\t {nx:=λ_ H'=>Q .aL H',rt:=Q} (start N vs) H):bY P w K mg base aN (k+1) f fd ps sp:=
 F.ok S len λcdv A outer s H vs Q E hr h=>let ⟨t,q,r⟩:=hbody cdv A outer s H vs Q E hr h;⟨t,q.h,r⟩
def iN(e:Addr)(cls:Value)(d:Option Addr)(h:Heap):Prop:=∃o vs,h.get? e=some o/\o.cls=cls/\o.dict=d/\o.data=.fields vs
inductive T where
 |il (n:Nat)|aL|bl (b:Bool)|int (i:Int)|str (x:Str)|tup (ts:List T)|lst (ts:List T)|Jq (ts:List T)|pd (lo hi:Int)|Jp (ts:List T)|Jo (ks:List Key) (ts:List T)|exc (c:Value) (f:Option (Str×Int))|adr (a:Addr)|ins (a c:Addr) (ks:List Str) (ts:List T)
abbrev wU:=Addr->Prop
def HK(K:W.Frag)(a:Addr)(xs:List V):Prop:=∃(o:Obj) (its:Array Value) (n:Nat),K.lookup a=some o/\o.cls=.type "tuple"/\o.data=.seq its n/\its.size<=sizeLine/\Vals xs its.toList
def Paired.sj{β:Type}{P:α->β->Prop}{ys:List β}(h:Paired P [] ys):ys=[]:=by cases h;rfl
def Paired.fV{β:Type}{P:α->β->Prop}{x:α}{xs:List α}{ys:List β}(h:Paired P (x::xs) ys):∃y zs,ys=y::zs/\P x y/\Paired P xs zs:=by cases h with|cons h r=>exact⟨_,_,rfl,h,r⟩
inductive Sl where
 |un|tr (t:T)|bx (c:T)|pb (c:T)
abbrev Mu:=List Sl
inductive R where
 |tr (t:T)|br (i:Nat)|fr (c:T)
structure Fx where
 K:W.Frag
 H0:Hp
 P:Nat->Option Addr
 Bc:wU
 bh:∀b,Bc b->∃o,H0 b=some o
 G:Addr->Option HO
abbrev UE:=Mu->(R->Mu->Prop)->Prop
abbrev UT:=Mu->(Bool->Mu->Prop)->Prop
abbrev UA:=Mu->(List R->Mu->Prop)->Prop
structure Ed where
 nx:Mu->Prop
 rt:R->Mu->Prop
 bk:Mu->Prop:=λ_=>False
 ct:Mu->Prop:=λ_=>False
abbrev US:=Ed->Mu->Prop
namespace Y
def C9(K:W.Frag):R2:=λx y H Q=>∃a b xs ys,x=.ref a/\y=.ref b/\bq K H a xs/\bq K H b ys/\xs.length+ys.length<=sizeLine /\
 (xs=[]->Q (.ref b) H)/\(xs≠[]->ys=[]->Q (.ref a) H)/\(xs≠[]->ys≠[]->∀p,H p=none->Q (.ref p) (upd H p (.tup (xs++ys))))
def zN{A:Around}{s:Shared}{b:Addr}{ws:List Value}{Q:Value->Shared->Prop}(ht:IsTup s.heap t ([]:List Value).toArray)(hb:IsTup s.heap b ws.toArray)(h0:Q (.ref b) s):wpAny (model prog w) A (binaryOp .Add (.ref t) (.ref b)) Q E s:=by
 obtain⟨⟨cls,dd,data,sl⟩,ho,hc,n,hd⟩:=id ht;obtain⟨⟨cls2,dd2,data2,sl2⟩,ho2,hc2,n2,hd2⟩:=id hb;simp only at hc hd hc2 hd2;subst hc hd hc2 hd2;exact concat_meets ⟨_,ho,rfl⟩ ⟨_,ho2,rfl⟩ noFill_tuple_add seq_tuple_add PySem.F.slot_tuple_add PySem.F.entry_tuple_add (PySem.F.args_tuple_add_2 _ _)
   (tuple_addW0 t b _ ws.toArray n n2 dd dd2 sl sl2 (by simp)) ⟨ho,ho2,h0⟩
def B2:cY X (binaryOp .Add) (C9 X.K):=by
 intro pins s σ H x y v u Q I rx ry h;obtain⟨a,b,xs,ys,rfl,rfl,ha,hb,hz,q0,q1,q2⟩:=h;by_cases hx:xs=[]
 ·subst hx
  cases rx;cases ry
  obtain⟨its,r1,p1,_⟩:=I.tuple ha;obtain⟨its2,r2,p2,_⟩:=I.tuple hb;obtain rfl:=Paired.sj r1;exact zN p1 p2 ⟨.ref b,H,I,rfl,q0 rfl⟩
 ·exact tG pins s σ H _ _ v u Q I rx ry ⟨a,b,xs,ys,rfl,rfl,ha,hb,hx,hz,q1 hx,q2 hx⟩
def zE(K:W.Frag):R2:=λx y H Q=>(∃i j,x=.int i/\y=.int j/\Q (.int (i+j)) H)\/(∃i j,x=.str i/\y=.str j/\i.length+j.length<=sizeLine/\Q (.str (i++j)) H)\/Ht x y H Q\/C9 K x y H Q
def cG(K:W.Frag)(hK:X.K=K):cY X (binaryOp .Add) (zE K):=by subst hK;exact yj.or (lI.or (yt.or B2))
theorem gX{lo:Int}:∀(n:Nat) (acc:List Value) (k:Nat),acc.length=n->(∀j v,acc[j]?=some v->∃t,v=Value.int (lo+((k+j:Nat):Int)) t)->Vals ((List.range' k n).map λk=>V.int (lo+(k:Nat))) acc
 |0,acc,k,h,_=>by cases acc with|nil=>exact .nil|cons a b=>cases h
 |n+1,[],k,h,_=>by cases h
 |n+1,a::acc,k,h,g=>by
  rw[L3,Ke];refine .cons ?_ (gX n acc (k+1) (by simpa using h) λj v e=>?_)
  ·obtain⟨t,e⟩:=g 0 a rfl;exact⟨t,by simpa using e⟩
  ·obtain⟨t,e2⟩:=g (j+1) v (by simpa using e)
   exact⟨t,by rw[e2];congr 2;lia⟩
def Br:List V->Hp->VK->Prop:=λxs H Q=>(∃j,xs=[.int j]/\∀p,H p=none->Q (.ref p) (upd H p (.pd 0 j)))\/(∃i j,xs=[.int i,.int j]/\∀p,H p=none->Q (.ref p) (upd H p (.pd i j)))
def qe:aZ X (.type "range") Br:=by
 intro pins s σ H xs us Q I r h;rcases h with ⟨j,rfl,q⟩|⟨i,j,rfl,q⟩
 ·obtain⟨u,rfl,t,rfl⟩:=vals1 r;refine call_range_1 ?_;exact⟨.ref s.heap.objs.size,_,I.laid (o:=.pd 0 j) (λb ob q=>J5 _ q) (J8 _) (show b7 X.prog X.w _ _ _ (.pd 0 j) from⟨_,_,_,JK _ rfl⟩),rfl,q _ (I.aP.fresh (J8 _))⟩
 ·obtain⟨u,w',rfl,⟨t,rfl⟩,⟨t',rfl⟩⟩:=vals2 r;refine call_range_2 ?_;exact⟨.ref s.heap.objs.size,_,I.laid (o:=.pd i j) (λb ob q=>J5 _ q) (J8 _) (show b7 X.prog X.w _ _ _ (.pd i j) from⟨_,_,_,JK _ rfl⟩),rfl,q _ (I.aP.fresh (J8 _))⟩
section
variable {X:Cx} {a b c e o:Expr} {es rest:List Expr} {ua ub uc ue uo:UE} {uA uB:UT} {us:UA} {pos p p2 p3:Pos} {x:Str}
def yT(xs:List α)(lo hi:Option Int):List α:=(xs.drop (HT.bB xs.length 0 lo)).take (HT.bB xs.length xs.length hi-HT.bB xs.length 0 lo)
def Hv(K:W.Frag):V->Option Int->Option Int->Hp->VK->Prop:=λx lo hi H Q=>∃a xs,x=.ref a/\bq K H a xs/\HT.bB xs.length 0 lo=0/\HT.bB xs.length xs.length hi=xs.length/\Q (.ref a) H
def i6{A:Around}{s:Shared}{sl:Addr}{vl vu:Value}{lo hi:Option Int}{Q:Value->Shared->Prop}(ht:IsTup s.heap t items)(hs:s.heap.IsSliceOf sl vl vu .none)(pl:IsPart vl lo)(pu:IsPart vu hi)
  (h1:HT.bB items.size 0 lo=0) (h2:HT.bB items.size items.size hi=items.size) (h:Q (.ref t) s):wpAny (model prog w) A (getItem (.ref t) (.ref sl)) Q E s:=by
 obtain⟨os,hos,hcs,hds⟩:=id hs;have hTs:s.TypeIs (.ref sl) "slice":=⟨os,hos,hcs⟩;unfold getItem
 try with_reducible refine Kq ?_
 first|refine Js (J9 ?_)|skip
 refine Js (wpAny_sequenceKey ht.typeIs (by decide) ?_)
 refine Js (K2 (name:=Str.ofString "__getitem__") ht.typeIs Ll
  (K9 Ll ht.typeIs entry_tuple_getitem ?_ (args_tuple_getitem _ _)))
 show wpAny _ _ (Builtin.Tuple.tupleItemsOf (.ref t) >>= _) _ _ s;refine Js (tupleItemsOf_ ht ?_);refine Js (O6 hTs ?_);rw[JA (by decide)]
 refine Js (HT.fA hs pl pu ?_);show wpAny _ _ (if (((HT.bB items.size 0 lo:Nat):Int) == 0 && (1:Int) == 1 && (HT.bB items.size items.size hi-HT.bB items.size 0 lo) == items.size)=true then _ else _) _ _ s
 rw[JA (by rw[h1,h2];simp)]
 unfold Builtin.Tuple.tupleIsExact;refine Js ?_;refine Js (O6 ht.typeIs (J9 ?_));rw[JA (by decide)]
 exact Js (Oz (J9 ⟨_,rfl,J9 h⟩))
def EU:uE X (Hv X.K):=by
 intro pins s σ H x v vl vu lo hi sl Q I rx hs pl pu h;obtain⟨a,xs,rfl,hx,h1,h2,q⟩:=h;cases rx;obtain⟨its,r,ht,hz⟩:=I.tuple hx;have hlen:its.toArray.size=xs.length:=by rw[JD];exact r.length.symm
 exact⟨"tuple",_,Ll.lookup,ht.typeIs,i6 ht hs pl pu (by rw[hlen];exact h1) (by rw[hlen];exact h2) ⟨.ref a,H,I,rfl,q⟩⟩
def Cb(K:W.Frag):V->Option Int->Option Int->Hp->VK->Prop:=λx lo hi H Q=>EA K x lo hi H Q\/sM K x lo hi H Q\/Hv K x lo hi H Q
def pL(K:W.Frag)(hK:X.K=K):uE X (Cb K):=by subst hK;exact nQ.or (rh.or EU)
end
section
variable {X:Cx} {a b c e o tg:Expr} {es rest:List Expr} {ua ub uc ue uo:UE} {uA uB:UT} {us:UA} {pos pos' p p2 p3:Pos} {x:Str} {st:Stmt} {sts xs ys:List Stmt} {u w:US}
def Hi(K:W.Frag)(n:Nat)(t:vL):TG:=λv σ H Q=>∃a xs,v=.ref a/\(bq K H a xs\/bg K H a xs)/\xs.length=n/\t xs σ H Q
theorem ng{prog:Program}{w:World}{A:Around}{E:Value->Shared->Prop}(hne:t≠it):∀(n i:Nat) (s:Shared) (Q:List Value->Shared->Prop),s.heap.IsListIter it t i->s.heap.IsList t items->i+n<=items.size ->
  (∀h',h'.IsListIter it t (i+n)->Heap.SameBut it s.heap h'->Q ((items.toList.drop i).take n) {s with heap:=h'})->wpAny (model prog w) A (draw (.ref it) n) Q E s
 |0,i,s,Q,hit,_,_,hQ=>by
  show wpAny _ _ (pure []) Q E s;exact J9 (by simpa using hQ s.heap hit (Heap.SameBut.refl ..))
 |n+1,i,s,Q,hit,ht,hle,hQ=>by
  have hlt:i<items.size:=by lia
  show wpAny _ _ (pyNext (.ref it) >>= _) Q E s;refine Js (NW hit ht (x:=items[i]) (by simp[hlt]) λh₁ hit₁ hs₁=>?_)
  refine Js (Kq (ng hne n (i+1) _ _ hit₁ (ht.extBut hs₁.extBut hne) (by lia) λh₂ hit₂ hs₂=>J9 ?_))
  have hd:items.toList.drop i=items[i]::items.toList.drop (i+1):=by simp[Ko,hlt]
  have:=hQ h₂ (by rw[show i+(n+1)=i+1+n by lia];exact hit₂) (hs₁.trans hs₂)
  rw[hd,List.take_succ_cons] at this;exact this
def iU{w:World}{A:Around}{s:Shared}{Q:List Value->Shared->Prop}(hh:A.handled=none)(ht:s.heap.IsList t items)
  (hQ:∀h',Heap.ExtBut s.heap.objs.size s.heap h'->Q items.toList {s with heap:=h'}):wpAny (model prog w) A (unpackItems (.ref t) items.size none) Q E s:=by
 have hlt:t≠s.heap.objs.size:=by obtain⟨o,ho,_⟩:=ht;exact JU (JL ho)
 unfold unpackItems;refine Js ?_
 ·unfold notIterableAtAll;refine Js (wpAny_specialOf ht.typeIs F.slot_list_iter.lookup ?_);refine J9 ?_;simp only[KZ,Lz];refine Js (Kq (Nt ht ?_));refine Js (Kq (ng hlt items.size 0 _ _ ⟨_,JK _ rfl,rfl,rfl⟩ (ht.push _) (by lia) λh₁ hit₁ hs₁=>?_))
  have hall:List.take items.size (List.drop 0 items.toList)=items.toList:=by
   rw[KD];exact Kw (by simp)
  rw[hall];rw[Jy (by simp)]
  have ht₁:h₁.IsList t items:=(ht.push _).extBut hs₁.extBut hlt;refine Js (Kq (wpAny_pyNext_list_end hh hit₁ ht₁ (by simp) λh₂ he₂=>?_))
  simp only[Option.isSome_none,KZ,Lz];refine J9 (hQ h₂ λb o hb e=>he₂ b o hb (hs₁.extBut b o hb (J5 _ e)))
def AO{t:vL}{n:Nat}(hc:X.calm=true)(h:FO X es t)
  (hn:autoParam ((assignEach es X.env).length=n) ℜ0) (hst:autoParam ((assignEach es X.env).findIdx? (·.1)=none) ℜ0):PG X (.Tuple es k pos) (Hi X.K n t):=by
 intro pins s σ H v u Q I r hw;obtain⟨a,xs,e1,hq,hl,hw⟩:=hw;rcases hq with hq|hq
 ·exact xQ hc h hn hst pins s σ H v u Q I r ⟨a,xs,e1,hq,hl,hw⟩
 ·subst e1;cases r;obtain⟨its,rv,ht,hz⟩:=I.list hq;rw[assign_Tuple];refine Js (MD ?_);unfold unpack;have hsz:(assignEach es X.env).length=its.toArray.size:=by rw[hn,<- hl,rv.length];simp
  rw[hsz,hst];refine Js (Kq (iU (I.ok.hd hc) ht.isList λh' hx=>?_));have I1:Inv X pins σ H {s with heap:=h'}:=I.kept (t':=s.toks) λb o e=>hx b o (JU (JL e)) e
  exact h pins _ σ H xs _ Q I1 (by simpa using rv) hw
end
end Y
abbrev UI:=Mu->(List T->Option (Nat×List T)->Mu->Prop)->Prop
namespace Y
def wx{α:Type _}{l:List α}(h:l.length=1):∃y,l=[y]:=by
 rcases l with _|⟨a,_|⟨b,t⟩⟩
 ·cases h
 ·exact⟨a,rfl⟩
 ·cases h
def Be{α:Type _}{l:List α}(h:l.length=2):∃y z,l=[y,z]:=by
 rcases l with _|⟨a,t⟩
 ·cases h
 ·obtain⟨b,rfl⟩:=wx (Nat.succ.inj h);exact⟨a,b,rfl⟩
def qm{α:Type _}{l:List α}(h:l.length=3):∃x y z,l=[x,y,z]:=by
 rcases l with _|⟨a,t⟩
 ·cases h
 ·obtain⟨b,c,rfl⟩:=Be (Nat.succ.inj h);exact⟨a,b,c,rfl⟩
def Im{α:Type _}{l:List α}(h:l.length=4):∃w x y z,l=[w,x,y,z]:=by
 rcases l with _|⟨a,t⟩
 ·cases h
 ·obtain⟨b,c,d,rfl⟩:=qm (Nat.succ.inj h);exact⟨a,b,c,d,rfl⟩
end Y
abbrev IT:=List T->(R->List T->Prop)->Prop
def Bt(K:W.Frag)(f:Addr)(cdv:Value):Prop:=∃(o:Obj) (fd:FuncData),K.lookup f=some o/\o.data=.func fd/\fd.code=cdv
def iK(K:W.Frag)(k:Bool)(H:Hp)(a:Addr)(xs:List V):Prop:=if k=true then bg K H a xs else bq K H a xs
def lJ(k:Bool)(h:Heap)(it a:Addr)(i:Nat):Prop:=if k=true then h.IsListIter it a i else h.IsTupleIter it a i
def cf(k:Bool)(h:Heap)(a:Addr)(items:Array Value):Prop:=if k=true then h.IsList a items else h.IsTuple a items
def um{A:Around}(k:Bool)(hh:A.handled=none)(it l:Addr)(hne:l≠it)(items:Array Value):Draws prog w A it [it,l] items.size (λi v=>items[i]?=some v) (λi h=>lJ k h it l i/\cf k h l items):=by
 cases k with
 |true=>exact Draws.list hh it l hne items
 |false=>exact iO hh it l hne items
def Inv.pC{s:Shared}{k:Bool}(I:Inv X pins σ H s)(h:iK X.K k H a xs):∃its:List Value,Vals xs its/\cf k s.heap a its.toArray:=by
 cases k with
 |true=>obtain⟨its,r,p,_⟩:=I.list h;exact⟨its,r,p.isList⟩
 |false=>obtain⟨its,r,p,_⟩:=I.tuple h;exact⟨its,r,p⟩
def Inv.yo{s:Shared}{k:Bool}{ys:List V}(I:Inv X pins σ H s)(h:iK X.K k H a xs)(h':iK X.K k H a ys):xs=ys:=by
 cases k with
 |true=>exact I.kC h h'
 |false=>exact I.iT h h'
def cf.ty{k:Bool}(x:cf k h a items):∃o,h.get? a=some o/\(o.cls=.type "list"\/o.cls=.type "tuple")/\∃n,o.data=.seq items n:=by
 cases k with
 |true=>obtain⟨o,e,c,n,d⟩:=(show h.IsList a items from x);exact⟨o,e,.inl c,n,d⟩
 |false=>obtain⟨o,e,c,n,d⟩:=(show h.IsTuple a items from x);exact⟨o,e,.inr c,n,d⟩
def lJ.ty{k:Bool}(x:lJ k h it a i):∃o,h.get? it=some o/\(o.cls=.type "list_iterator"\/o.cls=.type "tuple_iterator")/\o.data=.fields #[.ref a,.int i 0]:=by
 cases k with
 |true=>obtain⟨o,e,c,d⟩:=(show h.IsListIter it a i from x);exact⟨o,e,.inl c,d⟩
 |false=>obtain⟨o,e,c,d⟩:=(show h.IsTupleIter it a i from x);exact⟨o,e,.inr c,d⟩
noncomputable def vp(k:Bool):String:=if k=true then "list_iterator" else "tuple_iterator"
def yc(x:h.IsTuple a items)(o:Obj):(h.push o).IsTuple a items:=by
 obtain⟨ob,e,r⟩:=x;exact⟨ob,J5 _ e,r⟩
def GJ{k:Bool}(e:h.get? it=some {cls:=.type (vp k),data:=.fields #[.ref a,.int 0 0]}):lJ k h it a 0:=by
 cases k with
 |true=>exact⟨_,e,rfl,rfl⟩
 |false=>exact⟨_,e,rfl,rfl⟩
def qH(K:W.Frag):Sp:=λvs H Q _=>∃(a:Addr) (ns:List Int),vs=[.ref a]/\bg K H a (ns.map V.int)/\ns.length<=63/\∀H',Q (.bl true) H'
namespace Y
def lH:fillsNumberSlot (.type "tuple") "mul"=pure false:=
 PySem.fillsNumberSlot_seq (id:="tuple.__mul__") (r:=some (.builtin "tuple.__rmul__")) PySem.F.slot_tuple_mul.lookup (by decide +kernel) PySem.F.slot_tuple_rmul.lookup (by decide +kernel)
def si:seqRepeat? (.type "tuple")=pure (some (.builtin "tuple.__mul__")):=by
 unfold seqRepeat?;rw[PySem.seqSlot_of (T:="tuple") (name:="__mul__") (id:="tuple.__mul__") PySem.F.slot_tuple_mul.lookup (by decide +kernel),PySem.seqSlot_of (T:="tuple") (name:="__rmul__") (id:="tuple.__rmul__") PySem.F.slot_tuple_rmul.lookup (by decide +kernel)];rfl
def xy(a:Int)(t:Tok)(l:Addr)(ob:Obj)(items:Array Value)(n:Nat)(hc:ob.cls=.type "tuple")(hd:ob.data=.seq items n):
  Meets (Builtin.«int.__rmul__» ⟨[.int a t,.ref l],[]⟩) (λ_ R s=>s.heap.get? l=some ob/\R (.ok (.ret Value.notImplemented)) s):=
 .of_wp λprog w A R s h=>by
  obtain⟨hp,g,d,tk,os⟩:=s;obtain⟨hl,h⟩:=h;obtain⟨c,dd,da,sl⟩:=ob;simp only at hc hd;subst hc hd
  wp_walk
  exact⟨_,rfl,h⟩
def Ct(l:Addr)(items:Array Value)(ob:Obj)(n:Nat)(k:Int)(t:Tok)(hc:ob.cls=.type "tuple")(hd:ob.data=.seq items n)(hne:items.isEmpty=false)(h1:1<k)(h2:k<=1000)(hsz:items.size<=1000):
  Meets (Builtin.«tuple.__mul__» ⟨[.ref l,.int k t],[]⟩) (λ_ R s=>s.heap.get? l=some ob/\R (.ok (.ret (.ref s.heap.objs.size))) {s with heap:=s.heap.push {cls:=.type "tuple",data:=.seq ((List.replicate k.toNat items).foldl (·++·) #[])}}):=
 .of_wp λprog w A R s h=>by
  obtain⟨hp,g,d,tk,os⟩:=s;obtain⟨hl,h⟩:=h;obtain⟨c,dd,da,sl⟩:=ob;simp only at hc hd;subst hc hd;have e1:(decide (k < -(2^63)) || decide (k >= 2^63))=false:=by rw[JV (by lia),JV (by lia)];rfl
  have e2:(items.isEmpty || k == 1)=false:=by rw[hne,Kz.mpr (by lia)];rfl
  have e3:(decide (k<=0) || items.isEmpty)=false:=by rw[hne,JV (by lia)];rfl
  wp_walk using AutoSeq1.wpAny_loadPart' hl;rw[Jy (by rw[e1];exact JF)]
  have ht:IsTup (Shared.heap ⟨hp,g,d,tk,os⟩) l items:=⟨_,hl,rfl,n,rfl⟩;show wpAny _ _ (Builtin.Tuple.tupleItemsOf (.ref l) >>= _) _ _ _;refine Js (tupleItemsOf_ ht ?_);rw[Jy (by rw[e2];exact JF)]
  show wpAny _ _ (if (decide (k<=0) || items.isEmpty)=true then _ else _) _ _ _
  rw[Jy (by rw[e3];exact JF)]
  have hm:(items.size:Int)*k<=1000*1000:=Int.mul_le_mul (by lia) h2 (by lia) (by lia)
  show wpAny _ _ (if (items.size:Int)*k >(2^63-1) / 8 then _ else _) _ _ _
  rw[Jy (by lia)]
  show wpAny _ _ (if Builtin.Tuple.tupleTooMany ((items.size:Int)*k)=true then _ else _) _ _ _
  have e4:Builtin.Tuple.tupleTooMany ((items.size:Int)*k)=false:=JV (by
   have:((sizeLine:Nat):Int) >= 1000000:=by decide
   lia)
  rw[Jy (by rw[e4];exact JF)]
  have hl2:((List.replicate k.toNat items).foldl (·++·) #[]).size<=sizeLine:=by
   have fs:∀(m:Nat) (acc:Array Value),((List.replicate m items).foldl (·++·) acc).size=acc.size+m*items.size:=λm=>by
    induction m with
    |zero=>intro acc;simp
    |succ m ih=>intro acc;rw[Kk,List.foldl_cons,ih,Nu,My];lia
   rw[fs];have h3:k.toNat*items.size<=1000*1000:=Nat.mul_le_mul (by lia) hsz
   have h4:(1000000:Nat)<=sizeLine:=by decide
   simp;lia
  exact Js (m:=Builtin.Tuple.tupleExact _) (KR (J9 ⟨_,rfl,h⟩) hl2)
def uZ(its:List Value):∀(m:Nat) (acc:List Value),(List.replicate m its.toArray).foldl (·++·) acc.toArray=(acc++(List.replicate m its).flatten).toArray:=λm acc=>foldl_rep its m acc
def Di(K:W.Frag):R2:=λx y H Q=>∃a k xs,x=.ref a/\y=.int k/\bq K H a xs/\xs≠[]/\xs.length<=1000/\1<k/\k<=1000/\∀p,H p=none->Q (.ref p) (upd H p (.tup (List.replicate k.toNat xs).flatten))
def BL:cY X (binaryOp .Mult) (Di X.K):=by
 intro pins s σ H x y v u Q I rx ry h;obtain⟨a,k,xs,rfl,rfl,hx,hne,hsz,h1,h2,q⟩:=h;cases rx;obtain⟨t,rfl⟩:=ry;obtain⟨its,r,p,hz⟩:=I.tuple hx;obtain⟨ob,ho,hc,n,hd⟩:=id p;have hlen:=r.length;have hemp:its.toArray.isEmpty=false:=by
  cases its with
  |nil=>cases r;exact absurd rfl hne
  |cons a b=>rfl
 refine N1 (T:="tuple") (U:="int") (by decide) ⟨_,ho,hc⟩ (λs'=>N0 s' k t) lH PySem.F.fills_int_mul PySem.F.slot_int_rmul si PySem.F.slot_int_index.lookup
  (LJ PySem.F.slot_int_rmul (N0 s k t) PySem.F.entry_int_rmul (PySem.F.args_int_rmul_2 _ _) (xy k t a ob its.toArray n hc hd)
   ⟨ho,rfl,⟨_,ho,hc⟩,LJ PySem.F.slot_tuple_mul ⟨_,ho,hc⟩ PySem.F.entry_tuple_mul (PySem.F.args_tuple_mul_2 _ _) (Ct a its.toArray ob n k t hc hd hemp h1 h2 (by rw[JD];lia)) ⟨ho,?_⟩⟩)
 have e0:=uZ its k.toNat [];rw[Le] at e0;have e0':(List.replicate k.toNat its.toArray).foldl (·++·) #[]=(List.replicate k.toNat its).flatten.toArray:=e0;rw[e0'];refine⟨.ref s.heap.objs.size,_,I.laid (t':=s.toks) (o:=.tup (List.replicate k.toNat xs).flatten) (λb ob q=>J5 _ q) (J8 _) ?_,rfl,q _ (I.aP.fresh (J8 _))⟩;refine⟨?_,_,r.rep k.toNat,ee.new _ _⟩;rw[len_rep];have h3:k.toNat*xs.length<=1000*1000:=Nat.mul_le_mul (by lia) hsz
 exact JC h3 (by decide)
def CA(K:W.Frag):R2:=λx y H Q=>EX x y H Q\/Di K x y H Q
def oV(K:W.Frag)(hK:X.K=K):cY X (binaryOp .Mult) (CA K):=by subst hK;exact cF.or BL
end Y
open PySem PySem.Spec PyProof PyProof.Rows
namespace Y
theorem fC:∀{us:List Value} {ns:List Int},IntsAre us ns->Vals (ns.map V.int) us
 |_,_,.nil=>.nil
 |_,_,.cons n t h=>.cons ⟨t,rfl⟩ (fC h)
theorem kK:∀{us:List Value} {ns:List Int},IntsAre us ns->us.length=ns.length
 |_,_,.nil=>rfl
 |_,_,.cons n t h=>by simp[kK h]
section
variable {prog:Program} {w:World} {A:Around} {E:Value->Shared->Prop} {s:Shared}
def qG{l:Addr}{vs:List Value}{Q:List Value->Shared->Prop}(hl:IsTup s.heap l vs.toArray)(hsz:vs.length<=sizeLine)
  (h:Q vs {s with heap:=(s.heap.push (seqObj "list" #[] 0)).update s.heap.objs.size (Obj.mapSeq (·++vs.toArray))}):wpAny (model prog w) A (collect (.ref l)) Q E s:=by
 obtain⟨o,ho,hc,n,hd⟩:=id hl;unfold collect;refine Js (wpAny_runValue (MS entry_proto_collect' ?_));show wpAny _ _ (do again (.builtin "list.__iadd__" ⟨[<- newList [],.ref l],[]⟩)) _ _ s
 refine Js (Mn (J9 ⟨Code.quiet_builtin _ (by decide +kernel),MS entry_list_iadd' ?_⟩))
 show wpAny _ _ (Builtin.List.listExtendWith (.ref s.heap.objs.size) (.ref l) (.ref s.heap.objs.size)) _ _ {s with heap:=s.heap.push (seqObj "list" #[] 0)}
 unfold Builtin.List.listExtendWith;have ho':(s.heap.push (seqObj "list" #[] 0)).get? l=some o:=J5 _ ho;refine Js (O6 (T:="tuple") ⟨o,ho',hc⟩ ?_);have ht:(Value.type "tuple" == Value.type "tuple")=true:=by rfl
 rw[JA (by rw[ht];simp)]
 refine Js (MT ho' hd ?_);refine Js (MT (xs:=#[]) (n:=0) (JK _ rfl) rfl ?_);rw[Jy (by simp)]
 refine Js (ME (xs:=#[]) (n:=0) (JK _ rfl) rfl ?_ (JJ _) (by show (#[]++vs.toArray).size<=sizeLine+1;simp only[Nu,JD,KW];lia))
 refine J9 ?_;show wpAny (model prog w) A (load s.heap.objs.size >>= _) Q E {s with heap:=(s.heap.push (seqObj "list" #[] 0)).update s.heap.objs.size (Obj.mapSeq (·++vs.toArray))}
 refine Js (wpAny_load (Mr (JK _ rfl) _) ?_);show wpAny _ _ (pure ((#[]:Array Value)++vs.toArray).toList) Q E _;rw[show ((#[]:Array Value)++vs.toArray).toList=vs by simp]
 exact J9 h
def sH{l:Addr}{vs:List Value}{Q:Value->Shared->Prop}(hl:IsTup s.heap l vs.toArray)(hI:IntsAre vs ns)(h64:vs.length<64)
  (h:∀(out:Array Value) (ns':List Int),IntsAre out.toList ns'->ns'.Perm ns->ns'.Pairwise (·<=·)->Q (.ref (s.heap.objs.size+1)) {s with heap:=sortedAll s.heap vs out}) :
  wpAny (model prog w) A (call (.builtin "sorted") [.ref l]) Q E s:=by
 have hz:vs.length<=sizeLine:=JC (L6 h64) (by decide)
 refine N2 kind_sorted plain_sorted entry_sorted (args_sorted1 _) ?_;unfold Builtin.«sorted»;refine Js (m:=checkCount "sorted" 1 1 _) (J9 ?_);refine Js (qG hl hz ?_);refine Js (Mn ?_ hz);have hs:((s.heap.push (seqObj "list" #[] 0)).update s.heap.objs.size (Obj.mapSeq (·++vs.toArray))).objs.size=s.heap.objs.size+1:=by rw[NB,size_push']
 have ho:(((s.heap.push (seqObj "list" #[] 0)).update s.heap.objs.size (Obj.mapSeq (·++vs.toArray))).push (seqObj "list" vs.toArray 0)).get? (s.heap.objs.size+1)=some (seqObj "list" vs.toArray 0):=by
  rw[<- hs];exact JK _ rfl
 show wpAny _ _ _ _ _ {s with heap:=((s.heap.push (seqObj "list" #[] 0)).update s.heap.objs.size (Obj.mapSeq (·++vs.toArray))).push (seqObj "list" vs.toArray 0)}
 rw[hs];refine Js (Kq (K9 slot_list_sort ⟨_,ho,rfl⟩ entry_list_sort (list_sort_tree ho hI h64 λout ns' a1 a2 a3=>⟨_,rfl,?_⟩) (args_list_sort _)));exact J9 ⟨_,rfl,h out ns' a1 a2 a3⟩
end
def CH(K:W.Frag):List V->Hp->VK->Prop:=λxs H Q=>∃p ns,xs=[.ref p]/\bq K H p (ns.map V.int)/\ns.length<64/\∀ns':List Int,ns'.Perm ns->ns'.Pairwise (·<=·)->∀l,H l=none->Q (.ref l) (upd H l (.lst (ns'.map V.int)))
def vt(K:W.Frag)(hK:X.K=K):aZ X (.builtin "sorted") (CH K):=by
 subst hK;intro pins s σ H xs us Q I r h;obtain⟨p,ns,rfl,hq,h64,q⟩:=h;obtain⟨u,rfl,ru⟩:=vals1 r;cases ru;obtain⟨its,rv,pl,hz⟩:=I.tuple hq;have hi:=intsAre_of rv;refine sH pl hi (by rw[kK hi];exact h64) λout ns' a1 a2 a3=>?_
 obtain⟨e,he⟩:=sortedAll_at s.heap its out;refine⟨.ref (s.heap.objs.size+1),_,I.laid (t':=s.toks) (λb ob q=>sortedAll_old q) (KQ _) (show b7 X.prog X.w _ _ _ (.lst (ns'.map V.int)) from⟨?_,out.toList,e,fC a1,by simpa using he⟩),rfl,q ns' a2 a3 _ (I.aP.fresh (KQ _))⟩
 rw[Jt,a2.length_eq];exact JC (L6 h64) (by decide)
theorem Ab(l:List Nat):∀(n a:Nat),((List.range n).map (λk=>a+k)).filterMap (l[·]?)=(l.drop a).take n
 |0,_=>by simp
 |n+1,a=>by
  rw[Ms,JN,List.filterMap_append,Ab l n a,Nv,K4]
  cases h:l[a+n]?<;>simp[h]
def qz(lo hi:Option Int)(n:Nat):Builtin.Str.strSliceIndices lo hi 1 n=(List.range (HT.bB n n hi-HT.bB n 0 lo)).map (λk=>HT.bB n 0 lo+k):=by
 have ea:∀(v:Int),max 0 (min (if v<0 then v+(n:Int) else v) (n:Int))=(((if v<0 then (v+(n:Int)).toNat else min v.toNat n):Nat):Int):=by
  intro v;split<;>lia
 have e:Builtin.Str.strSliceIndices lo hi 1 n=sliceRange (HT.bB n 0 lo) (HT.bB n n hi) 1:=by
  cases lo with
  |none=>cases hi with
   |none=>rfl
   |some j=>show sliceRange 0 (max 0 (min (if j<0 then j+(n:Int) else j) (n:Int))) 1=_;rw[ea];rfl
  |some i=>cases hi with
   |none=>show sliceRange (max 0 (min (if i<0 then i+(n:Int) else i) (n:Int))) n 1=_;rw[ea];rfl
   |some j=>show sliceRange (max 0 (min (if i<0 then i+(n:Int) else i) (n:Int))) (max 0 (min (if j<0 then j+(n:Int) else j) (n:Int))) 1=_;rw[ea,ea];rfl
 rw[e];generalize HT.bB n 0 lo=a;generalize HT.bB n n hi=b;unfold sliceRange;simp only[show ((1:Int) > 0)=True from by simp,LV,Int.one_mul]
 have c:(if (a:Int)<(b:Int) then ((b:Int)-a+1-1) / 1 else 0).toNat=b-a:=by split<;>lia
 rw[c];refine List.map_congr_left λk _=>?_;lia
def sA(z:Str)(lo hi:Option Int):Txt.slice z lo hi=⟨((z.cps.toList.drop (HT.bB z.cps.toList.length 0 lo)).take (HT.bB z.cps.toList.length z.cps.toList.length hi-HT.bB z.cps.toList.length 0 lo)).toArray⟩:=by
 have hl:z.cps.toList.length=z.length:=Kj;rw[hl];have hp:(Builtin.Str.strSliceIndices lo hi 1 z.length).filterMap (z.cps[·]?)=(z.cps.toList.drop (HT.bB z.length 0 lo)).take (HT.bB z.length z.length hi-HT.bB z.length 0 lo):=by
  rw[qz];have:=Ab z.cps.toList (HT.bB z.length z.length hi-HT.bB z.length 0 lo) (HT.bB z.length 0 lo)
  simpa using this
 unfold Txt.slice;split
 ·rename_i h;rw[qz] at h;simp at h;have h2:=HT.rN z.length z.length (J8 _) hi;have h3:=HT.rN z.length 0 (JJ _) lo;have a0:HT.bB z.length 0 lo=0:=by lia
  have b0:HT.bB z.length z.length hi=z.length:=by lia
  rw[a0,b0,KD,Me,<- hl,Kb]
 ·rw[hp]
def j7(z:Str)(lo hi:Option Int):Str:=⟨(yT z.cps.toList lo hi).toArray⟩
def uX(z:Str)(lo hi:Option Int):Txt.slice z lo hi=j7 z lo hi:=sA z lo hi
def IB:V->Option Int->Option Int->Hp->VK->Prop:=λx lo hi H Q=>∃z,x=.str z/\z.length<=sizeLine/\Q (.str (j7 z lo hi)) H
def rR:uE X IB:=by
 intro pins s σ H x v vl vu lo hi sl Q I rx hs pl pu h;obtain⟨z,rfl,hz,q⟩:=h;rw[<- uX] at q;obtain⟨t,rfl⟩:=rx;refine⟨"str",_,PySem.F.slot_str_getitem.lookup,typeIs_str _ _ _,?_⟩
 cases pl<;>cases pu
 ·exact LS (l:=none) (u:=none) (st:=none) hs rfl (MU ⟨JC (Txt.slice_le z _ _) hz,λt' k=>⟨.str _,H,I.tok _,⟨_,rfl⟩,q⟩⟩)
 ·exact LS (l:=none) (u:=some (_,_)) (st:=none) hs rfl (MU ⟨JC (Txt.slice_le z _ _) hz,λt' k=>⟨.str _,H,I.tok _,⟨_,rfl⟩,q⟩⟩)
 ·exact LS (l:=some (_,_)) (u:=none) (st:=none) hs rfl (MU ⟨JC (Txt.slice_le z _ _) hz,λt' k=>⟨.str _,H,I.tok _,⟨_,rfl⟩,q⟩⟩)
 ·exact LS (l:=some (_,_)) (u:=some (_,_)) (st:=none) hs rfl (MU ⟨JC (Txt.slice_le z _ _) hz,λt' k=>⟨.str _,H,I.tok _,⟨_,rfl⟩,q⟩⟩)
end Y
def Fl(h:Heap)(e:Addr)(cls:Value)(d:Option Addr):Option Addr->Prop
 |none=>∃oe vs,h.get? e=some oe/\oe.cls=cls/\oe.dict=d/\oe.data=.fields vs/\vs[1]?=some Value.none
 |some T=>∃oe vs oT ts,h.get? e=some oe/\oe.cls=cls/\oe.dict=d/\oe.data=.fields vs/\vs[1]?=some (.ref T)/\T≠e/\h.get? T=some oT/\oT.data=.fields ts/\3<ts.size
def Fl.is(f:Fl h e cls d To):iN e cls d h:=by
 cases To with
 |none=>obtain⟨oe,vs,h1,h2,h3,h4,_⟩:=f;exact⟨oe,vs,h1,h2,h3,h4⟩
 |some T=>obtain⟨oe,vs,_,_,h1,h2,h3,h4,_⟩:=f;exact⟨oe,vs,h1,h2,h3,h4⟩
def iN.ok(x:iN e cls d h):b7 P w H h e (.ext (iN e cls d)):=
 ⟨x,let ⟨o,_,h1,_⟩:=x;⟨o,h1⟩,λh1 h2 ⟨o,vs,a,b,c,d⟩ k=>⟨o,vs,k o a,b,c,d⟩⟩
def iN.one{cls':Value}{d':Option Addr}(x:iN e cls d h)(y:iN e cls' d' h):cls=cls'/\d=d':=by
 obtain⟨o,_,h1,h2,h3,_⟩:=x;obtain⟨o',_,g1,g2,g3,_⟩:=y;rw[h1] at g1;cases g1;exact⟨h2.symm.trans g2,h3.symm.trans g3⟩
structure Mv (h h':Heap) (e:Addr) (To:Option Addr) (fs:List Addr) (T':Addr):Prop where
 keep:∀b o,b≠e->(∀T,To=some T->b≠T)->b∉fs->h.get? b=some o->h'.get? b=some o
 slot:∀b o,b∈fs->h.get? b=some o->∃sl,h'.get? b=some {o with slots:=sl}
 new:(h.get? T'=none\/To=some T')/\T'∉fs
section
variable {h:Heap} {e:Addr} {cls:Value} {d:Option Addr} {base:Heap} {l:List Env}
def Fl.yZ{T:Addr}(f:Fl h e cls d (some T))(hl:h.FunFrames base l):T∉jo l:=λm=>by
 obtain⟨_,o,ho,hd⟩:=hl.mem m;obtain⟨_,_,oT,ts,_,_,_,_,_,_,hT,hdT,_⟩:=f;rw[hT] at ho;cases ho;exact hd ts hdT
def zq{o:Obj}{vs:Array Value}(q:o.data=.fields vs)(g:Array Value->Array Value):o.mapFields g={o with data:=.fields (g vs)}:=by
 obtain⟨c,dd,dt,sl⟩:=o;cases q;rfl
end
section
variable {M:Model} {A:Around} {E:Value->Shared->Prop} {s:Shared} {env:Env} {outer:List Env} {L e:Addr} {cls:Value} {d:Option Addr} {base:Heap}
def nR{o:Obj}{vs:Array Value}{x:Value}(ho:s.heap.get? a=some o)(hd:o.data=.fields vs)(hi:i<vs.size)
  (hq:∀h':Heap,(∀b,b≠a->h'.get? b=s.heap.get? b)->h'.get? a=some {o with data:=.fields (vs.setIfInBounds i x)}->Q () {s with heap:=h'}):wpAny M A (setField (.ref a) i x) Q E s:=by
 have hm:=zq hd (·.setIfInBounds i x);refine M6 ho hd hi (hq _ (λb n=>LZ _ _ (KA n)) ?_);have:=LC (Obj.mapFields (·.setIfInBounds i x)) ho (MJ (LY hd _));rw[hm] at this;exact this
def jh{T:Addr}{fl:Value}{oe oT:Obj}{vs ts:Array Value}(he:s.heap.get? e=some oe)(hd:oe.data=.fields vs)(h1:vs[1]?=some (.ref T))(hne:T≠e)(hT:s.heap.get? T=some oT)(hdT:oT.data=.fields ts)(h3:ts[3]?=some fl)
  (hq:∀h':Heap,(∀b,b≠T->h'.get? b=s.heap.get? b)->h'.get? T=some {oT with data:=.fields (ts.setIfInBounds 3 .none)}->Q () {s with heap:=h'}):wpAny M A (setFlight (.ref e) none) Q E s:=by
 unfold setFlight;refine Js (Lg he hd h1 ?_);rw[JA (by simp)]
 exact nR hT hdT (Kf.mp h3).1 hq
def tF{oe:Obj}{vs:Array Value}{head:Value}{hn:Bool}(hfr:A.frames=some (env::outer))(hf:env.frame=some L)(hl:s.heap.FunFrames base (env::outer))(he:s.heap.get? e=some oe)(hd:oe.data=.fields vs)(hsz:1<vs.size)
  (hq:∀(h':Heap) (T':Addr) (oT:Obj) (ts:Array Value),(∀b o,b≠e->b∉jo (env::outer)->s.heap.get? b=some o->h'.get? b=some o)->(∀b o,b∈jo (env::outer)->s.heap.get? b=some o->∃sl,h'.get? b=some {o with slots:=sl}) ->
   s.heap.get? T'=none->h'.get? e=some {oe with data:=.fields (vs.setIfInBounds 1 (.ref T'))}->h'.get? T'=some oT->oT.data=.fields ts->ts[3]?=some (rawInt L)->T'≠e->T'∉jo (env::outer)->Q () {s with heap:=h'}) :
  wpAny M A (frameOf env >>= λa=>entryPlaceOf L hn >>= λpl=>EntryCells.newEntry head a .none (rawInt L) .none pl >>= λb=>setField (.ref e) 1 b) Q E s:=by
 have nfe:e∉jo (env::outer):=λm=>by
  obtain⟨_,o,ho,hnf⟩:=hl.mem m;rw[he] at ho;cases ho;exact hnf vs hd
 refine Js (wpAny_frameOf_fun hfr hl hf λh1 hs=>?_);obtain⟨hs1,hs2,hs3⟩:=hs;refine Js (wpAny_entryPlaceOf λpl hpl=>?_);unfold EntryCells.newEntry newFields;refine Js (KR ?_ (hpl.sizeOk5 _ _ _ _ _));have e1:h1.get? e=some oe:=(hs2 e nfe).trans he;have hsize:∀b o,h1.get? b=some o->b≠h1.objs.size:=λb o q=>JU (JL q);refine nR (J5 _ e1) hd hsz λh2 k1 k2=>?_;have nfT:h1.objs.size∉jo (env::outer):=λm=>by
  obtain⟨_,o,ho,_⟩:=hl.mem m;obtain⟨sl,q⟩:=hs3 _ o ho;exact hsize _ _ q rfl
 refine hq h2 h1.objs.size _ _ (λb o n1 n2 q=>?_) (λb o m q=>?_) ?_ k2 ((k1 _ (KA (hsize _ _ e1))).trans (JK h1 rfl)) rfl ?_ (KA (hsize _ _ e1)) nfT
 ·rw[k1 b n1];exact J5 _ ((hs2 b n2).trans q)
 ·obtain⟨sl,q1⟩:=hs3 b o q;exact⟨sl,(k1 b λz=>nfe (by rw[<- z];exact m)).trans (J5 _ q1)⟩
 ·cases q:s.heap.get? h1.objs.size with
  |none=>rfl
  |some o =>
   obtain⟨sl,q1⟩:=hs3 _ o q;exact absurd rfl (hsize _ _ q1)
 ·rcases hpl with rfl|⟨_,_,_,_,_,_,_,rfl⟩<;>simp
def qu{T:Addr}{l:List Env}(hl:s.heap.FunFrames base l)(f:Fl s.heap e cls d (some T))
  (hq:∀h' T',Mv s.heap h' e (some T) (jo l) T'->Fl h' e cls d (some T')->Q () {s with heap:=h'}):wpAny M A (setFlight (.ref e) none) Q E s:=by
 have nfT:=f.yZ hl;obtain⟨oe,vs,oT,ts,g1,g2,g3,g4,g5,g6,g7,g8,g9⟩:=id f;refine jh g1 g4 g5 g6 g7 g8 (LK g9) λh2 j1 j2=>?_;refine hq h2 T ⟨λb o n1 n2 n3 q=>(j1 b (n2 T rfl)).trans q,λb o m q=>⟨o.slots,(j1 b λz=>nfT (by rw[<- z];exact m)).trans q⟩,.inr rfl,nfT⟩ ⟨_,_,_,_,(j1 e (KA g6)).trans g1,g2,g3,g4,g5,g6,j2,rfl,?_⟩
 simp[g9]
def p_(hfr:A.frames=some (env::outer))(hf:env.frame=some L)(hl:s.heap.FunFrames base (env::outer))(f:Fl s.heap e cls d To)
  (hq:∀h' T',Mv s.heap h' e To (jo (env::outer)) T'->Fl h' e cls d (some T')->Q () {s with heap:=h'}):wpAny M A (noteFrame (.ref e) env) (λ_ s2=>wpAny M A (setFlight (.ref e) none) Q E s2) E s:=by
 unfold noteFrame;simp only[hf]
 cases To with
 |none =>
  obtain⟨oe,vs,g1,g2,g3,g4,g5⟩:=id f;have hsz:=(Kf.mp g5).1;refine Js (Lg g1 g4 g5 ?_);rw[Jy (by decide)]
  refine tF hfr hf hl g1 g4 hsz λh1 T' oT ts k1 k2 k3 k4 k5 k6 k7 k8 k9=>?_;refine jh (s:={s with heap:=h1}) k4 rfl (by simp[hsz]) k8 k5 k6 k7 λh2 j1 j2=>?_
  have nT:∀b o,s.heap.get? b=some o->b≠T':=λb o q z=>by rw[z,k3] at q;cases q
  refine hq h2 T' ⟨λb o n1 _ n3 q=>?_,λb o m q=>?_,.inl k3,k9⟩ ⟨_,_,_,_,(j1 e (KA k8)).trans k4,g2,g3,rfl,by simp[hsz],k8,j2,rfl,?_⟩
  ·exact (j1 b (nT b o q)).trans (k1 b o n1 n3 q)
  ·obtain⟨sl,q1⟩:=k2 b o m q;exact⟨sl,(j1 b (nT b o q)).trans q1⟩
  ·have:=(Kf.mp k7).1;simp[this]
 |some T =>
  obtain⟨oe,vs,oT,ts,g1,g2,g3,g4,g5,g6,g7,g8,g9⟩:=id f;have hsz:=(Kf.mp g5).1;have nfT:=f.yZ hl;refine Js (Lg g1 g4 g5 ?_);rw[JA (by simp)]
  refine Js (Lg g7 g8 (LK g9) ?_);by_cases cL:(ts[3] == rawInt L)=true
  ·rw[JA cL];exact J9 (qu hl f hq)
  rw[Jy cL];refine Js (nR g7 g8 g9 λh0 i1 i2=>?_);have hl0:h0.FunFrames base (env::outer):=hl.of_keeps λb o q hn=>⟨o,(i1 b λz=>by rw[z,g7] at q;cases q;exact hn ts g8).trans q,rfl⟩
  refine tF (s:={s with heap:=h0}) hfr hf hl0 ((i1 e (KA g6)).trans g1) g4 hsz λh1 T' oT' ts' k1 k2 k3 k4 k5 k6 k7 k8 k9=>?_
  refine jh (s:={s with heap:=h1}) k4 rfl (by simp[hsz]) k8 k5 k6 k7 λh2 j1 j2=>?_
  have nTT:T'≠T:=λz=>by
   have k3':h0.get? T'=none:=k3;rw[z,i2] at k3';cases k3'
  have nT:∀b o,s.heap.get? b=some o->b≠T':=λb o q z=>by
   have k3':h0.get? T'=none:=k3;rw[<- z] at k3';by_cases z2:b=T
   ·exact nTT (z.symm.trans z2)
   ·rw[i1 b z2,q] at k3';cases k3'
  refine hq h2 T' ⟨λb o n1 n2 n3 q=>?_,λb o m q=>?_,.inl ?_,k9⟩ ⟨_,_,_,_,(j1 e (KA k8)).trans k4,g2,g3,rfl,by simp[hsz],k8,j2,rfl,?_⟩
  ·exact (j1 b (nT b o q)).trans (k1 b o n1 n3 ((i1 b (n2 T rfl)).trans q))
  ·have nbT:b≠T:=λz=>nfT (by rw[<- z];exact m)
   obtain⟨sl,q1⟩:=k2 b o m ((i1 b nbT).trans q);exact⟨sl,(j1 b (nT b o q)).trans q1⟩
  ·exact (i1 T' nTT).symm.trans k3
  ·have:=(Kf.mp k7).1;simp[this]
def vw(hfr:A.frames=some (env::outer))(hf:env.frame=some L)(hl:s.heap.FunFrames base (env::outer))(f:Fl s.heap e cls d To)
  (hq:∀h' T',Mv s.heap h' e To (jo (env::outer)) T'->Fl h' e cls d (some T')->Q () {s with heap:=h'}):wpAny M A (leaving env (.ref e)) Q E s:=by
 unfold leaving;exact Js (p_ hfr hf hl f hq)
end
def gQ.yf(x:gQ P w H h)(k:∀b u,h.get? b=some u->h'.get? b=some u)(hn:H a=none)(new:b7 P w (upd H a o) h' a o):gQ P w (upd H a o) h':=λb u e=>by
 by_cases z:b=a
 ·subst z;rw[aa] at e;cases e;exact new
 ·rw[ak z] at e;exact (x b u e).jI (λc v _ q=>k c v q) (λc q=>by rw[ak (af q hn)];exact q) (λc xs q=>by rw[ak (af q hn)];exact q) λc _ _ q=>by rw[ak (af q hn)];exact q
def Un.yf{fs:List Addr}(k:∀b u,h.get? b=some u->h'.get? b=some u)(h0:h.get? a=none)(hn:H a=none):Un fs ex H (upd H a o) h h' where
 keep:=λb u q _ _ _=>k b u q
 slot:=λb u q _ _ _=>⟨u.slots,k b u q⟩
 free:=λb u q n _=>by rw[ak (λz=>by rw[z,h0] at q;cases q)];exact n
 there:=λb u q _=>⟨u,k b u q⟩
 ka:=λb xs q=>by rw[ak (af q hn)];exact q
 jB:=λb u xs q=>by rw[ak (af q hn)];exact q
 ja:=λb ps q=>⟨#[],by rw[ak (af q hn),q];simp⟩
def gQ.none_of(x:gQ P w H h)(e:h.get? a=none):H a=none:=by
 cases q:H a with
 |none=>rfl
 |some u =>
  have:=x a u q;obtain⟨o,ho⟩:∃o,h.get? a=some o:=by
   clear q
   induction u with
   |lst xs=>obtain⟨_,_,_,_,z⟩:=this;exact⟨_,z⟩
   |tup xs=>obtain⟨_,_,_,o,z,_⟩:=this;exact⟨_,z⟩
   |dK kvs=>obtain⟨_,_,_,_,o,_,_,z,_⟩:=this;exact⟨_,z⟩
   |dT kvs=>obtain⟨_,_,_,_,o,_,_,z,_⟩:=this;exact⟨_,z⟩
   |set S n=>obtain⟨o,_,_,_,z,_⟩:=this;exact⟨_,z⟩
   |ins C dx fs=>obtain⟨_,_,_,z,_⟩:=this;exact⟨_,z⟩
   |own x=>exact this
   |xd fs=>obtain⟨_,⟨o,_,_,z,_⟩,_⟩:=this;exact⟨_,z⟩
   |met f x=>exact⟨_,this⟩
   |pd lo hi=>obtain⟨_,_,_,z⟩:=this;exact⟨_,z⟩
   |ik o u ih=>exact⟨_,this.1⟩
   |wW ps=>obtain⟨_,z,_⟩:=this;exact⟨_,z⟩
   |ext φ=>exact this.2.1
  rw[e] at ho;cases ho
def gQ.moved{T':Addr}{fs:List Addr}(x:gQ P w H h)(mv:Mv h h' e To fs T')(f':iN e cls d h')(he:H e=some (.ext (iN e cls d)))(hT:∀T,To=some T->H T=none)(hf:∀b∈fs,H b=none):gQ P w H h':=λb u q=>by
 by_cases z:b=e
 ·subst z;rw[he] at q;cases q;exact f'.ok
 ·refine (x b u q).jI (λc v hc r=>?_) (λ_ q=>q) (λ_ _ q=>q) λ_ _ _ q=>q;have tr:∃o,H c=some o:=by
   rcases hc with rfl|hc
   ·exact⟨u,q⟩
   ·exact⟨_,hc⟩
  obtain⟨o,tr⟩:=tr;refine mv.keep c v (λz2=>?_) (λT hT' z2=>?_) (λm=>?_) r
  ·rcases hc with rfl|hc
   ·exact z z2
   ·rw[z2,he] at hc;cases hc
  ·rw[z2,hT T hT'] at tr;cases tr
  ·rw[hf c m] at tr;cases tr
section
variable {X:Cx} {pins:List (Addr×Obj)} {σ:St} {H H':Hp} {s:Shared} {h':Heap}
def Inv.GF{ch:List Addr}(I:Inv X pins σ H s)
  (hch:∀b∈ch,X.s₀.heap.get? b=none/\b≠X.env.locals/\(∀x c,X.env.cells.lookup x=some c->c≠b)/\∀p∈X.pn++pins,p.1≠b)
  (keep:∀b o,b≠X.env.locals->b∉X.fs->b∉ch->s.heap.get? b=some o->H b=none->h'.get? b=some o)
  (slot:∀b o,b≠X.env.locals->b∈X.fs->b∉ch->s.heap.get? b=some o->H b=none->∃sl,h'.get? b=some {o with slots:=sl})
  (there:∀b o,b∉ch->s.heap.get? b=some o->∃o',h'.get? b=some o')
  (ns:∀m,s.heap.Ns X.env.locals m->h'.Ns X.env.locals m) (aP:gQ X.prog X.w H h') :
  Inv X pins σ H {s with heap:=h'}:=by
 have neL:∀b o,X.s₀.heap.get? b=some o->b≠X.env.locals:=λb o e=>JU (JT (JL e) I.ok.above);have neC:∀b o,X.s₀.heap.get? b=some o->b∉ch:=λb o e hb=>by rw[(hch b hb).1] at e;cases e
 have cellK:∀x c,X.env.cells.lookup x=some c->∀v,s.heap.IsCell c v->h'.IsCell c v:=λx c e v ⟨o,ho,hd⟩=>by
  have nch:c∉ch:=λz=>(hch c z).2.2.1 x c e rfl;by_cases hc:c∈X.fs
  ·obtain⟨sl,q⟩:=slot c o (I.vJ x c e) hc nch ho (I.cO x c e);exact⟨_,q,hd⟩
  ·exact⟨o,keep c o (I.vJ x c e) hc nch ho (I.cO x c e),hd⟩
 refine⟨I.ok,I.os,I.bare,⟨λb o e n hb hx=>?_,λb o e n hb hx=>?_,I.base.free,λb o e hx=>?_,I.base.ka,I.base.jB,I.base.ja⟩,?_,λx c e=>?_,I.free,I.cO,λp hp=>?_,aP,I.len⟩
 ·exact keep b o (neL b o e) hb (neC b o e) (I.base.keep b o e n hb hx) (I.base.free b o e n hx)
 ·obtain⟨sl,e1⟩:=I.base.slot b o e n hb hx;obtain⟨sl',e2⟩:=slot b _ (neL b o e) hb (neC b o e) e1 (I.base.free b o e n hx);exact⟨sl',e2⟩
 ·obtain⟨o',e1⟩:=I.base.there b o e hx;exact there b o' (neC b o e) e1
 ·obtain⟨m,hn,hl⟩:=I.loc;refine⟨m,ns m hn,λi x v e1 e2 e3=>?_⟩;obtain⟨u,r,l⟩:=hl i x v e1 e2 e3;refine⟨u,r,?_⟩;rcases l with l|⟨k,c,e,z⟩
  ·exact .inl l
  ·exact .inr ⟨k,c,e,cellK x c e _ z⟩
 ·obtain⟨v,z⟩:=I.cell x c e;exact⟨v,cellK x c e v z⟩
 ·obtain⟨e,n,ne,nf,d⟩:=I.pin p hp;have nch:p.1∉ch:=λz=>(hch p.1 z).2.2.2 p hp rfl;exact⟨keep p.1 p.2 ne nf nch e n,n,ne,nf,d⟩
structure Nw (X:Cx) (pins:List (Addr×Obj)) (H:Hp) (e:Addr) (cls:Value) (d To:Option Addr):Prop where
 tr:H e=some (.ext (iN e cls d))
 e0:X.s₀.heap.get? e=none
 d0:∀a,d=some a->X.s₀.heap.get? a=none
 t0:∀T,To=some T->H T=none/\X.s₀.heap.get? T=none/\∀p∈X.pn++pins,p.1≠T
def Inv.moved{T':Addr}(I:Inv X pins σ H s)(hex:X.ex=[])(f:Fl s.heap e cls d To)(nw:Nw X pins H e cls d To)(mv:Mv s.heap h' e To (jo X.stack) T')(f':Fl h' e cls d (some T')):
  Inv X pins σ H {s with heap:=h'}/\Nw X pins H e cls d (some T'):=by
 have hfr:=I.jT;have teT:∀T o,To=some T->s.heap.get? T=some o->T∉jo X.stack:=λT o hT _=>by subst hT;exact f.yZ I.stack
 have hne:∀b o,s.heap.get? b=some o->H b=none->b≠e:=λb o _ n z=>by rw[z,nw.tr] at n;cases n
 refine⟨I.GF (ch:=To.toList) (λb hb=>?_) (λb o hL hb hc q n=>?_) (λb o _ hb hc q n=>?_) (λb o hc q=>?_) (λm hm=>?_) (I.aP.moved mv f'.is nw.tr (λT hT=>(nw.t0 T hT).1) hfr),nw.tr,nw.e0,nw.d0,λT hT=>?_⟩
 ·cases To with
  |none=>cases hb
  |some T =>
   have:b=T:=by simpa using hb
   subst this;obtain⟨h1,h2,h3⟩:=nw.t0 b rfl;obtain⟨_,_,oT,ts,_,_,_,_,_,_,hT,hdT,_⟩:=f;refine⟨h2,λz=>?_,λx c hc z=>?_,h3⟩
   ·obtain⟨m,⟨o,es,ep,ho,hd,_⟩,_⟩:=I.loc;rw[<- z,hT] at ho;cases ho;rw[hdT] at hd;cases hd
   ·obtain⟨v,o,ho,hd⟩:=I.cell x c hc;rw[z,hT] at ho;cases ho;rw[hdT] at hd;cases hd
 ·refine mv.keep b o (hne b o q n) (λT hT z=>hc (by rw[hT,z];simp)) (λm=>?_) q
  exact (Jw.mp (I.kr b m)).elim hL hb
 ·by_cases m:b∈jo X.stack
  ·exact mv.slot b o m q
  ·exact⟨o.slots,mv.keep b o (hne b o q n) (λT hT z=>hc (by rw[hT,z];simp)) m q⟩
 ·by_cases z:b=e
  ·obtain⟨o',_,q',_⟩:=f'.is;exact⟨o',by rw[z];exact q'⟩
  ·by_cases m:b∈jo X.stack
   ·obtain⟨sl,q2⟩:=mv.slot b o m q;exact⟨_,q2⟩
   ·exact⟨o,mv.keep b o z (λT hT z=>hc (by rw[hT,z];simp)) m q⟩
 ·obtain⟨o,es,ep,ho,r⟩:=hm;have n:=I.free;by_cases mm:X.env.locals∈jo X.stack
  ·obtain⟨sl,q2⟩:=mv.slot _ o mm ho;exact⟨_,es,ep,q2,r⟩
  ·refine⟨o,es,ep,mv.keep _ o (hne _ o ho n) (λT hT z=>?_) mm ho,r⟩;subst hT;obtain⟨_,_,oT,ts,_,_,_,_,_,_,hT,hdT,_⟩:=f;rw[z,hT] at ho;cases ho;obtain⟨hd,_⟩:=r;rw[hdT] at hd;cases hd
 ·cases hT;rcases mv.new.1 with q|q
  ·refine⟨I.aP.none_of q,?_,λp hp z=>?_⟩
   ·cases q2:X.s₀.heap.get? T' with
    |none=>rfl
    |some o =>
     obtain⟨o',q3⟩:=I.base.there T' o q2 (by rw[hex];simp)
     rw[q] at q3;cases q3
   ·rw[<- z,(I.pin p hp).1] at q;cases q
  ·exact nw.t0 T' q
def qZ(X:Cx)(cls:Value)(d:Option Addr)(e:Addr)(σ:St)(H:Hp):Prop:=∀(pins:List (Addr×Obj)) (s:Shared) (To:Option Addr),Inv X pins σ H s->Fl s.heap e cls d To->Nw X pins H e cls d To->X.xe (.ref e) s
def wN(P:Program)(w:World):nL:=λouter H s E x s'=>∃(e T:Addr) (cls:Value) (d:Option Addr) (H':Hp),x=.ref e/\s'.os=s.os/\AllBare s'.gens/\Un (jo outer) [] H H' s.heap s'.heap/\gQ P w H' s'.heap/\Fl s'.heap e cls d (some T)/\s.heap.get? e=none/\(∀a,d=some a->s.heap.get? a=none)/\s.heap.get? T=none/\H' e=some (.ext (iN e cls d))/\H' T=none/\E cls (some e) H'
end
def qJ{base:Heap}{cd:Value}{A:Around}{outer:List Env}{s0:Shared}{H0:Hp}{E:XK}(hE:E cls (some e) H):
  qZ (fY (wN P w) P w K mg base N qual scope f cd A outer s0 H0 E) cls d e σ H:=by
 intro pins s To I fl nw;refine vw (base:=base) I.ok.frames rfl I.stack fl λh' T' mv f'=>?_;obtain⟨I2,nw2⟩:=I.moved rfl fl nw mv f';exact⟨e,T',cls,d,H,rfl,I.os,I.bare,I2.base,I2.aP,f',nw.e0,nw.d0,(nw2.t0 T' rfl).2.1,nw.tr,(nw2.t0 T' rfl).1,hE⟩
section
variable {X:Cx}
def G9(X:Cx)(σ:St)(H:Hp):XK:=λcls de H'=>∃(e:Addr) (d:Option Addr),de=some e/\H' e=some (.ext (iN e cls d))/\(H e=none->(∀a,d=some a->H a=none)->qZ X cls d e σ H')
structure gE (K:W.Frag) (C:Addr):Prop where
 q:W.excIn K C [.type "ValueError",.type "Exception",.type "BaseException",.type "object"] "ValueError.__new__"=true
def gE.obj(c:gE K C):∃bm N nm qn bs hd sn sub ab col dd k0 k1 k2 k3 k5,K.lookup C=some (excClassObj nm qn C N bs bm hd sn sub ab col dd k0 k1 k2 k3 k5 "ValueError.__new__") /\
  (∀h:Heap,K.In h->OwnTail h [.type "ValueError",.type "Exception",.type "BaseException",.type "object"] bm)/\(∃oN,K.lookup N=some oN)/\∀h:Heap,K.In h->∃mN,h.Ns N mN/\mN "__init__"=none:=by
 have q:=c.q;unfold W.excIn at q
 split at q
 ·rename_i dd cd sl ho
  split at q
  ·rename_i C2 bm k0 k1 k2 k3 nw k5 hm hs;simp only[beq_iff_eq,Bool.not_eq_true',Bool.and_eq_true] at q;obtain⟨⟨⟨⟨⟨z1,z2⟩,z3⟩,z4⟩,z5⟩,z6⟩:=q;subst z1;subst z2;obtain⟨nm,bs,mr,ns,qn,hd,sn,sub,ab,col,dl⟩:=cd;dsimp only at hm z3 z5 z6 ho;subst hm;subst z3;obtain⟨l⟩:=sl;have hs':l=[k0,k1,k2,k3,some (.builtin "ValueError.__new__"),k5]:=hs;subst hs';refine⟨bm,ns,nm,qn,bs,hd,sn,sub,ab,col,dd,k0,k1,k2,k3,k5,ho,λh uF=>W.tail_of_in uF z4,?_,λh uF=>⟨_,.of_isNs (W.isNs_of_in uF z5),W.nsMap_none_of_in uF z5 z6⟩⟩;unfold W.nsOkIn at z5
   split at z5
   ·rename_i hN;exact⟨_,hN⟩
   ·cases z5
  ·cases q
 ·cases q
def DV(X:Cx)(C:Addr)(t:TA):TS:=λD σ H=>t σ H λvs H1=>vs.length<=sizeLine/\∀e,H1 e=none->qZ X (.ref C) none e σ (upd H1 e (.ext (iN e (.ref C) none)))
def zk{C:Addr}{np pos:Pos}{e:Expr}{t:TA}(hg:Gl X x)(hm:X.mg x=some (.ref C))(hk:gE X.K C)(hc:X.calm=true)(hex:X.ex=[])(ha:PA X (e::es) t)(h1:autoParam (eG e=true) ℜ0)(h2:autoParam (es.all eG=true) ℜ0)(hdb:autoParam ((x ==("__debug__":Str))=false) ℜ1):
  PS X (.Raise (some (.Call (.Name x np) (e::es) [] cpos)) none pos) (DV X C t):=by
 intro pins s σ H D I h;obtain⟨bm,N,nm,qn,bs,hd,sn,sub,ab,col,dd,k0,k1,k2,k3,k5,lk,tl,⟨oN,lN⟩,hns⟩:=hk.obj;obtain⟨mN,hN,hni⟩:=hns s.heap I.fm;have FB:=PySem.F.excBase_ValueError;have hstar:starEach (e::es) X.env=(false,eval e X.env)::starEach es X.env:=cC h1;refine wpAny_Raise_call_subU (C:=C) (nm:=nm) (q:=qn) (N:=N) (bs:=bs) (bm:=bm) (hdct:=hd) (sn:=sn) (sub:=sub) (ab:=ab) (col:=col) (dd:=dd) (k0:=k0) (k1:=k1) (k2:=k2) (k3:=k3) (k5:=k5) FB FB.hasB FB (mN:=mN) ((tl s.heap I.fm).hasType FB.hasBase) (I.ok.hd hc) ?_ hni (gR I hg hm ⟨rfl,?_⟩ hdb)
 ·rw[hstar];show (false || (backTo cpos (starEach es X.env)).any (·.1))=false;rw[plain_any h2];rfl
 ·have hp:=ha cpos pins s σ H _ I h;rw[hstar] at hp ⊢;refine Calls.evalArgs_plain (Kt hp (λus s2 hq1=>?_) λ_ _ y=>y);obtain⟨vs,H1,I1,r,hl,q⟩:=hq1;refine⟨rfl,by rw[<- r.length];exact hl,I1.fm _ _ lk,?_,tl _ I1.fm,λh' ea hm2=>?_⟩
  ·obtain⟨o,es',ep,ho,rr⟩:=hN;have z1:=I.fm _ _ lN;rw[ho] at z1;cases z1;exact⟨_,es',ep,I1.fm _ _ lN,rr⟩
  ·have hne:=I1.aP.none_of hm2.new;obtain⟨tt,g1,g2,g3⟩:=hm2.there;have fl:Fl h' ea (.ref C) none none:=⟨_,_,g1,rfl,rfl,rfl,rfl⟩;have I2:Inv X pins σ (upd H1 ea (.ext (iN ea (.ref C) none))) {s2 with heap:=h'}:=I1.un (t':=s2.toks) (Un.yf hm2.keeps hm2.new hne) (I1.aP.yf hm2.keeps hne fl.is.ok)
   refine q ea hne pins _ none I2 fl ⟨aa,?_,(λa z=>by cases z),λT z=>by cases z⟩
   cases q2:X.s₀.heap.get? ea with
   |none=>rfl
   |some o =>
    obtain⟨o',q3⟩:=I1.base.there ea o q2 (by rw[hex];simp)
    rw[hm2.new] at q3;cases q3
end
abbrev Xw:=T->Mu->Prop
abbrev wM:=Value->Option Addr->Addr->St->Hp->Prop
abbrev UX:=Mu->(R->Mu->Prop)->Xw->Prop
abbrev Jn:=Ed->Xw->Mu->Prop
def Fb(K:W.Frag)(mg:Str->Option Value)(x:Str)(f:Addr)(cdv:Value):Prop:=mg x=some (.ref f)/\∃(o:Obj) (fd:FuncData),K.lookup f=some o/\o.data=.func fd/\fd.code=cdv
abbrev vn(X:Cx)(pins:List (Addr×Obj))(E:Value->Shared->Prop):Cx:={X with xe:=E,pn:=X.pn++pins}
abbrev Dp(X:Cx)(e:Addr):Cx:={X with A:=X.A.mark (some (.ref e)),calm:=false,xe:=λ_ _=>False}
section
variable {X:Cx} {pins pins':List (Addr×Obj)} {σ:St} {H:Hp} {s:Shared} {E:Value->Shared->Prop} {e:Addr}
def Inv.Gs(I:Inv X pins σ H s):Inv (vn X pins E) [] σ H s:=
 ⟨⟨I.ok.mod,I.ok.kind,I.ok.glob,I.ok.blt,I.ok.above,I.ok.inj,I.ok.has,I.ok.AA,I.ok.hd,I.ok.frames,I.ok.CU,I.ok.FJ,I.ok.bs,I.ok.tU,I.ok.om,I.ok.pJ,I.ok.gS,I.ok.yK,I.ok.tabs⟩,
  I.os,I.bare,I.base,I.loc,I.cell,I.free,I.cO,λp hp=>I.pin p (by simpa using hp),I.aP,I.len⟩
def Inv.jz(I:Inv (vn X pins E) pins' σ H s):Inv X pins σ H s:=
 ⟨⟨I.ok.mod,I.ok.kind,I.ok.glob,I.ok.blt,I.ok.above,I.ok.inj,I.ok.has,I.ok.AA,I.ok.hd,I.ok.frames,I.ok.CU,I.ok.FJ,I.ok.bs,I.ok.tU,I.ok.om,I.ok.pJ,I.ok.gS,I.ok.yK,I.ok.tabs⟩,
  I.os,I.bare,I.base,I.loc,I.cell,I.free,I.cO,λp hp=>I.pin p (KL _ hp),I.aP,I.len⟩
def Inv.He(I:Inv X pins σ H s):Inv (Dp X e) pins σ H s:=
 ⟨⟨I.ok.mod,I.ok.kind,I.ok.glob,I.ok.blt,I.ok.above,I.ok.inj,I.ok.has,I.ok.AA,(λz=>nomatch z),I.ok.frames,I.ok.CU,I.ok.FJ,I.ok.bs,I.ok.tU,I.ok.om,I.ok.pJ,I.ok.gS,I.ok.yK,I.ok.tabs⟩,
  I.os,I.bare,I.base,I.loc,I.cell,I.free,I.cO,I.pin,I.aP,I.len⟩
def SP.jz{f:Flow}(h:SP (vn X pins E) pins' D f s):SP X pins D f s:=by
 cases f with
 |next=>obtain⟨σ',H',I,q⟩:=h;exact⟨σ',H',I.jz,q⟩
 |brk=>obtain⟨σ',H',I,q⟩:=h;exact⟨σ',H',I.jz,q⟩
 |cont=>obtain⟨σ',H',I,q⟩:=h;exact⟨σ',H',I.jz,q⟩
 |ret u=>obtain⟨v,σ',H',I,r,q⟩:=h;exact⟨v,σ',H',I.jz,r,q⟩
def SP.II{f:Flow}(hd:X.A.handled=none)(hc:X.calm=true)(h:SP (Dp X e) pins D f s):SP X pins D f s:=by
 have go:∀{σ':St} {H':Hp} {s':Shared},Inv (Dp X e) pins σ' H' s'->Inv X pins σ' H' s':=λI =>
  ⟨⟨I.ok.mod,I.ok.kind,I.ok.glob,I.ok.blt,I.ok.above,I.ok.inj,I.ok.has,I.ok.AA,λ_=>hd,I.ok.frames,I.ok.CU,I.ok.FJ,I.ok.bs,I.ok.tU,I.ok.om,I.ok.pJ,I.ok.gS,I.ok.yK,I.ok.tabs⟩,
   I.os,I.bare,I.base,I.loc,I.cell,I.free,I.cO,I.pin,I.aP,I.len⟩
 cases f with
 |next=>obtain⟨σ',H',I,q⟩:=h;exact⟨σ',H',go I,q⟩
 |brk=>obtain⟨σ',H',I,q⟩:=h;exact⟨σ',H',go I,q⟩
 |cont=>obtain⟨σ',H',I,q⟩:=h;exact⟨σ',H',go I,q⟩
 |ret u=>obtain⟨v,σ',H',I,r,q⟩:=h;exact⟨v,σ',H',go I,r,q⟩
end
abbrev UJ:=Mu->(Mu->Prop)->Prop
def lO(a b:Str):(a++b).length=a.length+b.length:=Nu
def oF{n:Nat}(h:n<=40000):n<=sizeLine:=JC h (by decide)
structure zz (K:W.Frag) (C:Addr):Prop where
 ga:W.findIn K (.ref C) "__getattribute__"=some (some (.builtin "BaseException.__getattribute__"))
 gt:W.findIn K (.ref C) "__getattr__"=some none
 ck:W.findIn K (.ref C) "__class__"=some (some (.builtin "object.__class__"))
 sp:W.specialIn K (.builtin "object.__class__") "__get__"=some (some (.builtin "getset_descriptor.__get__"))
 tk:W.takesIn K (.builtin "object.__class__")=some true
 mo:W.mroIn K C (.type "object")=some true
 mb:W.mroIn K C (.type "BaseException")=some true
section
variable {prog:Program} {w:World} {A:Around} {E:Value->Shared->Prop} {s:Shared} {K:W.Frag} {x C:Addr} {ox:Obj}
def mK{tk:Tok}{Q:Fin->Shared->Prop}(KX:zz K C)(X:K.In s.heap)(I:W.InstAt s.heap x ox C none)(h:Q (.done (.ret (.ref C))) s):wpAny (model prog w) A (Builtin.«object.__getattribute__» ⟨[.ref x,.str "__class__" tk],[]⟩) Q E s:=by
 obtain⟨cd,gW⟩:∃cd,W.clsIn K C=some cd:=by
  have:=KX.mo;unfold W.mroIn at this
  cases q:W.clsIn K C with
  |none=>rw[q] at this;cases this
  |some cd=>exact⟨cd,rfl⟩
 have hf:W.findObj K C none "__class__"=some (.bind (.builtin "getset_descriptor.__get__") (.builtin "object.__class__")):=by
  unfold W.findObj;rw[gW,NC,KX.ck,NC];simp[KX.sp,KX.tk]
 have L0:=I.type (M:=model prog w);have L1:=W.looks_find (M:=model prog w) X I hf;obtain⟨hh,g,d,t,os⟩:=s;unfold Builtin.«object.__getattribute__»
 repeat (any_goals (first|assumption|with_reducible refine Js (L0.at ?_)|with_reducible refine Js (L1.at ?_)|wp_step))
 exact W.class_get X I KX.mo (J9 h)
def v_{Q:Option Value->Shared->Prop}(KX:zz K C)(X:K.In s.heap)(I:W.InstAt s.heap x ox C none)(h:Q (some (.ref C)) {s with toks:=s.toks+1}):wpAny (model prog w) A (getAttr? (.ref x) "__class__") Q E s:=by
 have L0:=I.type (M:=model prog w);have L1:=Ol (M:=model prog w) X KX.ga;have L2:=Ol (M:=model prog w) X KX.gt;have LB:W.Looks (model prog w) s.heap (isInstance (.ref x) (.type "BaseException")) true:=L0.andThen (W.looks_mroIn (M:=model prog w) X KX.mb);have fb:=PySem.F.attr_ValueError.ga.bind (.ref x);have n1:(onTheHeap (Value.ref C) && Value.builtin "BaseException.__getattribute__" == Value.builtin "object.__getattribute__")=false:=by
  rw[show (Value.builtin "BaseException.__getattribute__" == Value.builtin "object.__getattribute__")=false from by decide +kernel];rfl
 obtain⟨hh,g,d,t,os⟩:=s;unfold getAttr? getAttrBy? getAttrBy;refine wpAny_bind (wpAny_mkText (wpAny_bind (wpAny_attempt (wpAny_holding (wpAny_bind (L0.at (wpAny_bind (L1.at ?_))))))));dsimp only;rw[if_neg (by rw[n1];decide)]
 unfold getAttrByItsOwn hookBefore;rw[JA (show onTheHeap (Value.ref C)=true from rfl)];refine Js (L2.at (Js (MF (Kq ?_))));unfold callGetattribute boundAndCalled;rw[Jy (by decide),fb]
 refine Js (J9 (Nz ?_));refine codeAny_call_builtin PySem.F.attr_ValueError.ga.plain PySem.F.entry_bexc_ga ?_;have hk:builtinKind "BaseException.__getattribute__"=some .slot:=by decide +kernel
 have mq:splitId "BaseException.__getattribute__"=some ("BaseException","__getattribute__"):=by decide +kernel
 have ha:=PySem.F.args_bexc_ga (.ref x) (.str "__class__" t);simp only[checkBuiltinCall,hk,mq];show wpAny _ _ (isInstance (.ref x) (.type "BaseException") >>= _) _ _ _;refine Js (LB.at ?_);rw[Jy (by decide)]
 unfold argsOk at ha
 cases q:Manifest.signature? "BaseException.__getattribute__" with
 |none =>
  refine J9 (mK (s:=⟨hh,g,d,t+1,os⟩) KX X I ?_);exact J9 (J9 h)
 |some sg =>
  rw[q] at ha;have ha':Bind.checkArgs "BaseException.__getattribute__" sg ⟨[.ref x,.str "__class__" t],[]⟩=pure ():=ha;show wpAny _ _ (Bind.checkArgs "BaseException.__getattribute__" sg ⟨[.ref x,.str "__class__" t],[]⟩) _ _ _;rw[ha'];refine J9 (mK (s:=⟨hh,g,d,t+1,os⟩) KX X I ?_);exact J9 (J9 h)
end
def iN.inst{x:Addr}(p:iN x (.ref C) none h):∃ox,W.InstAt h x ox C none:=by
 obtain⟨o,vs,h1,h2,h3,h4⟩:=p;refine⟨o,h1,h2,by unfold W.notCls;rw[h4],?_⟩
 rw[h3];trivial
def kh{v:Value}{b:Bool}(e:W.mroIn K C v=some b):∃c d cd sl,K.lookup C=some ⟨c,d,.cls cd,sl⟩:=by
 unfold W.mroIn W.clsIn at e
 split at e
 ·rename_i c d cd sl q;exact⟨c,d,cd,sl,q⟩
 ·cases e
def pz{x:Addr}(KX:zz K C):W.KitX K (.ref x) (.ref C) (iN x (.ref C) none) where
 ty:=λM h _ p=>by
  obtain⟨o,I⟩:=p.inst;exact I.type
 it:=λM h X _=>by
  obtain⟨c,d,cd,sl,q⟩:=kh KX.mo;intro A' Q' E' s' k z;unfold isType loadHead;exact Js (wpAny_loadPart (k _ _ (X _ _ q)) (J9 z))
 ne:=λh tp dd its n sl X htp=>by
  obtain⟨c,d,cd,sl',q⟩:=kh KX.mo;refine Bool.eq_false_iff.mpr λz=>?_;have e:C=tp:=Value.ref.inj (Mh.mp z);subst e;have:=(X _ _ q).symm.trans htp;cases this
 ca:=λX p k=>by
  obtain⟨o,I⟩:=p.inst;exact v_ KX X I k
def HJ(K:W.Frag)(H:Hp)(x:V)(t:Value):Prop:=(x=.aL/\t=.type "NoneType")\/∃a C,x=.ref a/\t=.ref C/\H a=some (.ext (iN a (.ref C) none))/\zz K C
def CM(K:W.Frag)(y:V)(c:Value):List V->Hp->VK->Prop:=λxs H Q=>∃x t b,xs=[x,y]/\HJ K H x t/\W.kitOne K t c=some b/\Q (.bl b) H
def Dh(K:W.Frag)(ds:List Addr):List V->Hp->VK->Prop:=λxs H Q=>∃x t b p,xs=[x,.ref p]/\H p=some (.tup (ds.map V.ref))/\HJ K H x t/\W.kitAny K t (ds.map Value.ref)=some b/\Q (.bl b) H
theorem nA:∀{ds:List Addr} {us:List Value},Vals (ds.map V.ref) us->us=ds.map Value.ref
 |[],_,.nil=>rfl
 |d::ds,u::us,.cons h r=>by
  have h':u=Value.ref d:=h;rw[h',nA r];rfl
section
variable {X:Cx}
def u_{y:V}{c:Value}(hy:∀u,RelV y u->u=c):aZ X (.builtin "isinstance") (CM X.K y c):=by
 rintro pins s σ H xs us Q I r ⟨x,t,b,rfl,ty,e,q⟩;obtain⟨u,w',rfl,r1,r2⟩:=vals2 r
 cases hy _ r2
 rcases ty with ⟨rfl,rfl⟩|⟨a,C,rfl,rfl,ha,KX⟩
 ·cases (show u=Value.none from r1)
  exact Ls W.kitx_none I.fm True.intro e (λz=>nomatch z) λtk=>⟨.bl b,H,I.tok _,rfl,q⟩
 ·cases (show u=Value.ref a from r1)
  exact Ls (pz KX) I.fm (show iN a (.ref C) none s.heap from (I.aP _ _ ha).1) e (λz=>nomatch z) λtk=>⟨.bl b,H,I.tok _,rfl,q⟩
def vh{ds:List Addr}:aZ X (.builtin "isinstance") (Dh X.K ds):=by
 rintro pins s σ H xs us Q I r ⟨x,t,b,p,rfl,hp,ty,e,q⟩;obtain⟨u,w',rfl,r1,r2⟩:=vals2 r
 cases (show w'=Value.ref p from r2)
 obtain⟨_,its,hv,⟨⟨oc,od,oda,osl⟩,h1,h2,n,h3,_⟩⟩:=(show b7 X.prog X.w H s.heap p (.tup (ds.map V.ref)) from I.aP _ _ hp);cases h2;cases h3
 cases nA hv
 rcases ty with ⟨rfl,rfl⟩|⟨a,C,rfl,rfl,ha,KX⟩
 ·cases (show u=Value.none from r1)
  exact W.kia_tup W.kitx_none I.fm True.intro h1 e (λz=>nomatch z) λtk=>⟨.bl b,H,I.tok _,rfl,q⟩
 ·cases (show u=Value.ref a from r1)
  exact W.kia_tup (pz KX) I.fm (show iN a (.ref C) none s.heap from (I.aP _ _ ha).1) h1 e (λz=>nomatch z) λtk=>⟨.bl b,H,I.tok _,rfl,q⟩
end
section
variable {X:Cx} {pins:List (Addr×Obj)} {σ:St} {H:Hp} {s:Shared}
def name_goes{A:Around}{pos:Pos}(I:Inv X pins σ H s)(hN:X.N.Nodup)(hi:X.N[i]?=some x)(hk:X.env.kindOf x=some .local)
  (hq:∀s',Inv X pins (σ.set i none) H s'->Q () s'):wpAny M A (do bindName X.env x .none;unbindBehindTheSuite X.env x pos) Q E s:=by
 obtain⟨m,hn,hl⟩:=id I.loc;have hcls:(X.env.scope.kind == .class || (X.env.scope.kind == .module && X.env.locals != X.env.globals))=false:=by rw[I.ok.kind];rfl
 have vJ:=I.vJ;refine wpAny_nameGoes_keeps hk hn hcls λh' v hn' hs=>hq _ ?_;have keep:∀b o,b≠X.env.locals->s.heap.get? b=some o->h'.get? b=some o:=λb o n q=>(hs.2 b n).trans q;have neL:∀b o,X.s₀.heap.get? b=some o->b≠X.env.locals:=λb o e=>JU (JT (JL e) I.ok.above);refine⟨I.ok,I.os,I.bare,⟨λb o e n hb hx=>keep b o (neL b o e) (I.base.keep b o e n hb hx),λb o e n hb hx=>?_,I.base.free,λb o e hx=>?_,I.base.ka,I.base.jB,I.base.ja⟩,⟨_,hn',λj y v' e1 e2 e3=>?_⟩,λy c e=>?_,I.free,I.cO,λp hp=>?_,λb ob e=>?_,by simpa using I.len⟩
 ·obtain⟨sl,e1⟩:=I.base.slot b o e n hb hx;exact⟨sl,keep b _ (neL b o e) e1⟩
 ·obtain⟨o',e1⟩:=I.base.there b o e hx;exact⟨o',keep b _ (neL b o e) e1⟩
 ·by_cases hj:j=i
  ·subst hj;have:j<σ.length:=by rw[I.len];exact (Ju.mp hi).1
   rw[Lf this] at e2;cases e2
  ·rw[LI (KA hj)] at e2;obtain⟨u',r',q⟩:=hl j y v' e1 e2 e3;refine⟨u',r',?_⟩;rcases q with ⟨k,e⟩|⟨k,c,e,z⟩
   ·refine .inl ⟨k,?_⟩;have:y≠x:=λe=>hj (kf hN e1 (e ▸ hi));simp[this,e]
   ·exact .inr ⟨k,c,e,z.sameBut hs (vJ y c e)⟩
 ·obtain⟨w',z⟩:=I.cell y c e;exact⟨w',z.sameBut hs (vJ y c e)⟩
 ·obtain⟨e,n,ne,nf,d⟩:=I.pin p hp;exact⟨keep _ _ ne e,n,ne,nf,d⟩
 ·refine (I.aP b ob e).jI (λc w' hc q=>keep c w' ?_ q) (λ_ q=>q) (λ_ _ q=>q) λ_ _ _ q=>q;rintro rfl;rcases hc with rfl|hc
  ·rw[I.free] at e;cases e
  ·rw[I.free] at hc;cases hc
end
def wI{A:Around}{g:Array GenState}{d:Drawn}{t:Nat}{os:OsState}{D:Addr}{d0:Option Addr}{Q:Bool->Shared->Prop}(uF:K.In h)(hC:gE K C)(hD:gE K D)(he:iN e (.ref C) d0 h)(hs:W.mroIn K C (.ref D)=some true)
  (hq:Q true ⟨h,g,d,t,os⟩):wpAny M A (excMatches (.ref e) (.ref D)) Q E ⟨h,g,d,t,os⟩:=by
 obtain⟨bm,N,nm,qn,bs,hd,sn,sub,ab,col,dd,k0,k1,k2,k3,k5,lk,tl,_,_⟩:=hC.obj;obtain⟨bm',N',nm',qn',bs',hd',sn',sub',ab',col',dd',k0',k1',k2',k3',k5',lk',tl',_,_⟩:=hD.obj;have gC:=uF _ _ lk;have gD:=uF _ _ lk';obtain⟨oe,vs,h1,h2,_,_⟩:=he;have c1:(Value.ref D::bm').contains (.type "BaseException")=true:=by rw[List.contains_cons,(tl' _ uF).hasType PySem.F.excBase_ValueError.hasBase,Bool.or_true]
 have c2:(Value.ref C::bm).contains (.ref D)=true:=by
  unfold W.mroIn W.clsIn at hs;rw[lk] at hs;simp only[excClassObj,NC] at hs
  split at hs
  ·cases hs
  ·exact Option.some.inj hs
 have f:=tc_notTuple;unfold excMatches
 repeat (first | (with_reducible refine wpAny_loadPart_at h1 ?_;rw[h2])|with_reducible refine wpAny_loadPart_at gD ?_ | (with_reducible refine wpAny_isSubtype_exc gD ?_;rw[c1]) | (with_reducible refine wpAny_isSubtype_exc gC ?_;rw[c2])|wp_step)
 exact hq
def kB{k:Str}{t t':Tok}{prog:Program}{w:World}{A:Around}{E:Value->Shared->Prop}{Q:Option Fin×Unit->Shared->Prop}(hit:items[j]?=some (.str k t'))(hno:∀m,m<j->∃y ty,items[m]?=some (.str y ty)/\y≠k):∀(m i c:Nat) (s:Shared),i+m=j->m<c->Q (some (.done (.ret (.int (j:Nat) s.toks))),()) {s with toks:=s.toks+1} ->
  wpAny (model prog w) A (forIn (List.range' i c) ((none,()):Option Fin×Unit) λi __s=>match items[i]? with
      |some y=>do
       let __do_lift <- eqBool y (Value.str k t)
       if __do_lift=true then do
         let __do_lift <- retInt (i:Nat)
         pure (ForInStep.done (some __do_lift,()))
        else pure (ForInStep.yield (none,()))
      |x=>pure (ForInStep.yield (none,()))) Q E s:=by
 intro m
 induction m with
 |zero =>
  intro i c s e hc h
  cases c with
  |zero=>exact absurd hc (Ln _)
  |succ c =>
   obtain rfl:i=j:=e;rw[L3,LX];simp only[hit];refine Js (Js (N7 ?_));rw[Kl rfl]
   wp_walk
   exact h
 |succ m ih =>
  intro i c s e hc h
  cases c with
  |zero=>exact absurd hc (Ln _)
  |succ c =>
   obtain⟨y,ty,hy,ne⟩:=hno i (by lia)
   rw[L3,LX];simp only[hy];refine Js (Js (N7 ?_));rw[JV ne];exact J9 (ih (i+1) c s (by lia) (by lia) h)
def vo{n:Nat}{dd:Option Addr}{sl:Array (Option Value)}{k:Str}{t t':Tok}(hit:items[j]?=some (.str k t'))(hno:∀m,m<j->∃y ty,items[m]?=some (.str y ty)/\y≠k):
  Meets (Builtin.«tuple.index» ⟨[.ref p,.str k t],[]⟩) (λA R s=>s.heap.get? p=some {cls:=.type "tuple",dict:=dd,data:=.seq items n,slots:=sl}/\R (.ok (.ret (.int (j:Nat) s.toks))) {s with toks:=s.toks+1}):=by
 intro prog w A R s h;obtain⟨hp,g,d,tk,os⟩:=s;obtain⟨ho,h⟩:=h;unfold Builtin.«tuple.index»;simp only[Std.Legacy.Range.forIn_eq_forIn_range'];wp_walk using MR ho;have hj:j<items.size:=by
  rcases Ku j items.size with z|z
  ·exact z
  ·rw[Nq.mpr z] at hit;cases hit
 refine kB hit hno j 0 _ _ (Mf _) ?_ ?_
 ·simp[Std.Legacy.Range.size];exact hj
 ·exact J9 h
def IK(K:W.Frag):V->List V->Hp->VK->Prop:=λx vs H Q=>∃(a:Addr) (ws:List Str) (k:Str) (j:Nat),x=.ref a/\bq K H a (ws.map V.str)/\vs=[.str k]/\ws[j]?=some k/\(∀m,m<j->ws[m]?≠some k)/\Q (.int (j:Nat)) H
def i5:∀{ws:List Str} {its:List Value},Vals (ws.map V.str) its->∀(m:Nat) (y:Str),ws[m]?=some y->∃t,its[m]?=some (.str y t):=λr m y e=>by
 obtain⟨u,h1,h2⟩:=r.get (i:=m) (x:=V.str y) (by rw[J6,e];rfl)
 obtain⟨t,rfl⟩:=(show RelV (.str y) u from h2);exact⟨t,h1⟩
def DS:wJ X "tuple.index" (IK X.K):=by
 intro pins s σ H x xs v us Q I rx rs h;obtain⟨a,ws,k,j,rfl,hq,rfl,hj,hno,q⟩:=h;obtain rfl:v=Value.ref a:=rx;obtain⟨u,rfl,t,rfl⟩:=vals1 rs;obtain⟨its,r,pl,hz⟩:=I.tuple hq;obtain⟨⟨oc,od,oda,osl⟩,ho,hc,n,hd⟩:=id pl;obtain rfl:oc=.type "tuple":=hc;obtain rfl:oda=.seq its.toArray n:=hd;obtain⟨t',hit⟩:=i5 r j k hj;refine LJ PySem.F.slot_tuple_index ⟨_,ho,rfl⟩ PySem.F.entry_tuple_index (PySem.F.args_tuple_index_2 _ _) (vo (j:=j) (t':=t') (by rw[K0];exact hit) λm hm=>?_) ⟨ho,⟨.int (j:Nat),H,I.tok _,⟨_,rfl⟩,q⟩⟩
 have hl:m<ws.length:=ND hm (Ju.mp hj).1;have e:=Jr hl;obtain⟨ty,hy⟩:=i5 r m _ e;exact⟨_,ty,by rw[K0];exact hy,λz=>hno m hm (by rw[e,z])⟩
open Builtin Builtin.Str
open PySem PySem.Spec PyProof PyProof.Rows
noncomputable def C6(K:W.Frag)(a:Addr):It:=
 ⟨λi H=>∃x,getL K a i H x,λi H x H'=>∃p y,(∀xs,bg K H a xs->xs[i]?=some y)/\H p=none/\x=.ref p/\H'=upd H p (.tup [.int i,y]),IM K a⟩
def sv{P:Program}{w:World}{K:W.Frag}{es:List Expr}{tk:Nat}{tp:Pos}(a it e:Addr)(hne:e≠it):Turn P w K (.Tuple es tk tp) (C6 K a) [e,it] e (λi h=>(∃old,IsEnum h e it i old)/\h.IsListIter it a i) where
 mem:=by simp
 obj:=λi h st b hb=>by
  obtain⟨⟨old,he⟩,o,eo,c,d⟩:=st;rcases Jw.mp hb with z|z
  ·subst z;exact⟨_,he,λv z=>by cases z⟩
  ·have z:b=it:=by simpa using z
   subst z;exact⟨o,eo,λv z=>by rw[d] at z;cases z⟩
 keep:=λi h h' st k=>by
  obtain⟨⟨old,he⟩,o,eo,r⟩:=st;exact⟨⟨old,k e (by simp) _ he⟩,o,k it (by simp) o eo,r⟩
 item:=by
  intro X hP hw hK hc i pins s σ H E I hf st hg;subst hP hw hK;obtain⟨x,xs,hq,hx⟩:=hg;obtain⟨⟨old,he⟩,hit⟩:=st;obtain⟨its,rv,p,hz⟩:=I.list hq;obtain⟨u,hu,ru⟩:=rv.get hx;obtain⟨g0,g1,g2,g3,g4,g5⟩:=hf e (by simp)
  obtain⟨f0,f1,f2,f3,f4,f5⟩:=hf it (by simp)
  have ht:s.heap.IsList a its.toArray:=p.isList;have ha:a≠it:=by
   rintro rfl;obtain⟨o,e1,c1,_⟩:=hit;obtain⟨o',e2,c2,_⟩:=ht;rw[e1] at e2;cases e2;rw[c1] at c2;exact absurd (Value.type.inj c2) (by decide)
  have hea:e≠a:=by
   rintro rfl;obtain⟨o',e2,c2,_⟩:=ht;have e1:s.heap.get? e=some _:=he;rw[e1] at e2;cases e2;exact absurd (Value.type.inj c2) (by decide)
  have hi:i<its.toArray.size:=by
   have:=(Ju.mp hu).1
   simpa using this
  refine NL (Draws.list (A:=X.A.in1) (I.ok.hd hc) it a ha its.toArray) he ⟨hit,ht⟩ hi hne (by simp[hne,hea]) λx' h' tk' hP ho hs' hT hsz hk=>?_
  have ex:x'=u:=by
   have hP':its.toArray[i]?=some x':=hP;rw[K0,hu] at hP';exact (Option.some.inj hP').symm
  subst ex;refine⟨.ref s.heap.objs.size,rfl,Np ho λh2 he2 hs2=>?_⟩;have fr:H s.heap.objs.size=none:=I.aP.fresh (J8 _);have hle:e≠s.heap.objs.size:=JU (JL he);have hT2:h2.get? s.heap.objs.size=some {cls:=.type "tuple",data:=.seq #[.int i tk',x']}:=(hs2.2 _ (KA hle)).trans hT;have I2:Inv X pins σ (upd H s.heap.objs.size (.tup [.int i,x])) {s with heap:=h2,toks:=tk'+1}:=by
   refine I.oC (fp:=[e,it]) hf (J8 _) (λb o hb eb=>?_) ⟨by show 2<=sizeLine;decide,[.int i tk',x'],.cons ⟨_,rfl⟩ (.cons ru .nil),⟨_,hT2,rfl,_,rfl,rfl⟩⟩
   have n1:b≠e:=λz=>hb (by simp[z])
   have n2:b≠it:=λz=>hb (by simp[z])
   exact (hs2.2 b n1).trans (hk b o n1 n2 eb)
  refine⟨.ref s.heap.objs.size,_,I2,rfl,⟨s.heap.objs.size,x,λys hy=>by rw[I.kC hy hq];exact hx,fr,rfl,rfl⟩,⟨⟨x',?_⟩,?_⟩,λb hb=>?_⟩
  ·have e:(((i+1:Nat)):Int)=(i:Int)+1:=by lia
   rw[e];exact he2
  ·obtain⟨o,e1,r⟩:=hs'.1;exact⟨o,(hs2.2 it (KA hne)).trans e1,r⟩
  ·have n:b≠s.heap.objs.size:=by
    rcases Jw.mp hb with z|z
    ·subst z;exact hle
    ·have z:b=it:=by simpa using z
     subst z;obtain⟨o,e1,_⟩:=hit;exact JU (JL e1)
   rw[ak n];exact (hf b hb).1
 done:=by
  intro X hP hw hK hc i pins s σ H E I hf st hg;subst hP hw hK;obtain⟨xs,hq,hx⟩:=hg;obtain⟨⟨old,he⟩,hit⟩:=st;obtain⟨its,rv,p,hz⟩:=I.list hq;have ht:s.heap.IsList a its.toArray:=p.isList;have ha:a≠it:=by
   rintro rfl;obtain⟨o,e1,c1,_⟩:=hit;obtain⟨o',e2,c2,_⟩:=ht;rw[e1] at e2;cases e2;rw[c1] at c2;exact absurd (Value.type.inj c2) (by decide)
  have hl:=rv.length;have hsz:its.toArray.size=i:=by simp;lia
  refine NZ (Draws.list (A:=X.A.in1) (I.ok.hd hc) it a ha its.toArray) he (by rw[hsz];exact⟨hit,ht⟩) λh' eb=>⟨rfl,?_⟩
  exact I.turns (t':=s.toks) hf λb o hb e1=>eb b o (λz=>hb (by simp[z])) e1
 self:=λA i s Q E st h=>by
  obtain⟨⟨old,he⟩,_⟩:=st;exact M8 he h
section
variable {X:Cx} {es:List Expr} {tk:Nat} {tp:Pos}
def lS(K:W.Frag)(ta:TA):TI:=λσ H R=>ta σ H λvs H1=>∃a,vs=[.ref a]/\(∃xs,bg K H1 a xs)/\R (C6 K a) H1
def y8{e:Expr}{ta:TA}{p pos:Pos}(hg:Gl X "enumerate")(hm:X.mg "enumerate"=none)(ha:PA X [e] ta)(h1:autoParam (eG e=true) ℜ0)(hv:autoParam (bootBuiltins "enumerate"=some (.type "enumerate")) ℜ6):
  PI X (.Tuple es tk tp) (.Call (.Name "enumerate" p) [e] [] pos) (lS X.K ta):=by
 intro pins s σ H R I h;refine Call_ (fS I hg hm hv (KJ (bN (ha pos pins s σ H _ I h) λus s1 hq1=>?_) (cC h1) rfl));obtain⟨vs,H1,I1,r1,q1⟩:=hq1;obtain⟨a,e,⟨xs,hq⟩,q⟩:=q1;subst e;obtain⟨u,rfl,ru⟩:=vals1 r1;cases ru;obtain⟨its,rv,pt,hz⟩:=I1.list hq;refine call_enumerate_list pt.isList λh' he hit hsz hk=>?_;refine M8 he ?_;have I2:Inv X pins σ H1 {s1 with heap:=h'}:=I1.kept (t':=s1.toks) hk
 refine⟨s1.heap.objs.size+1,[s1.heap.objs.size+1,s1.heap.objs.size],_,_,H1,rfl,I2,sv a s1.heap.objs.size (s1.heap.objs.size+1) (L7 (Ly _)),⟨⟨_,he⟩,hit⟩,λb hb=>?_,q⟩;have hb':s1.heap.objs.size<=b:=by
  rcases Jw.mp hb with z|z
  ·rw[z];exact KQ _
  ·have z:b=s1.heap.objs.size:=by simpa using z
   rw[z];exact J8 _
 exact I1.vS hb' (I1.aP.fresh hb')
end
def ym(K:W.Frag)(ws:List Str)(v:Value):Prop:=∃p,v=.ref p/\HK K p (ws.map V.str)
structure mh (K:W.Frag) (a:Addr) (D:List (Str×List Str)):Prop where
 low:(a == sysModules)=false
 ex:∃o es ep,K.lookup a=some o/\o.ExactDict/\o.data=.dict es ep/\KTD.Rows (ym K) es.toList D
section
variable {prog:Program} {w:World} {A:Around} {E:Value->Shared->Prop} {s:Shared} {K:W.Frag} {a:Addr} {D:List (Str×List Str)} {k:Str} {tk:Tok}
def mh.typeIs(T:mh K a D)(X:K.In s.heap):s.TypeIs (.ref a) "dict":=let ⟨o,_,_,ho,hc,_⟩:=T.ex;⟨o,X _ _ ho,hc.1⟩
def yl{Q:Option Value->Shared->Prop}(T:mh K a D)(X:K.In s.heap)(h1:∀d v,KTD.datumAt k D=some d->ym K d v->Q (some v) {s with toks:=s.toks+1})(h2:KTD.datumAt k D=none->Q none {s with toks:=s.toks+1}):
  wpAny (model prog w) A (dictGet a (.str k tk)) Q E s:=by
 obtain⟨o,es,ep,ho,hc,hd,hr⟩:=T.ex;have ho:=X _ _ ho;unfold dictGet
 try with_reducible refine Kq ?_
 refine Js (wpAny_pyHash_str (Js (KTD.kt_dictFind_strs (s:={s with toks:=s.toks+1}) ho hd (by obtain⟨l⟩:=es;simpa using hr.exact) ?_)))
 have hq:Q (findBy (λk v=>v.isStr k) es k) {s with toks:=s.toks+1}:=by
  have hf:findBy (λk v=>v.isStr k) es k=(es.toList.find? λe=>e.key.isStr k).map (·.val):=by
   obtain⟨l⟩:=es;simp[findBy]
  rw[hf]
  cases hat:KTD.datumAt k D with
  |some d=>obtain⟨v,hv,hfl⟩:=hr.find_some hat;rw[hv];exact h1 d v hat hfl
  |none=>rw[hr.find_none hat];exact h2 hat
 rw[findBy_of_findIdx?] at hq
 cases hi:es.findIdx? λe=>e.key.isStr k with
 |none=>rw[hi] at hq;exact J9 hq
 |some i=>rw[hi] at hq;exact Js (M9 (s:={s with toks:=s.toks+1}) ho hd (J9 hq))
end
noncomputable def hU{α:Type}(xs:List α)(i:Nat)(y:α):List α:=xs.take i++y::xs.drop i
def BB:V->List V->Hp->VK->Prop:=λx vs H Q=>∃l xs i y,x=.ref l/\vs=[.int i,y]/\H l=some (.lst xs)/\0<=i/\i<2^63/\xs.length<sizeLine/\Q .aL (upd H l (.lst (hU xs (min i.toNat xs.length) y)))
def iQ{X:Cx}:Gp X "list.insert" BB:=by
 intro pins s σ H x vs v us Q I rx rv h;obtain⟨l,xs,i,y,rfl,rfl,hH,h0,h1,hz,q⟩:=h;cases rx;obtain⟨u,w',rfl,⟨t,rfl⟩,rw'⟩:=vals2 rv;obtain⟨z,its,n,r,hl,e⟩:=I.qV hH;have hfit:¬ (!Builtin.List.listFitsIndex i)=true:=by
  have:=Om (k:=i) (by lia) h1
  rw[this];exact JF
 refine LJ F.slot_list_insert ⟨_,e,rfl⟩ F.entry_list_insert (F.args_list_insert_3 _ _ _) (AutoSeq1.list_insert_list_int_val_1 l its.toArray n i t w' hfit (by rw[JD];lia)) ⟨e,?_⟩
 have el:its.length=xs.length:=hl.symm;refine⟨.aL,_,I.Fe (its':=hU its (min i.toNat its.length) w') hH e ?_ ?_ ?_,rfl,q⟩
 ·show (have k:=if i<0 then _ else min i.toNat its.toArray.size;(its.toArray.extract 0 k).push w'++its.toArray.extract k)=_
  rw[Jy (by lia)]
  apply Array.toList_inj.mp;unfold hU;simp[List.extract_eq_take_drop,Kw]
 ·rw[el];unfold hU;exact (r.take _).append (.cons rw' (r.drop _))
 ·unfold hU;rw[Jv,JE,JG,Ka];lia
open Builtin Builtin.Str
open PySem PySem.Spec PyProof PyProof.Rows
open Builtin Builtin.Str
open PySem PySem.Spec PyProof PyProof.Rows
namespace Z
section
variable {X:Cx} {CX:nL} {k:Nat} {f C:Addr} {fd:FuncData} {ps:List Str} {sp:Sp} {E:XK} {x m nm:Str} {p pos pos' apos:Pos} {e o i value:Expr} {es:List Expr} {ta tv td ty:TE} {t:TA}
def fld(K:W.Frag)(hK:X.K=K)(he:QE X e ta)(hb:autoParam (attributeBase e nm X.env (eval e X.env)=eval e X.env) ℜ0):QE X (.Attribute e nm pos) (xf K ta nm):=by subst hK;exact⟨DU he.h hb⟩
def vV(K:W.Frag)(hK:X.K=K)(ha:QE X o ta)(hv:QE X value tv)(hs:autoParam (swapsWith value (some (.Attribute o nm pos')) pos.line X.env=pure false) ℜ0):QS X (.Assign [.Attribute o nm pos'] value pos) (yg K ta tv nm):=by subst hK;exact⟨D7 ha.h hv.h hs⟩
def yM(K:W.Frag)(hK:X.K=K){pl:Sem Bool}(he:QE X o ta)(c:j8 K C)(hm:Meth K C m f)(F:bY X.prog X.w K X.mg X.base CX k f fd ps sp)(hr:bz k X.A)(hb:Binds K fd ps [])(hx:Passes CX X E)
  (ht:autoParam (eval (.Call (.Attribute o m apos) [] [] pos) X.env=(do
   let ov <- eval o X.env
   standAt apos.atName
   let (f,first) <- holding [ov] (getMethod ov m pl)
   callWith pos f first (backTo pos (starEach [] X.env)) (backToKw pos (keywordEach [] X.env)))) ℜ0) :
  QE X (.Call (.Attribute o m apos) [] [] pos) (pE C m sp [] E ta j9):=by subst hK;exact⟨zy (pl:=pl) he.h c hm F hr hb .nil hx ht⟩
def make(K:W.Frag)(hK:X.K=K)(M:Mk K C f)(F:bY X.prog X.w K X.mg X.base CX k f fd ps sp)(hr:bz (k+1) X.A)(hg:Gl X x)(hm:X.mg x=some (.ref C))(hb:Binds K fd ps [])(hx:Passes CX X E)
  (ha:QA X (e::es) t) (hdb:autoParam ((x ==("__debug__":Str))=false) ℜ1) (he:autoParam (starEach (e::es) X.env=(false,eval e X.env)::starEach es X.env) ℜ0) (hpl:autoParam ((backTo pos (starEach es X.env)).any (·.1)=false) ℜ0) :
  QE X (.Call (.Name x p) (e::es) [] pos) (qI C sp [] E t):=by subst hK;exact⟨A6 M F hr hg hm hb .nil hx ha.h hdb he hpl⟩
end
end Z
namespace Ap
def xf(K:W.Frag)(ta:TE)(f:Str)(σ:St)(H:Hp)(Q:VK):L2.xf K ta f σ H Q=ta σ H λx H1=>∃a C dx fs v,x=.ref a/\H1 a=some (.ins C dx fs)/\j8 K C/\bQ K C f/\fs.lookup f=some v/\Q v H1:=rfl
def yg(K:W.Frag)(ta tv:TE)(f:Str)(D:Ends)(σ:St)(H:Hp):L2.yg K ta tv f D σ H=tv σ H λy H1=>ta σ H1 λx H2=>∃a C dx fs,x=.ref a/\H2 a=some (.ins C dx fs)/\j8 K C/\bQ K C f/\fs.length<1000/\D.nx σ (upd H2 a (.ins C dx (dO f y fs))):=rfl
def pE(C:Addr)(m:Str)(sp:Sp)(dvs:List V)(E:XK)(ta:TE)(t:TA)(σ:St)(H:Hp)(Q:VK):L2.pE C m sp dvs E ta t σ H Q=ta σ H λx H1=>∃a dx fs,x=.ref a/\H1 a=some (.ins C dx fs)/\fs.lookup m=none/\t σ H1 λvs H2=>sp (x::(vs++dvs)) H2 Q E:=rfl
def qI(C:Addr)(sp:Sp)(dvs:List V)(E:XK)(t:TA)(σ:St)(H:Hp)(Q:VK):L2.qI C sp dvs E t σ H Q=t σ H λvs H1=>∀x dx,H1 x=none->H1 dx=none->dx≠x->sp (.ref x::(vs++dvs)) (upd (upd H1 dx (.own x)) x (.ins C dx [])) (λv H2=>v=.aL/\Q (.ref x) H2) E:=rfl
end Ap
section
variable {prog:Program} {w:World} {A:Around} {E:Value->Shared->Prop} {s:Shared} {K:W.Frag} {a:Addr} {D:List (Str×List Str)} {k:Str} {tk:Tok}
def wb{ws:List Str}{Q:Value->Shared->Prop}(T:mh K a D)(X:K.In s.heap)(hk:KTD.datumAt k D=some ws)(h:∀v,ym K ws v->Q v {s with toks:=s.toks+1}):wpAny (model prog w) A (getItem (.ref a) (.str k tk)) Q E s:=by
 have hT:=T.typeIs X;unfold getItem
 try with_reducible refine Kq ?_
 refine Js (wpAny_sequenceKey hT (by decide) ?_)
 refine Js (K2 (name:=Str.ofString "__getitem__") hT PySem.F.slot_dict_getitem
  (K9 PySem.F.slot_dict_getitem hT PySem.F.entry_dict_getitem ?_ (args_dict_getitem _ _)))
 show wpAny _ _ (dictGet a (.str k tk) >>= _) _ _ s;refine Js (yl T X (λd v e r=>?_) λe=>?_)
 ·rw[hk] at e;cases e;exact J9 ⟨v,rfl,J9 (h v r)⟩
 ·rw[hk] at e;cases e
end
variable{Q:Value->Shared->Prop}{X:Cx}{body e:Expr}{c' d f kS:Addr}{D:List (Str×List Str)}{a b:List Nat}{q x:Str}{e1 ep i k:Nat}{α:Type}{p:Array Nat}{N:List Str}{σf:List (Option V)}{scope:Scope}{cl:List (Str×Addr)}{params:Arguments}{ctv pm:Value}{H H1:Hp}{h h':Heap}{P:PySem.Fin->Shared->Prop}{us:List Value}{kz:List Int}{xs:List V}{K:W.Frag}{es:Array DictEntry}{prog:Program}{w:World}{prs:List (Int×Int)}
def xZ(K:W.Frag)(D:List (Str×List Str))(te:TE):TE:=λσ H Q=>te σ H λy H1=>∃k ws,y=.str k/\KTD.datumAt k D=some ws/\∀p,HK K p (ws.map V.str)->Q (.ref p) H1
def DW{o:Expr}{te:TE}{pos:Pos}(ho:PE X o (tC (.ref d)))(hD:mh X.K d D)(he:PE X e te)(hs:EG e):PE X (.Subscript o e pos) (xZ X.K D te):=by
 intro pins s σ H Q I h;refine Bm PySem.F.slot_dict_getitem.lookup hs (bN (ho pins s σ H (λv H'=>v=.ref d/\H'=H) I ⟨rfl,rfl⟩) λu s1 hq1=>?_);obtain⟨x,H1,I1,rx,ex,eh⟩:=hq1;subst ex eh;obtain rfl:u=Value.ref d:=rx;refine bN (he pins s1 σ H1 _ I1 h) λiv s2 hq2=>?_;obtain⟨y,H2,I2,ry,k,ws,ek,e1,q⟩:=hq2;subst ek;obtain⟨t,rfl⟩:=ry;refine⟨hD.typeIs I2.fm,wb hD I2.fm e1 λv r=>?_⟩;obtain⟨p,rfl,r⟩:=r;exact⟨.ref p,H2,I2.tok _,rfl,q p r⟩
namespace Y
def El:V->List V->Hp->VK->Prop:=λx vs H Q=>∃(z y:Str) (i:Nat) (rest:List Nat),x=.str z/\vs=[.str y]/\Builtin.Str.occurrences z y 0 z.length 1=i::rest/\Q (.int (i:Nat)) H
def zQ:wJ X "str.index" El:=by
 intro pins s σ H x xs v us Q I rx rs h;obtain⟨z,y,i,rest,rfl,rfl,ho,q⟩:=h;obtain⟨t,rfl⟩:=rx;obtain⟨u,rfl,k,rfl⟩:=vals1 rs;exact SC.index ho ⟨.int _,H,I.tok _,⟨_,rfl⟩,q⟩
def G_:V->List V->Hp->VK->Prop:=λx vs H Q=>∃(a:Addr) (ws:List Str) (k:Str) (j:Nat),x=.ref a/\H a=some (.lst (ws.map V.str))/\vs=[.str k]/\ws[j]?=some k/\(∀m,m<j->ws[m]?≠some k)/\Q (.int (j:Nat)) H
def uR:Gp X "list.index" G_:=by
 intro pins s σ H x xs v us Q I rx rs h;obtain⟨a,ws,k,j,rfl,hH,rfl,hj,hno,q⟩:=h;cases rx;obtain⟨u,rfl,t,rfl⟩:=vals1 rs;obtain⟨z,its,n,r,hl,e⟩:=I.qV hH;obtain⟨t',hit⟩:=i5 r j k hj;have hjl:j<ws.length:=(Ju.mp hj).1;rw[Jt] at z hl;have hji:j<its.toArray.size:=by rw[JD];lia
 have sz:(sizeLine:Int)<2^63-1:=by decide
 have hje:its.toArray[j]=.str k t':=by
  have:its.toArray[j]?=some (.str k t'):=by rw[K0];exact hit
  exact (Kf.mp this).2
 have hall:∀(m:Nat) (hm:m<its.toArray.size),∃y ty,its.toArray[m]=.str y ty/\ws[m]?=some y:=λm hm=>by
  have hm':m<ws.length:=by rw[JD] at hm;lia
  have e1:=Jr hm';obtain⟨ty,hy⟩:=i5 r m _ e1;have:its.toArray[m]?=some (.str ws[m] ty):=by rw[K0];exact hy
  exact⟨_,ty,(Kf.mp this).2,e1⟩
 refine LJ PySem.F.slot_list_index ⟨_,e,rfl⟩ PySem.F.entry_list_index (PySem.F.args_list_index_2 _ _) (SeqAt.list_indexAt a its.toArray n none _ (.str k t) (λy=>match y with|.str y _=>y == k|_=>false) j hji (by lia) (by rw[hje];exact Mi k) λm hm hmj=>?_) ⟨e,λy hy=>?_,⟨.int (j:Nat),H,I.tok _,⟨_,rfl⟩,q⟩⟩
 ·obtain⟨y,ty,ey,ew⟩:=hall m hm;rw[ey];exact Kz.mpr λz=>hno m hmj (by rw[ew,z])
 ·obtain⟨m,hm,rfl⟩:=Oq.mp hy;obtain⟨y,ty,ey,ew⟩:=hall m hm;rw[ey];exact SeqAt.EqAt.str_str _ _ _ _
end Y
open PySem PySem.Spec PyProof PyProof.Rows PySem.W
namespace SP
section
variable (k:Nat->Int)
def R(i j:Nat):Prop:=k i<k j\/(k i=k j/\i<j)
variable {k}
theorem R.le{a b:Nat}(h:R k a b):k a<=k b:=by unfold R at h;lia
end
structure PI (n m:Nat) (p:Array Nat) (a:List Nat):Prop where
 eq:p.toList=a++List.range' m (n-m)
 perm:a.Perm (List.range m)
 le:m<=n
section
variable {n m:Nat} {p:Array Nat} {a:List Nat}
def PI.len(h:PI n m p a):a.length=m:=by rw[h.perm.length_eq,Kh]
def PI.lt(h:PI n m p a){x:Nat}(hx:x∈a):x<m:=Lc.mp (h.perm.mem_iff.mp hx)
def PI.size(h:PI n m p a):p.size=n:=by
 have:=h.len;have:=h.le;rw[<- Kj,h.eq,Jv,List.length_range',h.len];lia
def PI.at(h:PI n m p a){x:Nat}(hi:a[i]?=some x):p.getD i 0=x:=by
 have:p[i]?=some x:=by
  rw[<- J_,h.eq,JX (Ju.mp hi).1];exact hi
 rw[Nh,this];rfl
theorem PI.nx(h:PI n m p a)(hm:m<n):p.getD m 0=m:=by
 have:p[m]?=some m:=by
  rw[<- J_,h.eq,JP (by rw[h.len];exact J8 m),h.len,KG,List.getElem?_range' (by lia)];simp
 rw[Nh,this];rfl
theorem PI.step(h:PI n m p a)(hm:m<n):PI n (m+1) p (a++[m]):=by
 refine⟨?_,?_,hm⟩
 ·rw[h.eq,JQ,show n-m=(n-(m+1))+1 by lia,L3];rfl
 ·rw[Ms];exact h.perm.append_right [m]
def PI.last(h:PI n m p a){y:Nat}(e:a=b++[y]):p.getD (m-1) 0=y:=by
 refine h.at ?_;have:=h.len;rw[e,Jv] at this;simp only[JE,KW] at this;rw[e,JP (by lia),show m-1-b.length=0 by lia];rfl
end
def xt{xs:Array α}{l:Nat}{y:α}(hy:xs[k]?=some y)(hl:l<=k):(bubble xs k (k-l)).toList=xs.toList.take l++y::(xs.toList.drop l).take (k-l)++xs.toList.drop (k+1):=by
 have hk:k<xs.size:=(Kf.mp hy).1;have hL:xs.toList.length=xs.size:=by simp
 apply LG;intro i;rw[J_,getElem?_bubble hk _ (by lia),show k-(k-l)=l by lia]
 rw[JQ,Mj];have ht:(xs.toList.take l).length=l:=by rw[JG];lia
 rw[ht];by_cases h1:i<l
 ·rw[JA h1,Jy (by lia),Jy (by lia),L9,JA h1,J_]
 ·rw[Jy h1];by_cases h2:i=l
  ·subst h2;rw[JA rfl,KG,hy];rfl
  ·rw[Jy h2,show i-l=(i-l-1)+1 by lia,KN,M7,Mj]
   have hm:((xs.toList.drop l).take (k-l)).length=k-l:=by rw[JG,Ka];lia
   rw[hm];by_cases h3:i-l-1<k-l
   ·rw[JA h3,JA (by lia),L9,JA h3,K4,J_]
    congr 1;lia
   ·rw[Jy h3,Jy (by lia),K4,J_]
    congr 1;lia
def zm{xs:Array α}{j:Nat}(hi:i<=j)(hj:j<=xs.size):(mirror xs i j ((j-i) / 2)).toList=xs.toList.take i++((xs.toList.drop i).take (j-i)).reverse++xs.toList.drop j:=by
 have hL:xs.toList.length=xs.size:=by simp
 apply LG;intro k;rw[J_,getElem?_mirror_all hj,JQ,Mj];have ht:(xs.toList.take i).length=i:=by rw[JG];lia
 have hm:((xs.toList.drop i).take (j-i)).length=j-i:=by rw[JG,Ka];lia
 rw[ht];by_cases h1:k<i
 ·rw[JA h1,Jy (by lia),L9,JA h1,J_]
 ·rw[Jy h1,Mj,LQ,hm];by_cases h2:k<j
  ·rw[JA (by lia),JA (by lia),List.getElem?_reverse (by lia),hm,L9,JA (by lia),K4,J_]
   congr 1;lia
  ·rw[Jy (by lia),Jy (by lia),K4,J_]
   congr 1;lia
theorem PI.rev{n m:Nat}{c:List Nat}(h:PI n m p (b++c)):PI n m (kas_rev p b.length m) (b++c.reverse):=by
 have hl:b.length+c.length=m:=by rw[<- h.len,Jv]
 refine⟨?_,((List.reverse_perm c).append_left b).trans h.perm,h.le⟩;unfold kas_rev;rw[zm (by lia) (by rw[h.size];exact h.le),h.eq,JQ b c,Ot,List.drop_left,show m-b.length=c.length by lia,Ot,<- JQ b c,List.drop_left' (by rw[Jv];exact hl)]
def oJ{m:Nat}(h:a.length=m)(hm:1<=m):∃b y,a=b++[y]:=by
 rcases Ou a with rfl|⟨b,y,rfl⟩
 ·cases h;exact absurd hm (by decide)
 ·exact⟨b,y,by simp⟩
section
variable {k:Nat->Int} {n:Nat} {cmp:Nat->Nat->(Bool->Shared->Prop)->Shared->Prop} {I:Shared->Prop}
def pN(k:Nat->Int)(n:Nat)(cmp:Nat->Nat->(Bool->Shared->Prop)->Shared->Prop)(I:Shared->Prop):Prop:=∀i j C s,i<n->j<n->I s->(∀s',I s'->C (decide (k i<k j)) s')->cmp i j C s
theorem rW(hc:pN k n cmp I){G:Nat->Shared->Prop}:∀(f m:Nat) (a:List Nat) (s:Shared),PI n m p a->1<=m->f=n-m->a.Pairwise (R k)->I s ->
  (∀m' a' s',PI n m' p a'->m<=m'->a'.Pairwise (R k)->I s'->(∀b y,a'=b++[y]->m'<n->k m'<k y)->G m' s')->(kas_asc p f m).kasWp cmp G s
 |0,m,a,s,h,h1,hf,hp,hI,g=>g m a s h (J8 m) hp hI λ_ _ _ hl=>by have:=h.le;lia
 |f+1,m,a,s,h,h1,hf,hp,hI,g=>by
  have hm:m<n:=by lia
  obtain⟨b,y,e⟩:=oJ h.len h1;show cmp (p.getD m 0) (p.getD (m-1) 0) _ s;rw[h.nx hm,h.last e];have hy:y<m:=h.lt (by rw[e];simp)
  refine hc m y _ s hm (by lia) hI λs' hI'=>?_
  by_cases c:k m<k y
  ·rw[Kl c];exact g m a s' h (J8 m) hp hI' λb' y' e' _=>by
    rw[e] at e';have:[y]=[y']:=(List.append_inj' e' rfl).2
    cases this;exact c
  ·rw[JV c];refine rW hc f (m+1) (a++[m]) s' (h.step hm) (by lia) (by lia) ?_ hI' λm' a' s2 h' hm' hp' hI2 gl=>g m' a' s2 h' (by lia) hp' hI2 gl
   refine KO.mpr ⟨hp,by simp,λx hx z hz=>?_⟩
   rw[JH.mp hz];have hxm:=h.lt hx;have:k x<=k y:=by
    rw[e] at hx hp;rcases Ki.mp hx with hx|hx
    ·exact ((KO.mp hp).2.2 x hx y (by simp)).le
    ·rw[JH.mp hx];exact N_ _
   unfold R;lia
structure DI (k:Nat->Int) (b c:List Nat):Prop where
 Ej:b.Pairwise λx y=>R k y x
 less:∀y∈b,∀x∈c,k x<k y
 one:∀x∈c,∀y∈c,k x=k y
 up:c.Pairwise (· < ·)
def DI.rise{c:List Nat}(h:DI k b c):(b++c.reverse).reverse.Pairwise (R k):=by
 rw[Na,MV];refine KO.mpr ⟨?_,MK.mpr h.Ej,λx hx y hy=>.inl (h.less y (MI.mp hy) x hx)⟩;exact NF (λ{x y} hx hy hl=>.inr ⟨h.one x hx y hy,hl⟩) h.up
def DI.next{c:List Nat}{x:Nat}(h:DI k b c)(hc:c≠[])(hx:∀y∈c,k x<k y):DI k (b++c.reverse) [x]:=by
 refine⟨KO.mpr ⟨h.Ej,MK.mpr (NF (λ{x y} hx hy hl=>.inr ⟨h.one x hx y hy,hl⟩) h.up),λy hy z hz=>.inl (h.less y hy z (MI.mp hz))⟩,λy hy z hz=>?_,λy hy z hz=>?_,by simp⟩
 ·rw[JH.mp hz];rcases Ki.mp hy with hy|hy
  ·obtain⟨w,hw⟩:=N3 c hc;exact Int.lt_trans (hx w hw) (h.less y hy w hw)
  ·exact hx y (MI.mp hy)
 ·rw[JH.mp hy,JH.mp hz]
def DI.more{c:List Nat}{x:Nat}(h:DI k b c)(he:∀y∈c,k x=k y)(hc:c≠[])(hl:∀y∈c,y<x):DI k b (c++[x]):=by
 refine⟨h.Ej,λy hy z hz=>?_,λy hy z hz=>?_,KO.mpr ⟨h.up,by simp,λy hy z hz=>by rw[JH.mp hz];exact hl y hy⟩⟩
 ·rcases Ki.mp hz with hz|hz
  ·exact h.less y hy z hz
  ·rw[JH.mp hz];obtain⟨w,hw⟩:=N3 c hc;rw[he w hw];exact h.less y hy w hw
 ·rcases Ki.mp hy with hy|hy<;>rcases Ki.mp hz with hz|hz
  ·exact h.one y hy z hz
  ·rw[JH.mp hz];exact (he y hy).symm
  ·rw[JH.mp hy];exact he z hz
  ·rw[JH.mp hy,JH.mp hz]
theorem jV(hc:pN k n cmp I){G:Array Nat×Nat×Nat->Shared->Prop}:∀(f:Nat) (p:Array Nat) (m q:Nat) (b c:List Nat) (s:Shared),PI n m p (b++c)->c.length=q+1->DI k b c->f=n-m->I s ->
  (∀p' m' q' b' c' s',PI n m' p' (b'++c')->c'.length=q'+1->DI k b' c'->I s'->G (p',m',q') s')->(kas_desc f p m q).kasWp cmp G s
 |0,p,m,q,b,c,s,h,hl,hd,hf,hI,g=>g p m q b c s h hl hd hI
 |f+1,p,m,q,b,c,s,h,hl,hd,hf,hI,g=>by
  have hm:m<n:=by lia
  obtain⟨c0,y,e⟩:=oJ hl (by lia)
  have hbl:b.length+(q+1)=m:=by rw[<- hl,<- Jv,h.len]
  have ne:c≠[]:=by rw[e];simp
  have hy:y∈c:=by rw[e];simp
  have hya:y<m:=h.lt (JR _ hy);have e1:p.getD m 0=m:=h.nx hm;have e2:p.getD (m-1) 0=y:=h.last (b:=b++c0) (by rw[e,JQ])
  show cmp (p.getD m 0) (p.getD (m-1) 0) _ s;rw[e1,e2];refine hc m y _ s hm (by lia) hI λs' hI'=>?_
  by_cases c1:k m<k y
  ·rw[Kl c1];have hx:∀z∈c,k m<k z:=λz hz=>by rw[hd.one z hz y hy];exact c1
   show KasT.kasWp cmp (if q > 0 then _ else _) G s'
   by_cases hq:q > 0
   ·rw[JA hq,show m-(q+1)=b.length by lia]
    exact jV hc f _ (m+1) 0 (b++c.reverse) [m] s' (h.rev.step hm) rfl (hd.next ne hx) (by lia) hI' g
   ·rw[Jy hq];have e3:c.reverse=c:=by
     have:c.length=1:=by lia
     obtain⟨z,rfl⟩:=Oa.mp this;rfl
    exact jV hc f p (m+1) 0 (b++c.reverse) [m] s' (by rw[e3];exact h.step hm) rfl (hd.next ne hx) (by lia) hI' g
  ·rw[JV c1];show cmp y m _ s';refine hc y m _ s' (by lia) hm hI' λs2 hI2=>?_
   by_cases c2:k y<k m
   ·rw[Kl c2];exact g p m q b c s2 h hl hd hI2
   ·rw[JV c2];refine jV hc f p (m+1) (q+1) b (c++[m]) s2 (by rw[<- JQ];exact h.step hm) (by rw[Jv,hl];rfl) (hd.more (λz hz=>?_) ne λz hz=>h.lt (JR _ hz)) (by lia) hI2 g
    rw[hd.one z hz y hy];lia
theorem tX(hc:pN k n cmp I){G:Nat×Array Nat->Shared->Prop}{m:Nat}{s:Shared}(h:PI n m p a)(h1:1<=m)(hr:a.reverse.Pairwise (R k))(hI:I s)
  (g:∀m' p' a' s',PI n m' p' a'->1<=m'->a'.Pairwise (R k)->I s'->G (m',p') s'):(kas_tail3 m n p).kasWp cmp G s:=by
 unfold kas_tail3;rw[Mt];have hv:=PI.rev (b:=[]) (c:=a) h;exact rW hc (n-m) m a.reverse s hv h1 rfl hr hI λm' a' s' h' hm' hp' hI' _=>g m' _ a' s' h' (by lia) hp' hI'
theorem sU(hc:pN k n cmp I){G:Nat×Array Nat->Shared->Prop}{m:Nat}{s:Shared}(h:PI n m p a)(hm:m<n)(hd:DI k a [m])(hI:I s)
  (g:∀m' p' a' s',PI n m' p' a'->1<=m'->a'.Pairwise (R k)->I s'->G (m',p') s'):(kas_descPart m n p).kasWp cmp G s:=by
 unfold kas_descPart;rw[Mt];refine jV hc (n-(m+1)) p (m+1) 0 a [m] s (h.step hm) rfl hd rfl hI λp' m' q' b' c' s' h' hl' hd' hI'=>?_;have hbl:b'.length+(q'+1)=m':=by rw[<- hl',<- Jv,h'.len]
 show KasT.kasWp cmp (if q' > 0 then _ else _) G s'
 by_cases hq:q' > 0
 ·rw[JA hq];show (kas_tail3 m' n (kas_rev p' (m'-(q'+1)) m')).kasWp cmp G s';rw[show m'-(q'+1)=b'.length by lia]
  exact tX hc h'.rev (by lia) hd'.rise hI' g
 ·rw[Jy hq];have e3:c'.reverse=c':=by
   have:c'.length=1:=by lia
   obtain⟨z,rfl⟩:=Oa.mp this;rfl
  exact tX hc h' (by lia) (by rw[<- e3];exact hd'.rise) hI' g
theorem zY(hc:pN k n cmp I){G:Nat×Array Nat->Shared->Prop}{s:Shared}(hn:1<=n)(hI:I s)
  (g:∀m' p' a' s',PI n m' p' a'->1<=m'->a'.Pairwise (R k)->I s'->G (m',p') s'):(kas_count n (List.toArray (List.range n))).kasWp cmp G s:=by
 unfold kas_count;rw[Mt];have h0:PI n 1 (List.toArray (List.range n)) [0]:=by
  refine⟨?_,List.Perm.refl _,hn⟩;show List.range n=[0]++List.range' 1 (n-1);rw[List.range_eq_range',show n=(n-1)+1 by lia,L3];rfl
 refine rW hc (n-1) 1 [0] s h0 (J8 1) rfl (by simp) hI λm a s' h hm hp hI' gl=>?_
 show KasT.kasWp cmp (if (m == n)=true then _ else _) G s'
 by_cases e:m=n
 ·subst e;rw[JA (Mi m)];exact g m _ a s' h hm hp hI'
 ·rw[Jy (by simpa using e)]
  have hmn:m<n:=by have:=h.le;lia
  obtain⟨b,y,ea⟩:=oJ h.len hm;have ky:=gl b y ea hmn;have hya:y<m:=h.lt (by rw[ea];simp)
  by_cases h2:m > 1
  ·rw[JA h2];obtain⟨x,r,ex⟩:∃x r,a=x::r:=by
    cases a with
    |nil=>have:=h.len;rw[KW] at this;lia
    |cons x r=>exact⟨x,r,rfl⟩
   have hxa:x<m:=h.lt (by rw[ex];simp)
   show cmp ((List.toArray (List.range n)).getD 0 0) ((List.toArray (List.range n)).getD (m-1) 0) _ s';rw[h.at (i:=0) (x:=x) (by rw[ex];rfl),h.last ea]
   refine hc x y _ s' (by lia) (by lia) hI' λs2 hI2=>?_
   by_cases c:k x<k y
   ·rw[Kl c];exact g m _ a s2 h hm hp hI2
   ·rw[JV c];have hv:=PI.rev (b:=[]) (c:=a) h;refine sU hc hv hmn ⟨MK.mpr hp,λz hz w hw=>?_,λz hz w hw=>by rw[JH.mp hz,JH.mp hw],by simp⟩ hI2 g
    rw[JH.mp hw];have hz':=MI.mp hz;have hxz:k x<=k z:=by
     rw[ex] at hz' hp;rcases Jw.mp hz' with rfl|hz'
     ·exact N_ _
     ·exact ((Kc.mp hp).1 z hz').le
    lia
  ·rw[Jy h2];have hm1:m=1:=by lia
   have hb:b=[]:=by
    have:=h.len;rw[ea,Jv,hm1] at this;simp only[JE,KW] at this;exact LU.mp (by lia)
   subst hb;refine sU hc h hmn ⟨by rw[ea];simp,λz hz w hw=>?_,λz hz w hw=>by rw[JH.mp hz,JH.mp hw],by simp⟩ hI' g
   rw[JH.mp hw];rw[ea] at hz;rw[JH.mp hz];exact ky
theorem lA(hc:pN k n cmp I){G:Nat->Shared->Prop}{t:Nat}(h:PI n t p a)(ht:t<n)(hp:a.Pairwise (R k)):∀(f l r:Nat) (s:Shared),l<=r->r<=t->r-l<=f->(∀i x,i<l->a[i]?=some x->k x<=k t)->(∀i x,r<=i->a[i]?=some x->k t<k x)->I s ->
  (∀l' s',l'<=t->(∀i x,i<l'->a[i]?=some x->k x<=k t)->(∀i x,l'<=i->a[i]?=some x->k t<k x)->I s'->G l' s')->(kas_place p t f l r).kasWp cmp G s
 |0,l,r,s,h1,h2,h3,hlo,hhi,hI,g=>g l s (by lia) hlo (λi x hi e=>hhi i x (by lia) e) hI
 |f+1,l,r,s,h1,h2,h3,hlo,hhi,hI,g=>by
  show KasT.kasWp cmp (if l >= r then _ else _) G s
  by_cases hlr:l >= r
  ·rw[JA hlr];exact g l s (by lia) hlo (λi x hi e=>hhi i x (by lia) e) hI
  ·rw[Jy hlr];have hmid:(l+r) / 2<a.length:=by rw[h.len];lia
   have em:a[(l+r) / 2]?=some a[(l+r) / 2]:=Jr hmid;have hma:a[(l+r) / 2]<t:=h.lt (JM hmid);have mono:∀i j x y,i<=j->a[i]?=some x->a[j]?=some y->k x<=k y:=λi j x y hij ex ey=>by
    rcases Ku i j with c|c
    ·obtain⟨hi,rfl⟩:=Ju.mp ex;obtain⟨hj,rfl⟩:=Ju.mp ey;exact (Lj.mp hp i j hi hj c).le
    ·have:i=j:=Nat.le_antisymm hij c;subst this;rw[ex] at ey;cases ey;exact N_ _
   show cmp (p.getD t 0) (p.getD ((l+r) / 2) 0) _ s;rw[h.nx ht,h.at em];refine hc t _ _ s ht (by lia) hI λs' hI'=>?_
   by_cases c:k t<k a[(l+r) / 2]
   ·rw[Kl c];exact lA hc h ht hp f l ((l+r) / 2) s' (by lia) (by lia) (by lia) hlo (λi x hi e=>Int.lt_of_lt_of_le c (mono _ i _ x hi em e)) hI' g
   ·rw[JV c];exact lA hc h ht hp f ((l+r) / 2+1) r s' (by lia) h2 (by lia) (λi x hi e=>Int.le_trans (mono i _ x _ (by lia) e em) (by lia)) hhi hI' g
theorem Ao(hc:pN k n cmp I){G:Array Nat->Shared->Prop}:∀(f:Nat) (p:Array Nat) (t:Nat) (a:List Nat) (s:Shared),PI n t p a->a.Pairwise (R k)->f=n-t->I s ->
  (∀p' a' s',PI n n p' a'->a'.Pairwise (R k)->I s'->G p' s')->(kas_bin f p t).kasWp cmp G s
 |0,p,t,a,s,h,hp,hf,hI,g=>by
  have:t=n:=by have:=h.le;lia
  subst this;exact g p a s h hp hI
 |f+1,p,t,a,s,h,hp,hf,hI,g=>by
  have ht:t<n:=by lia
  show KasT.kasWp cmp ((kas_place p t t 0 t).bind _) G s;rw[Mt];refine lA hc h ht hp t 0 t s (JJ _) (J8 _) (by lia) (λi x hi _=>absurd hi (Ln i)) (λi x hi e=>?_) hI λl s' hl hlo hhi hI'=>?_
  ·have:=(Ju.mp e).1;rw[h.len] at this;lia
  ·have et:p[t]?=some t:=by
    rw[<- J_,h.eq,JP (by rw[h.len];exact J8 t),h.len,KG,List.getElem?_range' (by lia)];simp
   have hla:l<=a.length:=by rw[h.len];exact hl
   have e1:(bubble p t (t-l)).toList=(a.take l++t::a.drop l)++List.range' (t+1) (n-(t+1)):=by
    rw[xt et hl,h.eq,MX hla,MY hla,show n-t=(n-(t+1))+1 by lia,L3]
    have e2:(a.drop l).length=t-l:=by rw[Ka,h.len]
    have e3:∀r:List Nat,(a++t::r).drop (t+1)=r:=λr=>by
     rw[show a++t::r=(a++[t])++r by simp]
     exact List.drop_left' (by rw[Jv,h.len];rfl)
    rw[List.take_left' e2,e3]
   have hP:PI n (t+1) (bubble p t (t-l)) (a.take l++t::a.drop l):=by
    refine⟨e1,?_,ht⟩;have:(a.take l++t::a.drop l).Perm (a++[t]):=by
     have h1:(a.take l++t::a.drop l).Perm (t::(a.take l++a.drop l)):=Ml;rw[KH] at h1;exact h1.trans (List.perm_append_singleton t a).symm
    rw[Ms];exact this.trans (h.perm.append_right [t])
   refine Ao hc f _ (t+1) _ s' hP ?_ (by lia) hI' g
   have hp1:=(KH l a) ▸ hp;obtain⟨q1,q2,q3⟩:=KO.mp hp1;refine KO.mpr ⟨q1,Kc.mpr ⟨λx hx=>?_,q2⟩,λx hx y hy=>?_⟩
   ·obtain⟨i,hi⟩:=ML.mp hx;rw[K4] at hi;exact .inl (hhi (l+i) x (by lia) hi)
   ·rcases Jw.mp hy with rfl|hy
    ·obtain⟨i,hi⟩:=ML.mp hx;rw[L9] at hi
     split at hi
     ·rename_i hil;have:=hlo i x hil hi;have hxt:=h.lt (Lo hx);unfold R;lia
     ·cases hi
    ·exact q3 x hx y hy
theorem tV(hc:pN k n cmp I){G:Array Nat->Shared->Prop}{s:Shared}(hn:1<=n)(hI:I s)(g:∀p s',p.toList.Perm (List.range n)->p.toList.Pairwise (R k)->I s'->G p s'):(kas_sort n).kasWp cmp G s:=by
 unfold kas_sort;rw[Mt];have fin:∀p a s',PI n n p a->a.Pairwise (R k)->I s'->G p s':=λp a s' h hp hI'=>by
  have e:p.toList=a:=by rw[h.eq,KG,List.range'_zero,Ks]
  refine g p s' ?_ ?_ hI'<;>rw[e]
  ·exact h.perm
  ·exact hp
 refine zY hc hn hI λm p a s' h h1 hp hI'=>?_;show KasT.kasWp cmp (if m<n then _ else _) G s'
 by_cases hm:m<n
 ·rw[JA hm];show (kas_bin (n-max m 1) p (max m 1)).kasWp cmp G s';rw[show max m 1=m by lia]
  exact Ao hc (n-m) p m a s' h hp rfl hI' fin
 ·rw[Jy hm];have:m=n:=by have:=h.le;lia
  subst this;exact fin p a s' h hp hI'
end
end SP
abbrev FF(qual:Str)(scope:Scope)(L f:Addr)(cd:Value)(cl:List (Str×Addr)):Env:=W.envX qual scope L f cd cl
noncomputable def uH(X:Cx)(A:Around)(N:List Str)(qual:Str)(scope:Scope)(f:Addr)(cd:Value)(cl:List (Str×Addr))(s:Shared)(H:Hp):Cx where
 prog:=X.prog
 w:=X.w
 K:=X.K
 mg:=X.mg
 base:=X.base
 A:=A.deeper (FF qual scope s.heap.objs.size f cd cl)
 N:=N
 s₀:=s
 H₀:=H
 env:=FF qual scope s.heap.objs.size f cd cl
 outer:=X.stack
 stack:=FF qual scope s.heap.objs.size f cd cl::X.stack
 ex:=[]
 calm:=true
 fn:=λ_=>false
 pn:=[]
 xe:=λ_ _=>False
section
variable {X:Cx} {pins:List (Addr×Obj)} {σ:St} {H:Hp} {s:Shared}
def Cp(I:Inv X pins σ H s){A:Around}(hA:A.frames=some X.stack)(hd:A.handled=none){qual:Str}{v:V}{u:Value}{cd:Value}{h₁:Heap}{tk:Nat}
  (hk:scope.kind=.function) (rv:RelV v u) (hloc:scope.names.lookup x=some .local) (hns:h₁.Ns s.heap.objs.size (λy=>[(x,u)].reverse.lookup y)) (old:∀b o,s.heap.get? b=some o->h₁.get? b=some o)
  (hlen:σf.length=N.length) (hcl:∀y c,cl.lookup y=some c->X.env.cells.lookup y=some c) (hhas:∀y,(scope.names.lookup y=some .cell\/scope.names.lookup y=some .free)->∃c,cl.lookup y=some c)
  (hf:∀(i:Nat) (y:Str) (v:V),N[i]?=some y->σf[i]?=some (some v)->scope.names.lookup y=some .free/\∃c u,cl.lookup y=some c/\s.heap.IsCell c (some u)/\RelV v u) :
  Inv (uH X A (x::N) qual scope f cd cl s H) [] (some v::σf) H {s with heap:=h₁,toks:=tk}:=by
 have noA:∀b:Addr,b∉(uH X A (x::N) qual scope f cd cl s H).ex:=λb z=>absurd (show b∈([]:List Addr) from z) (by simp)
 refine⟨⟨I.ok.mod,hk,rfl,rfl,J8 _,λy z c e1 e2=>I.ok.inj y z c (hcl y c e1) (hcl z c e2),hhas,λy c z _=>(by cases z),λ_=>hd,Around.frames_deeper hA,.inr ⟨rfl,rfl⟩,λb z=>absurd z (noA b),I.bs,JC I.ok.tU I.sz,λb _ _=>noA b,λb z=>absurd z (noA b),I.stack,I.jT,I.ok.tabs.un I.base⟩,
  rfl,I.bare,Un.kept old,⟨_,hns,λi y w e1 e2 e3=>?_⟩,λy c e=>?_,I.aP.fresh (J8 _),λy c e=>I.cO y c (hcl y c e),λp hp=>absurd (show p∈([]:List (Addr×Obj)) from hp) (by simp),I.aP.kept old,?_⟩
 ·cases i with
  |zero =>
   have e1':some x=some y:=e1;have e2':some (some v)=some (some w):=e2
   cases e1';cases e2'
   exact⟨u,rv,.inl ⟨hloc,by simp⟩⟩
  |succ i =>
   obtain⟨h1,c,u',h2,h3,h4⟩:=hf i y w e1 e2;obtain⟨o,ho,hd'⟩:=h3;exact⟨u',h4,.inr ⟨.inr h1,c,h2,o,old _ _ ho,hd'⟩⟩
 ·obtain⟨v',o,ho,hd'⟩:=I.cell y c (hcl y c e);exact⟨v',o,old _ _ ho,hd'⟩
 ·show (some v::σf).length=(x::N).length;rw[JE,JE,hlen]
def xc(I:Inv X pins σ H s){A:Around}(hr:bz (k+1) A)(hA:A.frames=some X.stack){qual:Str}{v:V}{u:Value}{f:Addr}{t:TE}{Q:VK}
  (hk:scope.kind=.function) (hco:scope.isCoroutine=false) (hgen:scope.isGenerator=false) (hcell:∀y∈scope.names,y.2≠.cell) (rv:RelV v u) (hloc:scope.names.lookup x=some .local)
  (ho:s.heap.get? f=some (W.kla_obj "<lambda>" qual params body scope cl pm c' ctv)) (gW:s.heap.CodeRec (.ref c') qual)
  (hbind:∀u,bindArgs (W.kla_fn "<lambda>" qual params body scope cl pm (.ref c') ctv) ⟨[u],[]⟩=pure [(x,u)])
  (hlen:σf.length=N.length) (hcl:∀y c,cl.lookup y=some c->X.env.cells.lookup y=some c) (hhas:∀y,(scope.names.lookup y=some .cell\/scope.names.lookup y=some .free)->∃c,cl.lookup y=some c)
  (hf:∀(i:Nat) (y:Str) (v:V),N[i]?=some y->σf[i]?=some (some v)->scope.names.lookup y=some .free/\∃c u,cl.lookup y=some c/\s.heap.IsCell c (some u)/\RelV v u)
  (hb:PE (uH X A (x::N) qual scope f (.ref c') cl s H) body t) (hq:t (some v::σf) H Q) :
  wpAny (model X.prog X.w) A (call (.ref f) [u]) (EP X pins σ Q) (λ_ _=>False) s:=by
 refine Nz (W.kla_callFunE hr.depth ho rfl hco hgen rfl gW ?_);rw[hbind];refine J9 (wpAny_newFunctionEnv hcell (λy hy=>by rw[JH.mp hy];exact hloc) (λh₁ hns hsb=>⟨I.nolimit.fresh _ hsb,?_⟩) hk)
 have old:∀b o,s.heap.get? b=some o->h₁.get? b=some o:=λb o e=>hsb.extBut b o (JU (JL e)) (J5 _ e);have J:=Cp (tk:=s.toks+1) (qual:=qual) (f:=f) (cd:=.ref c') I hA hr.hd hk rv hloc hns old hlen hcl hhas hf;refine W.kla_codeExpr (Kt (hb [] _ _ H Q J hq) (λw s' h=>?_) λ_ _ h=>h.elim);obtain⟨v',H',J',r',q'⟩:=h;exact I.after ⟨v',H',J'.os,J'.bare,J'.base,J'.aP,r',q'⟩
end
inductive eJ:Hp->Hp->Prop
 |refl {H:Hp}:eJ H H
 |more {H H1:Hp} {p:Addr} {o:HO}:eJ H H1->H1 p=none->eJ H (upd H1 p o)
def eJ.same(g:eJ H H1):A9 H H1:=by
 induction g with
 |refl=>exact A9.refl _
 |more g n ih=>exactλb o e=>by rw[ak (af (ih b o e) n)];exact ih b o e
def eJ.trans{H2:Hp}(a:eJ H H1)(b:eJ H1 H2):eJ H H2:=by
 induction b with
 |refl=>exact a
 |more _ n ih=>exact .more ih n
theorem jx{i j:Int}{ti tj:Tok}{c:Value}:∀l:List Value,TriplesOk l->TriplesOk (l++[.int i ti,.int j tj,c])
 |[],_=>trivial
 |.int _ _::.int _ _::_::r,h=>jx r (show TriplesOk r from h)
theorem nB{p:Pos}{i j:Int}{ti tj:Tok}{c cv:Value}:∀l:List Value,TriplesOk l->codeAmong p (l++[.int i ti,.int j tj,c])=some cv->codeAmong p l=some cv\/cv=c
 |[],_,e=>by
  have e':(if (i == p.line && j == p.col)=true then some c else codeAmong p [])=some cv:=e
  by_cases z:(i == p.line && j == p.col)=true
  ·rw[JA z] at e';cases e';exact .inr rfl
  ·rw[Jy z] at e';cases e'
 |.int a ta::.int b tb::d::r,h,e=>by
  have e':(if (a == p.line && b == p.col)=true then some d else codeAmong p (r++[.int i ti,.int j tj,c]))=some cv:=e
  show (if (a == p.line && b == p.col)=true then some d else codeAmong p r)=some cv\/_
  by_cases z:(a == p.line && b == p.col)=true
  ·rw[JA z] at e' ⊢;exact .inl e'
  ·rw[Jy z] at e' ⊢;exact nB r (show TriplesOk r from h) e'
def uT(q:Str)(more:Array Value):xi (#[.str q 0]++more)=q:=by
 unfold xi;rw[Mp];rfl
structure jy (H:Hp) (f:Addr) (q:Str) (params:Arguments) (body:Expr) (scope:Scope) (cl:List (Str×Addr)) (c':Addr) (pm ctv:Value):Prop where
 fn:H f=some (.ik (W.kla_obj "<lambda>" q params body scope cl pm c' ctv) (.own f))
 cd:CN H q (.ref c')
section
variable {X:Cx} {pins:List (Addr×Obj)} {σ:St} {H:Hp} {s:Shared} {E:Value->Shared->Prop}
def jy.up(x:jy H f q params body scope cl c' pm ctv)(g:∀b o u,H b=some (.ik o u)->H1 b=some (.ik o u)):jy H1 f q params body scope cl c' pm ctv:=
 ⟨g _ _ _ x.fn,let ⟨c,oc,vs,t,e1,e2,e3⟩:=x.cd;⟨c,oc,vs,t,e1,g _ _ _ e2,e3⟩⟩
def jy.get(x:jy H f q params body scope cl c' pm ctv)(I:Inv X pins σ H s):
  s.heap.get? f=some (W.kla_obj "<lambda>" q params body scope cl pm c' ctv)/\s.heap.CodeRec (.ref c') q:=by
 obtain⟨c,oc,vs,t,e1,e2,e3,e4⟩:=x.cd;exact⟨(I.aP f _ x.fn).1,c,oc,vs,t,e1,(I.aP c _ e2).1,e3,e4⟩
def Inv.yd{o:Obj}{t':Nat}(I:Inv X pins σ H s)(k:∀b u,s.heap.get? b=some u->h'.get? b=some u)(hp:s.heap.objs.size<=f)(e:h'.get? f=some o):Inv X pins σ (upd H f (.ik o (.own f))) {s with heap:=h',toks:=t'}:=
 I.laid k hp ⟨e,o,e⟩
def zR(I:Inv X pins σ H s){c P:Addr}(hx:x∈eE)(ht:W.tabIn X.K x=some (c,P))(hcode:X.env.code=.ref c)(hq:X.env.qual=x++".<locals>."){pos:Pos}
  (hdef:defaultsOf params X.env=([],[])) (hcl:closureFor scope X.env=pure cl)
  (h:∀f c' pm ctv H1 s1,eJ H H1->Inv X pins σ H1 s1->jy H1 f ((x++".<locals>.")++"<lambda>") params body scope cl c' pm ctv->Q (.ref f) s1) :
  wpAny (model X.prog X.w) X.A (eval (.Lambda params body scope pos) X.env) Q E s:=by
 have hm:(c,P,(x++".<locals>.")++"<lambda>")∈bU X.K:=Mw.mpr ⟨x,hx,by rw[ht];rfl⟩
 obtain⟨more,hP⟩:=(I.ok.tabs.un I.base) _ hm;have C:W.CodeHd s.heap c P:=(I.ok.mod.codes _ hm).keeps I.bk;obtain⟨qs,eP,tr,fa⟩:=I.aP P _ hP;have hns:=I.ok.mod.glob.keeps I.bk;have hgP:mainGlobals≠P:=λz=>by
  obtain⟨o,es,ep,e,_⟩:=I.ok.mod.glob;have:=(I.bs _ _ e).2;rw[z,hP] at this;cases this
 have hb:s.heap.BuiltinsAt X.mg P:=by
  obtain⟨bm,ob,b1,b2,b3,b4,b5⟩:=I.ok.mod.bm;refine⟨bm,ob,b1,b2,λz=>?_,λz=>?_,I.bk _ _ b3,b4,b5⟩
  ·obtain⟨o,es,ep,e,hd,_⟩:=I.ok.mod.glob;rw[z,e] at b3;cases b3;rw[hd] at b5;cases b5.2
  ·have:=(I.bs _ _ b3).2;rw[z,hP] at this;cases this
 refine W.kla_eval hdef ?_;rw[hq]
 cases ca:codeAmong pos qs.toList with
 |some cv =>
  have il:=fa pos cv ca;rw[uT] at il;obtain⟨c',oc,vs,t,rfl,e2,e3⟩:=il;refine W.kla_makeFunctionHit hcl I.ok.glob hns hcode C eP tr ca hb λctv h' tk hk hsz=>?_;have n0:H h'.objs.size=none:=I.aP.fresh hsz;have J:=I.yd (f:=h'.objs.size) (t':=tk) (h':=h'.push {cls:=.type "function",data:=.func (W.kla_fn "<lambda>" ((x++".<locals>.")++"<lambda>") params body scope cl ((X.mg "__name__").getD .none) (.ref c') ctv)}) (λb u e=>J5 _ (hk b u e)) hsz (JK _ rfl);exact h _ c' _ ctv _ _ (.more .refl n0) J ⟨aa,c',oc,vs,t,rfl,by rw[ak (af e2 n0)];exact e2,e3⟩
 |none =>
  refine W.kla_makeFunction hcl I.ok.glob hns hcode C eP tr ca hgP hb λc' ctv h' tk hx2 hge hlt hrec htb=>?_;obtain⟨c2,oc,vs,t,e2,hoc,hd,hv⟩:=hrec;cases e2;have nP:P≠c':=λz=>absurd (JL eP) (by rw[z];exact N4.mpr hge)
  have n1:H c'=none:=I.aP.fresh hge;have keep:∀b u,b≠P->s.heap.get? b=some u->h'.get? b=some u:=λb u hb' e=>hx2 b u hb' e;have H1ne:∀b u,H b=some u->upd H c' (.ik oc (.own c')) b=some u:=λb u e=>by rw[ak (af e n1)];exact e
  have hoP:∀y,H P≠some (.own y):=λy z=>by rw[hP] at z;cases z
  have J1:Inv X pins σ (upd H c' (.ik oc (.own c'))) {s with heap:=h',toks:=tk}:=by
   refine I.un ⟨λb o e n _ _=>keep b o (λz=>by rw[z,hP] at n;cases n) e,λb o e n _ _=>⟨o.slots,keep b o (λz=>by rw[z,hP] at n;cases n) e⟩,λb o e n _=>?_,λb o e _=>?_,λb xs e=>H1ne b _ e,λb o u e=>H1ne b _ e,λb ps e=>⟨#[],by rw[H1ne b _ e,Nf]⟩⟩ λb u e=>?_
   ·rw[ak (λz=>absurd (JL e) (by rw[z];exact N4.mpr hge))];exact n
   ·by_cases z:b=P
    ·rw[z];exact⟨_,htb⟩
    ·exact⟨o,keep b o z e⟩
   ·by_cases z:b=c'
    ·subst z;rw[aa] at e;cases e;exact⟨hoc,oc,hoc⟩
    ·rw[ak z] at e;by_cases z2:b=P
     ·subst z2;rw[hP] at e;cases e;refine⟨_,htb,by rw[Mp];exact jx _ tr,λp cv hc=>?_⟩
      rw[Mp] at hc;rcases nB _ tr hc with q|q
      ·obtain⟨c2,oc2,vs2,t2,g1,g2,g3⟩:=fa p cv q;exact⟨c2,oc2,vs2,t2,g1,H1ne _ _ g2,g3⟩
      ·rw[uT];exact⟨c',oc,vs,t,q,aa,hd,hv⟩
     ·refine (I.aP b u e).jI (λc v hc q=>keep c v ?_ q) (λc q=>H1ne c _ q) (λc xs q=>H1ne c _ q) λc _ _ q=>H1ne c _ q;rcases hc with rfl|hc
      ·exact z2
      ·exactλz3=>hoP b (by rw[<- z3];exact hc)
  have n2:upd H c' (.ik oc (.own c')) h'.objs.size=none:=J1.aP.fresh (J8 _);have J:=J1.yd (f:=h'.objs.size) (t':=tk) (h':=h'.push (W.kla_obj "<lambda>" ((x++".<locals>.")++"<lambda>") params body scope cl ((X.mg "__name__").getD .none) c' ctv)) (λb u e=>J5 _ e) (J8 _) (JK _ rfl);exact h _ c' _ ctv _ _ (.more (.more .refl n1) n2) J ⟨aa,c',oc,vs,t,rfl,by rw[ak (af aa n2)];exact aa,hd,hv⟩
end
section
variable {α β:Type}
noncomputable def iF(p:Int×α):List (Int×α)->List (Int×α)
 |[]=>[p]
 |q::r=>if p.1<=q.1 then p::q::r else q::iF p r
def eY:List (Int×α)->List (Int×α)
 |[]=>[]
 |p::r=>iF p (eY r)
abbrev FG(l:List (Int×α)):Prop:=l.Pairwise λp q=>p.1<=q.1
noncomputable def atK(a:Int)(l:List (Int×α)):List (Int×α):=l.filter λp=>decide (p.1=a)
theorem gK(p:Int×α):∀l,(iF p l).Perm (p::l)
 |[]=>.refl _
 |q::r=>by
  unfold iF;split
  ·exact .refl _
  ·exact ((gK p r).cons q).trans (List.Perm.swap p q r)
theorem dX:∀l:List (Int×α),(eY l).Perm l
 |[]=>.refl _
 |p::r=>(gK p _).trans ((dX r).cons p)
theorem uj{p:Int×α}:∀{l:List (Int×α)},FG l->FG (iF p l)
 |[],_=>NM _ _
 |q::r,h=>by
  obtain⟨h1,h2⟩:=Kc.mp h;unfold iF;split
  ·rename_i c;exact Kc.mpr ⟨λz hz=>by
    rcases Jw.mp hz with rfl|hz
    ·exact c
    ·exact Int.le_trans c (h1 z hz),h⟩
  ·rename_i c;refine Kc.mpr ⟨λz hz=>?_,uj h2⟩;rcases Jw.mp ((gK p r).mem_iff.mp hz) with rfl|hz
   ·lia
   ·exact h1 z hz
theorem qx:∀l:List (Int×α),FG (eY l)
 |[]=>List.Pairwise.nil
 |_::r=>uj (qx r)
def bo(a:Int)(p:Int×α)(l:List (Int×α)):atK a (p::l)=if p.1=a then p::atK a l else atK a l:=by
 unfold atK;rw[List.filter_cons];by_cases z:p.1=a
 ·rw[JA z,JA (Kl z)]
 ·rw[Jy z,Jy (by simp[z])]
theorem uS{a:Int}{p:Int×α}:∀{l:List (Int×α)},atK a (iF p l)=atK a (p::l)
 |[]=>rfl
 |q::r=>by
  unfold iF;split
  ·rfl
  ·rename_i c;rw[bo,uS,bo,bo,bo];by_cases z:p.1=a
   ·have z2:¬ q.1=a:=by lia
    simp only[z,z2,LV,Lz]
   ·simp only[z,Lz]
theorem qC{a:Int}:∀l:List (Int×α),atK a (eY l)=atK a l
 |[]=>rfl
 |p::r=>by
  show atK a (iF p (eY r))=_;rw[uS,bo,bo,qC r]
theorem jZ{a:Int}:∀{l:List (Int×α)},(∀p∈l,a<p.1)->atK a l=[]
 |[],_=>rfl
 |p::r,h=>by
  have:=h p (J7 ..);rw[bo,Jy (by lia),jZ λq hq=>h q (Jx _ hq)]
theorem mP:∀{l m:List (Int×α)},FG l->FG m->(∀a,atK a l=atK a m)->l=m
 |[],[],_,_,_=>rfl
 |[],q::m,_,_,h=>by
  have:=h q.1;rw[bo,JA rfl] at this;cases this
 |p::l,[],_,_,h=>by
  have:=h p.1;rw[bo,JA rfl] at this;cases this
 |p::l,q::m,hl,hm,h=>by
  obtain⟨l1,l2⟩:=Kc.mp hl;obtain⟨m1,m2⟩:=Kc.mp hm;have e:p.1=q.1:=by
   rcases Int.lt_trichotomy p.1 q.1 with z|z|z
   ·have q1:=h p.1;rw[bo,JA rfl,bo,Jy (by lia),jZ (l:=m) λr hr=>by have:=m1 r hr;lia] at q1
    cases q1
   ·exact z
   ·have q1:=h q.1;rw[bo,Jy (by lia),bo,JA rfl,jZ (l:=l) λr hr=>by have:=l1 r hr;lia] at q1
    cases q1
  have q1:=h p.1;rw[bo,JA rfl,bo,JA e.symm] at q1;obtain⟨q2,q3⟩:=List.cons.inj q1;subst q2;congr 1;refine mP l2 m2 λa=>?_;have q4:=h a;rw[bo,bo] at q4;by_cases z:p.1=a
  ·rw[JA z,JA z] at q4;exact (List.cons.inj q4).2
  ·rw[Jy z,Jy z] at q4;exact q4
def pU{l m:List (Int×α)}(hm:FG m)(h:∀a,atK a m=atK a l):m=eY l:=mP hm (qx l) λa=>by rw[h a,qC]
abbrev FN(R:α->β->Prop):List (Int×α)->List (Int×β)->Prop:=Paired λp q=>p.1=q.1/\R p.2 q.2
def w_{R:α->β->Prop}{p:Int×α}{q:Int×β}(h:p.1=q.1/\R p.2 q.2){l:List (Int×α)}{m:List (Int×β)}(k:FN R l m):FN R (iF p l) (iF q m):=by
 induction k with
 |nil=>exact .cons h .nil
 |cons r t ih =>
  unfold iF;split
  ·rename_i z;rw[JA (by rw[<- h.1,<- r.1];exact z)]
   exact .cons h (.cons r t)
  ·rename_i z;rw[Jy (by rw[<- h.1,<- r.1];exact z)]
   exact .cons r ih
def wB{R:α->β->Prop}{l:List (Int×α)}{m:List (Int×β)}(k:FN R l m):FN R (eY l) (eY m):=by
 induction k with
 |nil=>exact .nil
 |cons r t ih=>exact w_ r ih
def xT{R:α->β->Prop}{ks:List Int}{l:List α}{m:List β}(k:Paired R l m):FN R (ks.zip l) (ks.zip m):=by
 induction k generalizing ks with
 |nil=>rw[List.zip_nil_right,List.zip_nil_right];exact .nil
 |cons r t ih =>
  cases ks with
  |nil=>exact .nil
  |cons k ks=>exact .cons ⟨rfl,r⟩ ih
def x9{R:α->β->Prop}{l:List (Int×α)}{m:List (Int×β)}(k:FN R l m):Paired R (l.map (·.2)) (m.map (·.2)):=by
 induction k with
 |nil=>exact .nil
 |cons r t ih=>exact .cons r.2 ih
def jF(ks:List Int)(l:List α):List α:=(eY (ks.zip l)).map (·.2)
def sW{R:α->β->Prop}{ks:List Int}{l:List α}{m:List β}(h:Paired R l m):Paired R (jF ks l) (jF ks m):=x9 (wB (xT h))
def ud{ks:List Int}{l:List α}(h:ks.length=l.length):(jF ks l).length=l.length:=by
 unfold jF;rw[Jt,(dX _).length_eq,NQ,h,NG]
def lB{ks:List Int}{l:List α}(h:ks.length=l.length):(jF ks l).Perm l:=by
 have h2:((ks.zip l).map (·.2))=l:=NH (by lia)
 have h3:=(dX (ks.zip l)).map (·.2);rw[h2] at h3;exact h3
end
theorem jq:∀{xs:List V} {us:List Value},Vals xs us->Paired RelV xs us
 |_,_,.nil=>.nil
 |_,_,.cons r t=>.cons r (jq t)
theorem jr:∀{xs:List V} {us:List Value},Paired RelV xs us->Vals xs us
 |_,_,.nil=>.nil
 |_,_,.cons r t=>.cons r (jr t)
theorem tu:∀{us:List Value} {ns:List Int},IntsAre us ns->∀{i:Nat},i<ns.length->∃t,us.getD i Value.none=.int (ns.getD i 0) t
 |_,_,.cons n t h,0,_=>⟨t,rfl⟩
 |_,_,.cons n t h,i+1,hi=>tu h (i:=i) (by simpa using hi)
theorem xn{p:List Nat}(hl:kz.length=us.length)(hp:p.Perm (List.range us.length))(hr:p.Pairwise (SP.R λi=>kz.getD i 0)):p.map (λi=>us.getD i Value.none)=jF kz us:=by
 have ez:(List.range us.length).map (λi=>(kz.getD i 0,us.getD i Value.none))=kz.zip us:=by
  apply L4
  ·rw[Jt,Kh,NQ,hl,NG]
  ·intro i h1 h2;rw[Jt,Kh] at h1;rw[List.getElem_map,List.getElem_range,List.getElem_zip];simp[h1,hl]
 have e1:p.map (λi=>(kz.getD i 0,us.getD i Value.none))=eY (kz.zip us):=by
  refine pU ?_ λa=>?_
  ·exact LH.mpr (hr.imp λh=>h.le)
  ·have fl:∀l:List Nat,atK a (l.map λi=>(kz.getD i 0,us.getD i Value.none))=(l.filter λi=>decide (kz.getD i 0=a)).map λi=>(kz.getD i 0,us.getD i Value.none):=λl=>by
    unfold atK;rw[List.filter_map];rfl
   rw[<- ez,fl,fl];congr 1;refine NI (le:=(· < ·)) (λa b _ _ h g=>absurd h (Nat.lt_asymm g)) ?_ (MA.filter _) (hp.filter _);rw[List.pairwise_filter];refine hr.imp λ{i j} h hi hj=>?_;have hi:=K1 hi;have hj:=K1 hj;rcases h with h|h
   ·exfalso;have h':kz.getD i 0<kz.getD j 0:=h;lia
   ·exact h.2
 unfold jF;rw[<- e1,KI];rfl
section
variable {X:Cx} {pins:List (Addr×Obj)} {σ:St} {H:Hp} {s:Shared} {E:Value->Shared->Prop}
def Inv.take{D:Addr}{ob:Obj}{o:HO}{t':Nat}(I:Inv X ((D,ob)::pins) σ H s)(hs0:X.s₀.heap.objs.size<=D)(hnp:∀p∈X.pn++pins,p.1≠D)(k:∀b u,b≠D->s.heap.get? b=some u->h'.get? b=some u)(new:b7 X.prog X.w (upd H D o) h' D o):
  Inv X pins σ (upd H D o) {s with heap:=h',toks:=t'}:=by
 obtain⟨g1,g2,g3,g4,g5⟩:=I.pin (D,ob) (JR _ (J7 ..));have I0:Inv X pins σ H s:=⟨I.ok,I.os,I.bare,I.base,I.loc,I.cell,I.free,I.cO,λp hp=>I.pin p ((Ki.mp hp).elim (λz=>KL _ z) λz=>JR _ (Jx _ z)),I.aP,I.len⟩;have ne:∀b u,H b=some u->b≠D:=λb u e=>af e g2;refine I0.step (g':=s.gens) (d':=s.drawn) (ch:=[D]) (λb hb=>?_) (λb o' _ _ hc e _=>k b o' (λz=>hc (by rw[z];exact JH.mpr rfl)) e) (λb o' _ _ hc e _=>⟨o'.slots,k b o' (λz=>hc (by rw[z];exact JH.mpr rfl)) e⟩) (λb o' hc e n=>by rw[ak (λz=>hc (by rw[z];exact JH.mpr rfl))];exact n)
  (λb o' hc e=>⟨o',k b o' (λz=>hc (by rw[z];exact JH.mpr rfl)) e⟩) (λb xs e=>by rw[ak (ne b _ e)];exact e) (λb o' u e=>by rw[ak (ne b _ e)];exact e) (λb ps e=>⟨#[],by rw[ak (ne b _ e),e,Nf]⟩) (λm hm=>?_) (λb u e=>?_) I.bare
 ·rw[JH.mp hb];refine⟨.inr hs0,g3,λx c e z=>?_,hnp⟩;obtain⟨v,o',ho',hd⟩:=I.cell x c e;rw[z,g1] at ho';cases ho';exact g5 v hd
 ·obtain⟨o',es,ep,ho',r⟩:=hm;exact⟨o',es,ep,k _ _ (KA g3) ho',r⟩
 ·by_cases z:b=D
  ·subst z;rw[aa] at e;cases e;exact new
  ·rw[ak z] at e;refine (I.aP b u e).jI (λc v hc q=>k c v ?_ q) (λc q=>by rw[ak (ne c _ q)];exact q) (λc xs q=>by rw[ak (ne c _ q)];exact q) λc _ _ q=>by rw[ak (ne c _ q)];exact q
   rcases hc with rfl|hc
   ·exact z
   ·exact ne c _ hc
def sX{A:Around}{D:Nat}{st:SortSt}
  (I:Inv X ((D,seqObj "list" #[] e1)::pins) σ (upd H kS (.lst (kz.map V.int))) s) (hkS:H kS=none) (hD:H D=none) (hkD:kS≠D) (hs0:X.s₀.heap.objs.size<=D) (hnp:∀p∈X.pn++pins,p.1≠D)
  (hv:Vals xs us) (hlen:kz.length=us.length) (h64:us.length<64) (ho:((arrOf st).map (·.2)).toList=jF kz us) (hfl:failedOf st=none)
  (h:∀s',Inv X pins σ (upd (upd H kS (.lst [])) D (.lst (jF kz xs))) s'->P (.done (.ret .none)) s') :
  wpAny (model X.prog X.w) A (ksk_tail D false e1 (.ref kS) st) P E s:=by
 obtain⟨_,its,n,vr,ek⟩:=I.aP kS _ aa;have hz:its.toArray.size<=sizeLine:=by
  rw[JD,<- vr.length,Jt,hlen,Lb];lia
 have pD:=I.pin _ (JR _ (J7 ..));have hout:((arrOf st).map (·.2)).size=us.length:=by
  rw[<- Kj,ho,ud hlen]
 have s1:=KU s.heap kS (Obj.mapSeq λ_=>(#[]:Array Value));obtain⟨c1,hc1⟩:∃c,(s.heap.update kS (Obj.mapSeq λ_=>(#[]:Array Value))).get? kS=some (seqObj "list" #[] c):=⟨_,Mr ek λ_=>#[]⟩;have J1:Inv X ((D,seqObj "list" #[] e1)::pins) σ (upd H kS (.lst [])) {s with heap:=s.heap.update kS (Obj.mapSeq λ_=>(#[]:Array Value))}:=by
  have J:=I.write (x:=kS) (e:=kS) (o:=.lst []) (t':=s.toks) (h':=s.heap.update kS (Obj.mapSeq λ_=>(#[]:Array Value))) (by rw[aa];trivial) (.inl rfl) (λb u hb q=>(s1.2 b hb).trans q) ⟨_,hc1⟩ ⟨JJ _,[],c1,.nil,hc1⟩
  rw[oK] at J;exact J
 have pD1:=J1.pin _ (List.mem_append_right _ (List.mem_cons_self ..));have s2:=Heap.SameBut.update (s.heap.update kS (Obj.mapSeq λ_=>(#[]:Array Value))) D (Obj.mapSeq λ_=>(arrOf st).map (·.2));obtain⟨c2,hc2⟩:∃c,((s.heap.update kS (Obj.mapSeq λ_=>(#[]:Array Value))).update D (Obj.mapSeq λ_=>(arrOf st).map (·.2))).get? D=some (seqObj "list" ((arrOf st).map (·.2)) c):=⟨_,get?_update_seq pD1.1 λ_=>(arrOf st).map (·.2)⟩;have vB:Vals (jF kz xs) (jF kz us):=jr (sW (jq hv));unfold ksk_tail;dsimp only;refine wpAny_bind (listUpdate_at ek rfl ?_ hz (Nat.zero_le _));refine wpAny_bind (wpAny_letGo ?_);refine wpAny_bind (seqEpoch_at pD1.1 rfl ?_);refine wpAny_bind (listUpdate_at pD1.1 rfl ?_ (Nat.zero_le _) (by show ((arrOf st).map (·.2)).size<=_;rw[hout,sizeLine_eq];lia))
 rw[hfl];simp only[Nx,KZ,Lz];refine J9 (h _ (J1.take hs0 hnp (λb u hb q=>(s2.2 b hb).trans q) ⟨?_,jF kz us,c2,vB,?_⟩))
 ·rw[vB.length,ud hlen,Lb];lia
 ·rw[<- ho,Mm];exact hc2
def DH{A:Around}{D:Nat}{us:List Value}{kz:List Int}{keys:Array Value}
  (I:Inv X ((D,seqObj "list" #[] e1)::pins) σ (upd H kS (.lst (kz.map V.int))) s) (hkS:H kS=none) (hD:H D=none) (hkD:kS≠D) (hs0:X.s₀.heap.objs.size<=D) (hnp:∀p∈X.pn++pins,p.1≠D)
  (hv:Vals xs us) (hlen:kz.length=us.length) (h64:us.length<64) (hk:IntsAre keys.toList kz)
  (h:∀s',Inv X pins σ (upd (upd H kS (.lst [])) D (.lst (jF kz xs))) s'->P (.done (.ret .none)) s') :
  wpAny (model X.prog X.w) A (ksk_end D false us.toArray e1 (.ref kS) keys) P E s:=by
 have hsz:keys.size=us.length:=by
  have z:=hk.length;rw[Kj] at z;exact z.trans hlen
 have hzs:(keys.zip us.toArray).size=us.length:=by
  rw[Array.size_zip,hsz,JD,NG]
 unfold ksk_end;dsimp only;rw[if_neg Bool.false_ne_true,if_neg Bool.false_ne_true];by_cases h2:us.toArray.size<2
 ·rw[if_pos h2,if_pos h2];refine wpAny_bind (wpAny_pure ?_);rw[StateT.run_pure];refine wpAny_bind (wpAny_pure ?_);dsimp only;refine sX I hkS hD hkD hs0 hnp hv hlen h64 ?_ rfl h;rw[List.size_toArray] at h2;have:=xn (us:=us) (kz:=kz) (p:=List.range us.length) hlen (List.Perm.refl _) (by
   rcases us with _|⟨x,_|⟨y,r⟩⟩
   ·exact .nil
   ·simp
   ·exfalso;simp only[JE] at h2;lia)
  rw[<- this];show ((keys.zip us.toArray).map (·.2)).toList=_;rw[Array.toList_map,Array.toList_zip,NH (by simp only[Kj,JD];lia)]
  apply L4
  ·simp
  ·intro i h1 h2;have h1':i<us.length:=h1;simp[h1']
 ·rw[Jy h2,Jy h2];rw[JD] at h2;rw[ksk_kind hk (by lia)]
  refine Js (J9 ?_);have ek:keys=keys.toList.toArray:=(Mm).symm;have hkl:keys.toList.length=us.length:=by rw[Kj,hsz]
  have hat:∀i,i<us.length->∃t,keys.toList.getD i Value.none=.int (kz.getD i 0) t:=λi hi=>tu hk (by rw[hlen];exact hi)
  generalize keys.toList=ks at *;subst ek;refine Js (Kt (W.kat_run (ks:=ks) (vs:=us) (κ:=oneType') (Q:=λst' s'=>s'=s/\failedOf st'=none/\((arrOf st').map (·.2)).toList=jF kz us)
   (G:=λp s'=>s'=s/\p.toList.Perm (List.range us.length)/\p.toList.Pairwise (SP.R λi=>kz.getD i 0)) hkl (by lia) h64 (λp st' s' a1 a2 a3 a4=>⟨a4.1,a3,by rw[W.kat_snds hkl a2];exact xn hlen a4.2.1 a4.2.2⟩) ?_) ?_ λ_ _ e=>e)
  ·refine SP.tV (k:=λi=>kz.getD i 0) (I:=λs'=>s'=s) (λi j C s' hi hj hI hC=>?_) (by lia) rfl λp s' hp hr hI=>⟨hI,hp,hr⟩
   subst hI;obtain⟨t1,e1⟩:=hat i hi;obtain⟨t2,e2⟩:=hat j hj;unfold W.kas_ask;rw[e1,e2];exact W.kat_lt_int (hC _ rfl)
  rintro⟨⟨⟩,st'⟩ s' ⟨rfl,hf,ho⟩;dsimp only;exact sX I hkS hD hkD hs0 hnp hv hlen h64 ho hf h
theorem lu:∀{us:List Value} {ns:List Int},Vals (ns.map V.int) us->IntsAre us ns
 |_,[],.nil=>.nil
 |_,n::ns,.cons ⟨t,e⟩ r=>by subst e;exact .cons n t (lu r)
theorem C0{A:Around}{D:Nat}{f:Value}
  (I:Inv X ((D,seqObj "list" #[] e1)::pins) σ (upd H kS (.lst [])) s) (hkS:H kS=none) (hD:H D=none) (hkD:kS≠D) (hs0:X.s₀.heap.objs.size<=D) (hnp:∀p∈X.pn++pins,p.1≠D)
  (hv:Vals xs us) (hlen:kz.length=us.length) (h64:us.length<64)
  (turn:∀(i:Nat) (u:Value) (k:Int),us[i]?=some u->kz[i]?=some k->∀pins' H' s',eJ H H'->Inv X pins' σ H' s'->wpAny (model X.prog X.w) A (call f [u]) (λr s2=>(∃t,r=.int k t)/\Inv X pins' σ H' s2) (λ_ _=>False) s')
  (h:∀s',Inv X pins σ (upd (upd H kS (.lst [])) D (.lst (jF kz xs))) s'->P (.done (.ret .none)) s') :
  wpAny (model X.prog X.w) A (ksk_rest D f false us.toArray e1 (.ref kS)) P E s:=by
 unfold ksk_rest;refine Js (Oz ?_)
 first
  |rw[List.forIn_toArray]
  | (rw[<- Array.forIn_toList];simp only[Nb])
 refine Js (ksk_fold (λi s'=>Inv X ((D,seqObj "list" #[] e1)::pins) σ (upd H kS (.lst ((kz.take i).map V.int))) s') us 0 s I ?one ?all)
 case one =>
  intro j u s' hu J;rw[Mf] at J ⊢;have hj:j<us.length:=(Ju.mp hu).1;obtain⟨k,hkj⟩:∃k,kz[j]?=some k:=⟨_,Jr (by lia)⟩
  refine wpAny_bind (wpAny_attempt (wpAny_mono (turn j u k hu hkj _ _ s' (.more .refl hkS) J) (λr s2 hr=>?_) λ_ _ z=>z.elim));obtain⟨⟨t,rfl⟩,J2⟩:=hr;dsimp only;obtain⟨_,its,n,vr,ek⟩:=J2.aP kS _ aa;have lenI:its.length<=us.length:=by
   rw[<- vr.length,Jt,JG];lia
  have s1:=KU s2.heap kS (Obj.mapSeq (·.push (.int k t)));obtain⟨c1,hc1⟩:∃c,(s2.heap.update kS (Obj.mapSeq (·.push (.int k t)))).get? kS=some (seqObj "list" (its.toArray.push (.int k t)) c):=⟨_,Mr ek (·.push (.int k t))⟩;have et:kz.take (j+1)=kz.take j++[k]:=by
   rw[Nv,hkj];rfl
  have vr2:Vals ((kz.take (j+1)).map V.int) (its++[.int k t]):=by
   rw[et,JN];exact vr.append (.cons ⟨t,rfl⟩ .nil)
  refine Js (ME ek rfl ?_ (by rw[JD,Lb];lia) (by show (its.toArray.push (.int k t)).size<=_;rw[Array.size_push,JD,Lb];lia))
  refine J9 ⟨rfl,?_⟩;have J3:=J2.write (x:=kS) (e:=kS) (o:=.lst ((kz.take (j+1)).map V.int)) (t':=s2.toks) (h':=s2.heap.update kS (Obj.mapSeq (·.push (.int k t)))) (by rw[aa];trivial) (.inl rfl) (λb u hb q=>(s1.2 b hb).trans q) ⟨_,hc1⟩
   ⟨by rw[Jt,JG,Lb];lia,its++[.int k t],c1,vr2,by rw[hc1,List.push_toArray]⟩
  rw[oK] at J3;exact J3
 case all =>
  intro s' J;have ez:kz.take (0+us.length)=kz:=Kw (by lia)
  have J':Inv X ((D,seqObj "list" #[] e1)::pins) σ (upd H kS (.lst (kz.map V.int))) s':=by
   rw[<- ez];rw[ez];simpa only[ez] using J
  obtain⟨_,its,n,vr,ek⟩:=J'.aP kS _ aa;refine Js (MT ek rfl ?_);exact DH J' hkS hD hkD hs0 hnp hv hlen h64 (by rw[Nb];exact lu vr) h
theorem C5{A:Around}{D:Addr}{n0:Nat}{h0:Heap}{f:Value}
  (I:Inv X pins σ H s) (k0:∀b o,s.heap.get? b=some o->h0.get? b=some o) (hDs:s.heap.objs.size<=D) (ho:h0.get? D=some (seqObj "list" us.toArray n0)) (hv:Vals xs us) (hlen:kz.length=us.length) (h64:us.length<64)
  (turn:∀(i:Nat) (u:Value) (k:Int),us[i]?=some u->kz[i]?=some k->∀pins' H' s',eJ H H'->Inv X pins' σ H' s'->wpAny (model X.prog X.w) A (call f [u]) (λr s2=>(∃t,r=.int k t)/\Inv X pins' σ H' s2) (λ_ _=>False) s')
  (h:∀H' s',eJ H H'->H' D=none->Inv X pins σ (upd H' D (.lst (jF kz xs))) s'->P (.done (.ret .none)) s') :
  wpAny (model X.prog X.w) A (ksk_tree D f false) P E {s with heap:=h0}:=by
 have hsz0:D<h0.objs.size:=JL ho;have s1:=KU h0 D (Obj.mapSeq λ_=>(#[]:Array Value));obtain⟨e1,ho1⟩:∃e,(h0.update D (Obj.mapSeq λ_=>(#[]:Array Value))).get? D=some (seqObj "list" #[] e):=⟨_,Mr ho λ_=>#[]⟩;have hkz:((h0.update D (Obj.mapSeq λ_=>(#[]:Array Value))).push (seqObj "tuple" us.toArray 0)).objs.size=h0.objs.size+1:=by
  rw[size_push',NB]
 have nD:∀b o,s.heap.get? b=some o->b≠D:=λb o e=>JU (JT (JL e) hDs);have keep:∀b o,s.heap.get? b=some o->(((h0.update D (Obj.mapSeq λ_=>(#[]:Array Value))).push (seqObj "tuple" us.toArray 0)).push (seqObj "list" #[] 0)).get? b=some o:=λb o e =>
  J5 _ (J5 _ ((s1.2 b (nD b o e)).trans (k0 b o e)))
 have hle:s.heap.objs.size<=h0.objs.size+1:=JC hDs (Nat.le_succ_of_le (L6 hsz0));have hkD:h0.objs.size+1≠D:=L7 (Ma hsz0);have hkS:H (h0.objs.size+1)=none:=I.aP.fresh hle;have hD:H D=none:=I.aP.fresh hDs;have hnp:∀p∈X.pn++pins,p.1≠D:=λp hp=>nD _ _ (I.pin p hp).1;have J0:Inv X pins σ (upd H (h0.objs.size+1) (.lst [])) {s with heap:=((h0.update D (Obj.mapSeq λ_=>(#[]:Array Value))).push (seqObj "tuple" us.toArray 0)).push (seqObj "list" #[] 0)}:=
  I.laid (t':=s.toks) keep hle ⟨JJ _,[],0,.nil,by rw[<- hkz];exact JK _ rfl⟩
 have J:Inv X ((D,seqObj "list" #[] e1)::pins) σ (upd H (h0.objs.size+1) (.lst [])) {s with heap:=((h0.update D (Obj.mapSeq λ_=>(#[]:Array Value))).push (seqObj "tuple" us.toArray 0)).push (seqObj "list" #[] 0)}:=by
  refine J0.nW λp hp=>?_;rcases Jw.mp hp with rfl|hp
  ·exact⟨J5 _ (J5 _ ho1),by rw[ak (KA hkD)];exact hD,λz=>absurd I.lt (by rw[<- z];exact N4.mpr hDs),I.GV hDs,λv z=>by cases z⟩
  ·exact J0.pin p (JR _ hp)
 unfold ksk_tree;refine Js (MT ho rfl ?_);refine Js (ME ho rfl ?_ (by rw[JD,Lb];lia) (JJ _))
 refine Js (seqEpoch_at ho1 rfl ?_);refine Js (Ov ?_ (by show us.length<=_;rw[Lb];lia))
 refine Js (Mn ?_ (JJ _));refine Kq ?_;show wpAny _ _ (ksk_rest D f false us.toArray e1 (.ref ((h0.update D (Obj.mapSeq λ_=>(#[]:Array Value))).push (seqObj "tuple" us.toArray 0)).objs.size)) _ _ _;rw[hkz];exact C0 J hkS hD hkD (JC I.sz hDs) hnp hv hlen h64 turn λs' K=>h _ s' (.more .refl hkS) (by rw[ak (KA hkD)];exact hD) K
end
def Cs(q:Str)(params:Arguments)(body:Expr)(scope:Scope)(cl:List (Str×Addr)):TE:=λ_ H Q=>∀f c' pm ctv H1,eJ H H1->jy H1 f q params body scope cl c' pm ctv->Q (.ref f) H1
def Eb{c P:Addr}(hx:x∈eE)(ht:W.tabIn X.K x=some (c,P))(hcode:X.env.code=.ref c)(hq:X.env.qual=x++".<locals>."){pos:Pos}
  (hdef:defaultsOf params X.env=([],[])) (hcl:closureFor scope X.env=pure cl):PE X (.Lambda params body scope pos) (Cs ((x++".<locals>.")++"<lambda>") params body scope cl):=λpins s σ H Q I h =>
 zR I hx ht hcode hq hdef hcl λf c' pm ctv H1 s1 g J l=>⟨.ref f,H1,J,rfl,h f c' pm ctv H1 g l⟩
section
variable {X:Cx} {pins:List (Addr×Obj)} {σ:St} {H:Hp} {s:Shared} {E:Value->Shared->Prop}
def xb(X:Cx)(A:Around)(s:Shared)(l:Addr)(xs:List V):Prop:=∀(Q:List Value->Shared->Prop) (E:Value->Shared->Prop),(∀h0 tk us,(∀b o,s.heap.get? b=some o->h0.get? b=some o)->s.heap.objs.size<=h0.objs.size->Vals xs us->Q us {s with heap:=h0,toks:=tk})->wpAny (model X.prog X.w) A (collect (.ref l)) Q E s
def vT{A:Around}{l:Addr}{Q:VK}(I:Inv X pins σ H s)(hcol:xb X A.in1 s l xs)(hlen:kz.length=xs.length)(h64:xs.length<64)
  (turn:∀(i:Nat) (v:V) (u:Value) (k:Int),xs[i]?=some v->RelV v u->kz[i]?=some k->∀pins' H' s',eJ H H'->Inv X pins' σ H' s'->wpAny (model X.prog X.w) A.in1.in1 (call (.ref f) [u]) (λr s2=>(∃t,r=.int k t)/\Inv X pins' σ H' s2) (λ_ _=>False) s')
  (h:∀H' D,eJ H H'->H' D=none->Q (.ref D) (upd H' D (.lst (jF kz xs)))) :
  wpAny (model X.prog X.w) A (call (.builtin "sorted") [.ref l] [(Str.ofString "key",.ref f)]) (EP X pins σ Q) E s:=by
 refine call_function_entry_kw kind_sorted plain_sorted entry_sorted (ksk_s1 _ _) ?_;unfold Builtin.«sorted»;refine Js (m:=checkCount "sorted" 1 1 _) (J9 (Js (hcol _ _ λh0 tk us k0 hz hv=>?_)));have ul:us.length=xs.length:=hv.length.symm;refine Js (Mn ?_ (by rw[ul,Lb];lia))
 have hoL:(h0.push (seqObj "list" us.toArray 0)).get? h0.objs.size=some (seqObj "list" us.toArray 0):=JK _ rfl;refine Js (Kq (wpAny_call_entry_kw slot_list_sort ⟨_,hoL,rfl⟩ entry_list_sort ?srt (ksk_l1 _ _)))
 case srt =>
  show wpAny _ A.in1.in1 (Builtin.«list.sort» ⟨[.ref h0.objs.size],[(Str.ofString "key",.ref f)]⟩) _ _ _;rw[ksk_t1];refine C5 (s:={s with toks:=tk}) (h0:=h0.push (seqObj "list" us.toArray 0)) (I.tok tk) (λb o e=>J5 _ (k0 b o e)) hz hoL hv (by rw[ul];exact hlen) (by rw[ul];exact h64)
   (λi u k hu hk pins' H' s' g J=>?_) λH' s' g n J=>⟨_,rfl,?_⟩
  ·have hi:i<xs.length:=by rw[<- ul];exact (Ju.mp hu).1
   obtain⟨u',hu',rv⟩:=hv.get (Jr hi);rw[hu] at hu';cases hu';exact turn i _ u k (Jr hi) rv hk pins' H' s' g J
  ·exact J9 ⟨_,rfl,.ref h0.objs.size,_,J,rfl,h H' _ g n⟩
def Al(src:Hp->Addr->List V->Prop)(pre:V->Int->Hp->St->Prop)(fr:St->St)(t:TA):TE:=λσ H Q=>t σ H λvs H1=>∃l xs kz,vs=[.ref l]/\src H1 l xs/\kz.length=xs.length/\xs.length<64 /\
 (∀(i:Nat) (v:V) (k:Int),xs[i]?=some v->kz[i]?=some k->∀H',eJ H1 H'->pre v k H' (fr σ))/\∀H2 D,eJ H1 H2->H2 D=none->Q (.ref D) (upd H2 D (.lst (jF kz xs)))
def xE{t:TA}{p pos kpos lpos:Pos}{src:Hp->Addr->List V->Prop}{pre:V->Int->Hp->St->Prop}{fr:St->St}
  (hg:Gl X "sorted") (hm:X.mg "sorted"=none) (ha:PA X [e] t) (h1:eG e=true) (hr:bz (k+3) X.A) (hL:PE X (.Lambda params body scope lpos) (Cs q params body scope cl))
  (hsrc:∀pins σ H s H1 l xs A,Inv X pins σ H s->src H1 l xs->eJ H1 H->A.handled=none->xs.length<64->xb X A s l xs)
  (hk:scope.kind=.function) (hco:scope.isCoroutine=false) (hgen:scope.isGenerator=false) (hcell:∀y∈scope.names,y.2≠.cell) (hloc:scope.names.lookup x=some .local)
  (hbind:∀c' pm ctv u,bindArgs (W.kla_fn "<lambda>" q params body scope cl pm (.ref c') ctv) ⟨[u],[]⟩=pure [(x,u)])
  (hlen:∀σ:St,(fr σ).length=N.length) (hcl:∀y c,cl.lookup y=some c->X.env.cells.lookup y=some c) (hhas:∀y,(scope.names.lookup y=some .cell\/scope.names.lookup y=some .free)->∃c,cl.lookup y=some c)
  (hf:∀pins σ H s,Inv X pins σ H s->∀(i:Nat) (y:Str) (v:V),N[i]?=some y->(fr σ)[i]?=some (some v)->scope.names.lookup y=some .free/\∃c u,cl.lookup y=some c/\s.heap.IsCell c (some u)/\RelV v u)
  (hbody:∀A f c' s' H' σf v i,pre v i H' σf->∃t,PE (uH X A (x::N) q scope f (.ref c') cl s' H') body t/\t (some v::σf) H' (λw H2=>w=.int i/\H2=H')) :
  PE X (.Call (.Name "sorted" p) [e] [⟨some "key",.Lambda params body scope lpos,kpos⟩] pos) (Al src pre fr t):=by
 intro pins s σ H Q I h;refine L8 (fS I hg hm (u:=.builtin "sorted") (by decide +kernel) ?_ (by decide) (by decide))
 have hkw:PK X [⟨some "key",.Lambda params body scope lpos,kpos⟩] (jt (Cs q params body scope cl) j9):=Ce hL EW;refine callWith_kw ?_ (by rw[cC h1];rfl) (by rw[cC h1];rfl) rfl rfl
 refine bN (ha pos pins s σ H _ I h) λus s1 hq1=>?_;obtain⟨vs,H1,I1,r1,q1⟩:=hq1;obtain⟨l,xs,kz,rfl,hs,hle,h64,hpre,qq⟩:=q1;obtain⟨u,rfl,ru⟩:=vals1 r1;cases ru;refine bN (hkw pos pins s1 σ H1 (λzs H2=>∃f c' pm ctv,zs=[.ref f]/\eJ H1 H2/\jy H2 f ((q)) params body scope cl c' pm ctv) I1 λf c' pm ctv H2 g lm=>⟨f,c',pm,ctv,rfl,g,lm⟩) λws s2 hq2=>?_;obtain⟨zs,H2,I2,rz,f,c',pm,ctv,e1,g,lm⟩:=hq2;subst e1;obtain⟨wv,rfl,rw1⟩:=vals1 rz;cases rw1;have hr1:bz (k+2) X.A.in1:=hr.in1;refine vT I2 (hsrc _ _ _ _ _ _ _ _ I2 hs g hr1.hd h64) hle h64 (λi v u j hv rv hj pins' H' s' g' J=>?_) λH' D g' n=>qq H' D (g.trans g') n;obtain⟨ho,gW⟩:=(lm.up λb o u e=>g'.same b _ e).get J;obtain⟨tb,hb,hq⟩:=hbody X.A.in1.in1 f c' s' H' (fr σ) v j (hpre i v j hv hj H' (g.trans g'));refine Kt (xc J hr1.in1 J.ok.frames hk hco hgen hcell rv hloc ho gW (hbind c' pm ctv) (hlen σ) hcl hhas (hf _ _ _ _ J) hb hq) (λr s4 hr4=>?_) λ_ _ z=>z;obtain⟨w,H4,J4,rw4,e4,e5⟩:=hr4;subst e4 e5;exact⟨rw4,J4⟩
end
def ou{a:α}{l:List (Str×α)}:List.lookup x ((x,a)::l)=some a:=by rw[K_,Mi]
def jM{y:Str}{a:α}{l:List (Str×α)}(h:y≠x):List.lookup y ((x,a)::l)=List.lookup y l:=by rw[K_,Kz.mpr h]
abbrev kT(n:Nat):List V:=(List.range n).map λk=>V.int ((k:Nat):Int)
section
variable {X:Cx} {pins:List (Addr×Obj)} {σ:St} {H:Hp} {s:Shared}
def pB{A:Around}{r:Addr}{n:Nat}(hh:A.handled=none)(I:Inv X pins σ H s)(hr:H r=some (.pd 0 n))(h64:n<64):xb X A s r (kT n):=λQ E h=>by
 obtain⟨t,u,v,e⟩:=I.aP r _ hr;have hn2:Builtin.Range.rangeSize 0 (n:Int) 1=n:=by rw[rangeSize_one];split<;>lia
 have hsm:Builtin.Range.small 0 (n:Int) 1=true:=small_one (by lia) (by lia) (by lia) (by lia)
 have oS:(s.heap.push {cls:=.type "list",data:=.seq ([]:List Value).toArray}).get? s.heap.objs.size=some {cls:=.type "list",data:=.seq #[] 0}:=JK _ rfl;unfold collect;refine Js (wpAny_runValue (MS PySem.F.entry_proto_collect ?_));rw[Around.under_plainId PySem.F.plain_proto_collect _];refine Js (m:=newList []) (KR (J9 ⟨plainId_quiet PySem.F.plain_list_iadd _,MS PySem.F.entry_list_iadd ?_⟩));rw[Around.under_plainId PySem.F.plain_list_iadd _];show wpAny _ A.in1 (Builtin.List.listExtendWith _ _ _) _ _ _;refine wpAny_extend_range (R:=λr s'=>match r with|.ok (.ret v)=>wpAny (model X.prog X.w) A (match v with|.ref a=>do (match (<- load a).data with|.seq xs _=>pure xs.toList|_=>unsupported "internal:collect")|_=>unsupported "internal:collect") Q E s'|.ok _=>_|.error e=>E e s') (s:={s with heap:=s.heap.push {cls:=.type "list",data:=.seq ([]:List Value).toArray}}) hh (J5 _ e) hsm hn2 (by lia) s.heap.objs.size (.ref s.heap.objs.size) 0 oS λh' tk acc c' hk hS hI=>?_
 refine Js (m:=load s.heap.objs.size) (wpAny_load hS (J9 (h h' tk acc.toList (λb o e=>hk b o (JU (JL e)) (J5 _ e)) (L6 (JL hS)) ?_)));have hv:=Y.gX (lo:=0) n acc.toList 0 (by simpa using hI.1) λj v e=>by
  obtain⟨t,e2⟩:=hI.2 j v (by simpa using e)
  exact⟨t,by rw[e2];simp⟩
 show Vals ((List.range n).map λk=>V.int ((k:Nat):Int)) acc.toList;rw[List.range_eq_range']
 simpa using hv
end
noncomputable def IY(j:Nat)(σ:St):St:=[(σ[j]?).getD none]
def kR(K:W.Frag)(j:Nat)(t:TA):TE:=Al (λH l xs=>∃n:Nat,H l=some (.pd 0 n)/\xs=kT n) (λv k H' σf=>∃i q ls,v=.int i/\σf=[some (.ref q)]/\bq K H' q ls/\bI ls i=some (.int k)) (IY j) t
def xA{t:TA}{p pos kpos lpos p1 p2 p3:Pos}{y:Str}{c:Addr}{j:Nat}(hg:Gl X "sorted")(hm:X.mg "sorted"=none)(ha:PA X [e] t)(h1:eG e=true)(hr:bz (k+3) X.A)
  (hL:PE X (.Lambda params (.Subscript (.Name y p1) (.Name x p2) p3) scope lpos) (Cs q params (.Subscript (.Name y p1) (.Name x p2) p3) scope [(y,c)]))
  (hsc:scope={kind:=.function,names:=[(x,.local),(y,.free)],isGenerator:=false,isCoroutine:=false,more:=[]}) (hxy:y≠x) (hx1:(x ==("__debug__":Str))=false) (hx2:(x ==("__classdict__":Str))=false) (hy1:(y ==("__debug__":Str))=false) (hy2:(y ==("__classdict__":Str))=false)
  (hj:X.N[j]?=some y) (hyc:X.env.scope.names.lookup y=some .cell) (hyl:X.env.cells.lookup y=some c)
  (hbind:∀c' pm ctv u,bindArgs (W.kla_fn "<lambda>" q params (.Subscript (.Name y p1) (.Name x p2) p3) scope [(y,c)] pm (.ref c') ctv) ⟨[u],[]⟩=pure [(x,u)]) :
  PE X (.Call (.Name "sorted" p) [e] [⟨some "key",.Lambda params (.Subscript (.Name y p1) (.Name x p2) p3) scope lpos,kpos⟩] pos) (kR X.K j t):=by
 subst hsc;have lx:List.lookup x [(x,NameKind.local),(y,NameKind.free)]=some .local:=ou;have ly:List.lookup y [(x,NameKind.local),(y,NameKind.free)]=some .free:=by rw[jM hxy,ou]
 have lz:∀z,z≠x->z≠y->List.lookup z [(x,NameKind.local),(y,NameKind.free)]=none:=λz h1 h2=>by rw[jM h1,jM h2];rfl
 have lc:List.lookup y [(y,c)]=some c:=ou;have lcz:∀z d,List.lookup z [(y,c)]=some d->z=y/\d=c:=λz d e=>by
  by_cases h:z=y
  ·rw[h,lc] at e;cases e;exact⟨h,rfl⟩
  ·rw[jM h] at e;cases e
 refine xE (N:=[y]) hg hm ha h1 hr hL (λpins σ H s H1 l xs A I hs g hh h64=>?_) rfl rfl rfl (λz hz=>?_) lx hbind (λ_=>rfl) (λz d e=>?_) (λz hz=>?_) (λpins σ H s I i z v e1 e2=>?_) λA f c' s' H' σf v i hp=>?_
 ·obtain⟨n,hs,rfl⟩:=hs;rw[Jt,Kh] at h64;exact pB hh I (g.same _ _ hs) h64
 ·rcases Jw.mp hz with rfl|hz
  ·nofun
  ·rw[JH.mp hz];nofun
 ·obtain⟨rfl,rfl⟩:=lcz z d e;exact hyl
 ·by_cases z1:z=x
  ·have hz':List.lookup z [(x,NameKind.local),(y,NameKind.free)]=some .cell\/List.lookup z [(x,NameKind.local),(y,NameKind.free)]=some .free:=hz;rw[z1,lx] at hz';rcases hz' with h|h<;>cases h
  ·by_cases z2:z=y
   ·rw[z2];exact⟨c,lc⟩
   ·have hz':List.lookup z [(x,NameKind.local),(y,NameKind.free)]=some .cell\/List.lookup z [(x,NameKind.local),(y,NameKind.free)]=some .free:=hz;rw[lz z z1 z2] at hz';rcases hz' with h|h<;>cases h
 ·cases i with
  |succ i=>cases e1
  |zero =>
   have e1':some y=some z:=e1;cases e1';have e2':some ((σ[j]?).getD none)=some (some v):=e2;have e3:σ[j]?=some (some v):=by
    cases hσ:σ[j]? with
    |none=>rw[hσ] at e2';cases e2'
    |some o=>rw[hσ] at e2';exact e2'
   obtain⟨m,_,hl⟩:=I.loc;obtain⟨u,rv,lk⟩:=hl j y v hj e3 (.inr (.inl hyc));refine⟨ly,c,u,lc,?_,rv⟩;rcases lk with ⟨z,_⟩|⟨_,d,z1,z2⟩
   ·have z':X.env.scope.names.lookup y=some .local:=z;rw[hyc] at z';cases z'
   ·rw[hyl] at z1;cases z1;exact z2
 ·obtain⟨ix,a,ls,rfl,rfl,hq,ha'⟩:=hp;refine⟨_,CG rM (pv 1 rfl (.inr (.inr ly)) hy1 hy2) (pv 0 rfl (.inl lx) hx1 hx2) (Z.IV rfl),?_⟩;exact⟨_,rfl,_,rfl,a,ls,ix,.int i,rfl,rfl,hq,ha',rfl,rfl⟩
def BJ{β:Type}{g:α->β}{ks:List Int}{l:List α}:jF ks (l.map g)=(jF ks l).map g:=by
 have p:∀l:List α,Paired (λa b=>b=g a) l (l.map g):=λl=>by
  induction l with
  |nil=>exact .nil
  |cons a l ih=>exact .cons rfl ih
 have q:∀{l:List α} {m:List β},Paired (λa b=>b=g a) l m->m=l.map g:=λ{l m} h=>by
  induction h with
  |nil=>rfl
  |cons r _ ih=>rw[r,ih];rfl
 exact q (sW (p l))
structure tN (K:W.Frag) (mg:Str->Option Value) (x:Str):Prop where
 ex:∃c P,W.tabIn K x=some (c,P)/\∀f cdv,Fb K mg x f cdv->cdv=.ref c
def pY{c P:Addr}{oc oc':Value}{od od':Option Addr}{sl sl':Array (Option Value)}{fd:FuncData}{vs:Array Value}(a:W.nsIn K mainGlobals x=some (some (.ref f)))(l:K.lookup f=some ⟨oc,od,.func fd,sl⟩)(hc:fd.code=.ref c)
  (lc:K.lookup c=some ⟨oc',od',.fields vs,sl'⟩) (hv:vs[11]?=some (.ref P)):W.tabIn K x=some (c,P):=by
 unfold W.tabIn;rw[a];dsimp only;rw[l];dsimp only;rw[hc];dsimp only;rw[lc];dsimp only;rw[hv]
def lW(a:W.nsIn K mainGlobals x=some none):W.tabIn K x=none:=by
 unfold W.tabIn;rw[a]
def tN.mk'{mg:Str->Option Value}{c P:Addr}(X:K.In h)(G:h.Ns mainGlobals mg)(ht:W.tabIn K x=some (c,P)):tN K mg x:=
 ⟨c,P,ht,λf cdv ⟨m,o,fd,lk,hd,e⟩=>by rw[<- e];exact W.law_code X G ht m (X _ _ lk) hd⟩
def iD.of{q:Program}{o1 o2 o3:Option (Addr×Addr)}(nt:W.noTabs K=true)(t1:W.tabIn K "by_worth"=o1)(t2:W.tabIn K "by_weight"=o2)(t3:W.tabIn K "code_of"=o3)(nd:((o1.toList++(o2.toList++o3.toList)).map (·.2)).Nodup)
  (f1:o1=none\/((recsOf q).find? (λe=>e.name ==("by_worth":Str))).isSome=true) (f2:o2=none\/((recsOf q).find? (λe=>e.name ==("by_weight":Str))).isSome=true) (f3:o3=none\/((recsOf q).find? (λe=>e.name ==("code_of":Str))).isSome=true):iD q K:=by
 refine⟨nt,?_,λx hx=>?_⟩
 ·have e:(bU K).map (·.2.1)=(o1.toList++(o2.toList++o3.toList)).map (·.2):=by
   unfold bU eE
   cases o1<;>cases o2<;>cases o3<;>simp[List.filterMap,t1,t2,t3]
  rw[e];exact nd
 ·unfold eE at hx;rcases Jw.mp hx with rfl|hx
  ·rw[t1];exact f1
  ·rcases Jw.mp hx with rfl|hx
   ·rw[t2];exact f2
   ·rw[JH.mp hx,t3];exact f3
namespace Y
def BV:V->List V->Hp->VK->Prop:=λx vs H Q=>∃z y,x=.str z/\vs=[.str y]/\z.length<=sizeLine/\Q (.str (Txt.rstripChars z y)) H
def mJ:wJ X "str.rstrip" BV:=by
 intro pins s σ H x xs v us Q I rx rs h;obtain⟨z,y,rfl,rfl,hz,q⟩:=h;obtain⟨t,rfl⟩:=rx;obtain⟨u,rfl,k,rfl⟩:=vals1 rs;exact SC.rstripChars (λt' k=>⟨.str _,H,I.tok _,⟨_,rfl⟩,q⟩) hz
def Fn:V->List V->Hp->VK->Prop:=λx vs H Q=>∃z i y,x=.str z/\vs=[.int i,.str y]/\0<=i/\i<1000/\y.length=1/\Q (.str (Txt.ljustF z i (y.cps.getD 0 0))) H
def qy:wJ X "str.ljust" Fn:=by
 intro pins s σ H x xs v us Q I rx rs h;obtain⟨z,i,y,rfl,rfl,h0,h1,hy,q⟩:=h;obtain⟨t,rfl⟩:=rx;obtain⟨u1,u2,rfl,⟨t1,rfl⟩,⟨t2,rfl⟩⟩:=vals2 rs;exact ljust_fill (padOk_of (by lia) (by lia)) hy λt' k=>⟨.str _,H,I.tok _,⟨_,rfl⟩,q⟩
end Y
def qw(x y:Str):(Txt.rstripChars x y).cps.toList.reverse=x.cps.toList.reverse.dropWhile y.cps.contains:=by
 have key:∀(p:Nat->Bool) (l:List Nat),(l.take (l.length-(l.reverse.takeWhile p).length)).reverse=l.reverse.dropWhile p:=λp l=>by
  have h:(l.reverse.takeWhile p).length<=l.length:=by simpa using (List.takeWhile_sublist p (l:=l.reverse)).length_le
  rw[List.reverse_take,<- tW];congr 1;lia
 have hl:x.length=x.cps.toList.length:=by rw[Kj];rfl
 rw[<- key];unfold Txt.rstripChars Txt.stripBy;split
 ·rename_i h;unfold stripSame at h;rw[K8] at h;have h2:x.length-(x.cps.toList.reverse.takeWhile y.cps.contains).length=x.length:=by simpa[stripLo,stripHi] using h.2
  rw[<- hl,h2,hl,Kb]
 ·have e:∀(a:Array Nat) (j:Nat),(a.extract 0 j).toList=a.toList.take j:=λa j=>by simp
  have e2:=e x.cps (x.length-(x.cps.toList.reverse.takeWhile y.cps.contains).length);rw[hl] at e2;exact Km List.reverse e2
namespace Y
def GY:R2:=λx y H Q=>∃(c:Nat) (k:Int),x=.str ⟨#[c]⟩/\y=.int k/\0<=k/\k<=1000/\Q (.str ⟨(List.replicate k.toNat c).toArray⟩) H
theorem tZ:cY X (binaryOp .Mult) GY:=by
 intro pins s σ H x y v u Q I rx ry h;obtain⟨c,k,rfl,rfl,h0,h1,q⟩:=h;obtain⟨t,rfl⟩:=rx;obtain⟨t2,rfl⟩:=ry;have e:Txt.mul ⟨#[c]⟩ k=⟨(List.replicate k.toNat c).toArray⟩:=by
  have:=mul_one_list c k
  cases hz:Txt.mul ⟨#[c]⟩ k with
  |mk a=>rw[hz] at this;rw[<- this,Mm]
 have ok:MulOk ⟨#[c]⟩ k:=by
  refine⟨by simp only[Bool.or_eq_false_iff,decide_eq_false_iff_not];lia,λz _=>?_,λz _=>?_⟩
  ·have hl:((⟨#[c]⟩:Str).length:Int)=1:=rfl;rw[hl];have:1<=(2^63-1) / k:=by
    rw[Ob (by lia)];lia
   lia
  ·have hl:(⟨#[c]⟩:Str).length=1:=rfl;rw[hl,Nat.one_mul];exact JV (N4.mpr (JC (show k.toNat<=1000 by lia) (by decide)))
 exact SB.mul ok λt' j=>⟨.str _,H,I.tok _,⟨t',by rw[e]⟩,q⟩
def Ad(K:W.Frag):List V->Hp->VK->Prop:=λxs H Q=>CH K xs H Q\/∃p ns,xs=[.ref p]/\bg K H p (ns.map V.int)/\ns.length<64/\∀ns':List Int,ns'.Perm ns->ns'.Pairwise (·<=·)->∀l,H l=none->Q (.ref l) (upd H l (.lst (ns'.map V.int)))
def sG(K:W.Frag)(hK:X.K=K):aZ X (.builtin "sorted") (Ad K):=by
 refine (vt K hK).or ?_;subst hK;intro pins s σ H xs us Q I r h;obtain⟨p,ns,rfl,hq,h64,q⟩:=h;obtain⟨u,rfl,ru⟩:=vals1 r;cases ru;obtain⟨its,rv,pl,hz⟩:=I.list hq;have hi:=intsAre_of rv;refine sorted_ints pl.isList hi (by rw[kK hi];exact h64) λout ns' a1 a2 a3=>?_
 obtain⟨e,he⟩:=sortedAll_at s.heap its out;refine⟨.ref (s.heap.objs.size+1),_,I.laid (t':=s.toks) (λb ob q=>sortedAll_old q) (KQ _) (show b7 X.prog X.w _ _ _ (.lst (ns'.map V.int)) from⟨?_,out.toList,e,fC a1,by simpa using he⟩),rfl,q ns' a2 a3 _ (I.aP.fresh (KQ _))⟩
 rw[Jt,a2.length_eq];exact JC (L6 h64) (by decide)
def Hu:V->List V->Hp->VK->Prop:=λx vs H Q=>∃a:Int,x=.int a/\vs=[]/\Q (.int (Builtin.Int.intBits a:Nat)) H
def nO:wJ X "int.bit_length" Hu:=by
 intro pins s σ H x xs v us Q I rx rs h;obtain⟨a,rfl,rfl,q⟩:=h;obtain⟨t,rfl⟩:=rx;obtain rfl:=Paired.sj rs;exact call_int_bit_length ⟨.int _,H,I.tok _,⟨_,rfl⟩,q⟩
def Ik(K:W.Frag):R2:=λx y H Q=>∃a b xs,x=.ref a/\y=.ref b/\bg K H a xs/\bg K H b []/\Q (.bl xs.isEmpty) H
def Dr(K:W.Frag)(hK:X.K=K)(hu:X.A.units<cLine):cY X (compareOp .Eq) (Ik K):=by
 subst hK;intro pins s σ H x y v u Q I rx ry h;obtain⟨a,b,xs,rfl,rfl,ha,hb,q⟩:=h
 cases rx;cases ry
 obtain⟨its,r1,p1,_⟩:=I.list ha;obtain⟨its2,r2,p2,_⟩:=I.list hb;obtain rfl:=Paired.sj r2
 cases r1 with
 |nil=>exact SeqAt.eq_listAt (e:=λ_=>true) p1.isList p2.isList rfl hu (λj h1=>absurd h1 (Ln _)) ⟨.bl true,H,I,rfl,q⟩
 |cons h r=>exact SeqAt.eq_list_lengthsAt p1.isList p2.isList (by simp) hu ⟨.bl false,H,I,rfl,q⟩
end Y
def jf(h:Heap)(d:Addr)(es:Array DictEntry)(ep:Nat):Prop:=∃o,h.get? d=some o/\o.ExactDict/\o.data=.dict es ep
section
variable {prog:Program} {w:World} {A:Around} {E:Value->Shared->Prop} {s:Shared}
def jf.ty(x:jf s.heap d es ep):s.TypeIs (.ref d) "dict":=let ⟨o,ho,hc,_⟩:=x;⟨o,ho,hc.1⟩
def jf.keep(x:jf h d es ep)(k:∀o,h.get? d=some o->h'.get? d=some o):jf h' d es ep:=let ⟨o,ho,r⟩:=x;⟨o,k _ ho,r⟩
def jf.lt(x:jf h d es ep):d<h.objs.size:=let ⟨_,ho,_⟩:=x;JL ho
def Bo(low:(d == sysModules)=false)(x:jf s.heap d es ep)
  (q:Q (.ref s.heap.objs.size) {s with heap:=s.heap.push {cls:=.type "dict_keyiterator",data:=.fields #[.ref d,.int 0 0,.int es.size 0,.int ep 0]}}):wpAny (model prog w) A (pyIter (.ref d)) Q E s:=by
 obtain⟨o,ho,hx,hdat⟩:=id x;refine wpAny_pyIter_slot x.ty PySem.F.slot_dict_iter (K9 PySem.F.slot_dict_iter x.ty PySem.F.entry_dict_iter ?_ (PySem.F.args_dict_iter_1 _));unfold Builtin.«dict.__iter__» Builtin.Dict.dictSlotNone;refine Js (Js (wpAny_notOrdered_dict x.ty ?_));show wpAny _ _ (pure (Value.ref d)) _ _ s;refine J9 ?_;show wpAny _ _ (Builtin.Dict.showsAll d >>= _) _ _ s;unfold Builtin.Dict.showsAll;rw[low,Jy JF];refine Js (J9 (Js (M9 ho hdat (Js (NR ho hdat ?_)))));exact Js (KR (J9 ⟨_,rfl,"dict_keyiterator",_,⟨_,JK _ rfl,rfl⟩,PySem.F.slot_dict_keyiterator_next.lookup,q⟩))
def A7{it:Addr}{Q:Option Value->Shared->Prop}(hit:s.heap.IsKeyIter it d i es.size ep)(x:jf s.heap d es ep)(hi:i<es.size)
  (q:∀h',h'.IsKeyIter it d (i+1) es.size ep->Heap.SameBut it s.heap h'->Q (some es[i].key) {s with heap:=h'}):wpAny (model prog w) A (pyNext (.ref it)) Q E s:=by
 obtain⟨o,ho,hc,hd⟩:=id hit;obtain⟨od,hod,hx,hdd⟩:=id x;unfold pyNext;refine Js (MF (K2 (name:=Str.ofString "__next__") hit.typeIs PySem.F.slot_dict_keyiterator_next (K9 PySem.F.slot_dict_keyiterator_next hit.typeIs PySem.F.entry_dict_keyiterator_next ?_ (PySem.F.args_dict_keyiterator_next_1 _))));refine Js (J9 (Js (Js ?_)))
 first|refine Js (Lv hit.typeIs (J9 (Js (Nd ho hd ?_))))|refine Js (LO hit.typeIs (J9 (Js (Nd ho hd ?_))))
 simp only[show Builtin.Dict_items.ownsTuple "dict_keyiterator"=false by decide,KZ,Lz]
 show wpAny _ _ (if (Value.ref d == Value.none)=true then _ else _) _ _ s;rw[Jy (show ¬ ((Value.ref d == Value.none)=true) from JF)]
 refine Js (J9 (Js (M9 hod hdd ?_)));rw[Jy (by simp)]
 refine Js (J9 (Js (NR hod hdd ?_)));rw[Jy (by simp)]
 refine J9 ?_;simp only[show ¬ ((i:Int)<0) by lia,Lz,JW,LK hi]
 refine Js ?_
 first|refine Js (Lv hit.typeIs (J9 (Js (MM hit.typeIs ?_))))|refine Js (LO hit.typeIs (J9 (Js (MM hit.typeIs ?_))))
 show wpAny _ _ (setField (.ref it) 1 (rawInt ((i:Int)+1)) >>= _) _ _ s;refine Js (M6 ho hd (by simp) ?_)
 have h2:(s.heap.update it (Obj.mapFields (·.setIfInBounds 1 (rawInt ((i:Int)+1))))).IsKeyIter it d (i+1) es.size ep:=⟨_,LC _ ho (MJ (LY hd _)),(Obj.cls_mapFields ..).trans hc,by rw[LY hd];simp[rawInt]⟩
 refine Js (Kq (Js (MM (s:={s with heap:=s.heap.update it (Obj.mapFields (·.setIfInBounds 1 (rawInt ((i:Int)+1))))}) h2.typeIs ?_)))
 show wpAny _ _ (pure es[i].key) _ _ _;exact J9 (J9 ⟨_,rfl,J9 (q _ h2 (KU ..))⟩)
def AS{it:Addr}{Q:Option Value->Shared->Prop}(hh:A.handled=none)(hit:s.heap.IsKeyIter it d es.size es.size ep)(x:jf s.heap d es ep)
  (q:∀h',Heap.ExtBut it s.heap h'->Q none {s with heap:=h'}):wpAny (model prog w) A (pyNext (.ref it)) Q E s:=by
 obtain⟨o,ho,hc,hd⟩:=id hit;obtain⟨od,hod,hx,hdd⟩:=id x;unfold pyNext;refine Js (MF (K2 (name:=Str.ofString "__next__") hit.typeIs PySem.F.slot_dict_keyiterator_next (K9 PySem.F.slot_dict_keyiterator_next hit.typeIs PySem.F.entry_dict_keyiterator_next ?_ (PySem.F.args_dict_keyiterator_next_1 _))));refine Js (J9 (Js (Js ?_)))
 first|refine Js (Lv hit.typeIs (J9 (Js (Nd ho hd ?_))))|refine Js (LO hit.typeIs (J9 (Js (Nd ho hd ?_))))
 simp only[show Builtin.Dict_items.ownsTuple "dict_keyiterator"=false by decide,KZ,Lz]
 show wpAny _ _ (if (Value.ref d == Value.none)=true then _ else _) _ _ s;rw[Jy (show ¬ ((Value.ref d == Value.none)=true) from JF)]
 refine Js (J9 (Js (M9 hod hdd ?_)));rw[Jy (by simp)]
 refine Js (J9 (Js (NR hod hdd ?_)));rw[Jy (by simp)]
 refine J9 ?_;simp only[show ¬ ((es.size:Int)<0) by lia,Lz,JW,Oc (J8 es.size)]
 refine Js ?_
 first|refine Js (Lv hit.typeIs (J9 ?_))|refine Js (LO hit.typeIs (J9 ?_))
 show wpAny _ _ (setField (.ref it) 0 .none >>= _) _ _ s;refine Js (M6 ho hd (by simp) ?_)
 show wpAny _ _ (newExc (.type "StopIteration") [] >>= _) _ _ _;refine Js ?_;simp only[newExc,newTuple];refine Js (KR ?_ (by size_fits))
 refine Js (m:=firstArgMember _ _) (wpAny_of_eq (a:=Value.none) (by first|rfl | (simp only[firstArgMember];rfl)) (KR ?_ (by size_fits)))
 simp only[raiseNew];refine Js (wpAny_handled ?_);rw[show A.in1.handled=none from hh];refine Js (J9 (wpAny_throw ?_));refine Js (wpAny_isInstance (T:="StopIteration") (b:=true) ⟨_,JK _ rfl,rfl⟩ isSubtype_stop ?_);exact J9 (q _ (((KU ..).extBut.push _).push _))
end
def zh{A:Around}(hh:A.handled=none)(I d:Addr)(ne:d≠I)(es:Array DictEntry)(ep:Nat):
  Walks prog w A I [I,d] [I] es.size (λi v=>∃h:i<es.size,v=es[i].key) (λi h=>h.IsKeyIter I d i es.size ep/\jf h d es ep) where
 sub:=λb hb=>by simp at hb;simp[hb]
 frame:=λ_ _ _ st hk=>⟨st.1.at λo e=>hk I (by simp) o e,st.2.keep λo e=>hk d (by simp) o e⟩
 item:=λi s Q E hi st hQ=>A7 st.1 st.2 hi λh' a b=>hQ _ h' s.toks ⟨hi,rfl⟩ ⟨a,st.2.keep λo e=>b.extBut _ _ ne e⟩ λc o hc e=>b.extBut c o (λh=>hc (by simp[h])) e
 done:=λs Q E st hQ=>AS hh st.1 st.2 λh' he=>hQ h' s.toks λc o hc e=>he c o (λh=>hc (by simp[h])) e
 self:=λ_ _ _ _ st hQ=>wpAny_pyIter_keyiter st.1 hQ
def E7(low:(d == sysModules)=false):W.KdlSrc prog w "dict" d d es.size (λi v=>∃h:i<es.size,v=es[i].key) (λh=>jf h d es ep) where
 type:=λ_ x=>x.ty
 there:=λ_ x=>⟨x.lt,x.lt⟩
 keep:=λ_ _ x k=>x.keep λo e=>k d (.inl rfl) o e
 notList:=by decide
 notTuple:=by decide
 hint:=λ_ _ _ _ x q=>W.kdl_hint_dict x.ty q
 iter:=λ_ _ hh x=>⟨_,_,(λ_ _ q=>Bo low x q),zh hh _ d (JU x.lt) es ep,⟨⟨_,JK _ rfl,rfl,rfl⟩,x.keep λ_ e=>J5 _ e⟩⟩
def Au{es:List DictEntry}(h:KTD.Rows (ym K) es D):es.length=D.length:=by
 induction h with
 |nil=>rfl
 |cons _ _ _ ih=>simp[ih]
def yF{es:List DictEntry}(h:KTD.Rows (ym K) es D):Vals (D.map λp=>V.str p.1) (es.map λe=>e.key):=by
 induction h with
 |nil=>exact .nil
 |cons e _ _ ih=>exact .cons ⟨_,e⟩ ih
def Dw(K:W.Frag)(D:List (Str×List Str)):List V->Hp->VK->Prop:=λxs H Q=>∃d,xs=[.ref d]/\mh K d D/\D.length<=sizeLine/\∀l,H l=none->Q (.ref l) (upd H l (.lst (D.map λp=>V.str p.1)))
def r_(K:W.Frag)(hK:X.K=K)(hc:X.calm=true):aZ X (.type "list") (Dw K D):=by
 intro pins s σ H xs us Q I r h;subst hK;obtain⟨d,rfl,hd,hz,q⟩:=h;obtain⟨u,rfl,rx⟩:=vals1 r;cases rx;obtain⟨o,es,ep,ho,hx,hdat,hr⟩:=hd.ex;have at0:jf s.heap d es ep:=⟨o,I.fm _ _ ho,hx,hdat⟩;have hl:es.size=D.length:=by rw[<- Au hr,Kj]
 refine W.kdl_call (E7 hd.low) (I.ok.hd hc) at0 (by rw[hl];exact hz) λh' tk acc c' hk hS hI=>?_
 have hv:Vals (D.map λp=>V.str p.1) acc.toList:=by
  have e:acc.toList=es.toList.map λe=>e.key:=by
   refine LG λj=>?_;rw[J_,J6,J_]
   cases z:acc[j]? with
   |none =>
    have:acc.size<=j:=Nq.mp z;rw[Oc (by rw[<- hI.1];exact this)];rfl
   |some v =>
    obtain⟨hj,rfl⟩:=hI.2 j v z;rw[LK hj];rfl
  rw[e];exact yF hr
 refine⟨.ref s.heap.objs.size,_,I.laid (t':=tk) hk (J8 _) (show b7 X.prog X.w _ h' _ (.lst _) from⟨?_,acc.toList,c',hv,by simpa using hS⟩),rfl,q _ (I.aP.fresh (J8 _))⟩
 rw[Jt];exact hz
section
variable {K:W.Frag} {g:TG} {tb:TS} {D:Ends} {σ:St} {H:Hp} {te:TE} {Q:VK}
theorem dU{a:Addr}(hn:xs.length<=sizeLine)(Pv:Addr->Nat->List V->Hp->Prop)(h0:∀D,H D=none->Pv D 0 [] (upd H D (.lst [])))(hD:∀D i ys H',Pv D i ys H'->H' D=some (.lst ys)/\ys.length=i)
  (hl:∀D i ys H',Pv D i ys H'->bg K H' a xs)
  (hs:∀D i ys H' x (R:VK),xs[i]?=some x->Pv D i ys H'->(∀v H5,H5 D=some (.lst ys)->Pv D (i+1) (ys++[v]) (upd H5 D (.lst (ys++[v])))->R v H5)->te (some x::σ) H' R) (hd:∀D ys H',Pv D xs.length ys H'->Q (.ref D) H') :
  kj (xW K a) 1 (aT 0) gw te Q σ H:=by
 intro D hD0;refine⟨λi m ys σ' H'=>m=xs.length-i/\i<=xs.length/\Pv D i ys H'/\∃o,σ'=o::σ,⟨xs.length,by simp,JJ _,h0 D hD0,none,rfl⟩,?_⟩
 rintro i m ys σ' H' ⟨rfl,hi,p,o,rfl⟩;obtain⟨hDi,hly⟩:=hD _ _ _ _ p;have q:=hl _ _ _ _ p;refine⟨hDi,?_⟩;by_cases hlt:i<xs.length
 ·refine .inr ⟨⟨xs,xs[i],q,by simp[hlt]⟩,by lia,λx H2 y=>?_⟩
  obtain⟨rfl,y⟩:=y;unfold aT gw;dsimp only;rw[if_pos rfl];exact hs D i ys H2 x _ (y xs q) p λv H5 q1 q2=>⟨q1,xs.length-(i+1),by lia,rfl,hlt,q2,_,rfl⟩
 ·have e:i=xs.length:=by lia
  subst e;exact .inl ⟨⟨xs,q,J8 _⟩,hd D ys H' p⟩
end
def but(B:wU)(a:Addr):wU:=λb=>B b/\b≠a
def IE(K:W.Frag)(mg:Str->Option Value)(x:Str):Prop:=∃p o,mg x=some (.ref p)/\K.lookup p=some o/\o.dict=none
section
variable {prog:Program} {w:World} {A:Around} {E:Value->Shared->Prop} {s:Shared}
structure EL (prog:Program) (w:World) (s:Shared) (vs:List Value) (κ:SortKind) (kz:Nat->Int) (h:Heap):Prop where
 kind:∀(A:Around) (E:Value->Shared->Prop) (Q:SortKind->Shared->Prop),2<=vs.length->Q κ {s with heap:=h}->wpAny (model prog w) A (keyKind' vs.toArray) Q E {s with heap:=h}
 lt:∀(A:Around) (C:Bool->Shared->Prop) (i j:Nat),i<vs.length->j<vs.length->C (decide (kz i<kz j)) {s with heap:=h}->kas_ask prog w A κ vs i j C {s with heap:=h}
def yi{a:Addr}{vs:List Value}{n:Nat}{κ:SortKind}{kz:Nat->Int}{P:Fin->Shared->Prop}(ho:s.heap.get? a=some (seqObj "list" vs.toArray n))(h64:vs.length<64)
  (hq:∀h',(∀b o,b≠a->s.heap.get? b=some o->h'.get? b=some o)->EL prog w s vs κ kz h')
  (h:∀p:Array Nat,p.toList.Perm (List.range vs.length)->p.toList.Pairwise (SP.R kz)->P (.done (.ret .none)) {s with heap:=sortedHeap s.heap a vs (List.toArray (p.toList.map λi=>vs.getD i Value.none))}) :
  wpAny (model prog w) A (Builtin.«list.sort» ⟨[.ref a],[]⟩) P E s:=by
 rw[list_sort_plain];have ha:a<s.heap.objs.size:=JL ho;refine Js (MT ho rfl (Js (ME ho rfl ?_)));obtain⟨e1,ho1⟩:∃e1,(s.heap.update a (Obj.mapSeq λ_=>#[])).get? a=some (seqObj "list" #[] e1):=⟨_,Mr ho (λ_=>#[])⟩;refine Js (seqEpoch_at ho1 rfl (Js (Ov (Js (Mn (Kq ?_))))));have up:∀b o,b≠a->s.heap.get? b=some o->(((s.heap.update a (Obj.mapSeq λ_=>#[])).push (seqObj "tuple" vs.toArray 0)).push (seqObj "list" #[] 0)).get? b=some o:=λb o hb e =>
  J5 _ (J5 _ ((LZ _ _ (KA hb)).trans e))
 have ho6:(((s.heap.update a (Obj.mapSeq λ_=>#[])).push (seqObj "tuple" vs.toArray 0)).push (seqObj "list" #[] 0)).get? a=some (seqObj "list" #[] e1):=J5 _ (J5 _ ho1);show wpAny (model prog w) A _ P E {s with heap:=((s.heap.update a (Obj.mapSeq λ_=>#[])).push (seqObj "tuple" vs.toArray 0)).push (seqObj "list" #[] 0)}
 dsimp only;have hs:=hq _ up;have hsz:vs.toArray.size=vs.length:=by simp
 by_cases h2:vs.toArray.size<2
 ·rw[if_pos h2,if_pos h2];refine wpAny_bind (wpAny_pure ?_);rw[StateT.run_pure];refine wpAny_bind (wpAny_pure ?_);dsimp only;refine wpAny_bind (seqEpoch_at ho6 rfl (wpAny_bind (listUpdate_at ho6 rfl ?_ (hsz2:=by rw[Array.size_map];show (pairsOf vs).size<=_;rw[pairsOf_size,sizeLine_eq];lia))))
  simp only[Nx,KZ,Lz];refine J9 ?_;have hid:=h (List.toArray (List.range vs.length)) (List.Perm.refl _) (by
   rcases vs with _|⟨x,_|⟨y,r⟩⟩
   ·exact .nil
   ·simp
   ·exfalso;rw[hsz] at h2;simp only[JE] at h2;lia)
  have e:(arrOf (SortSt.mk' general' (vs.toArray.zip vs.toArray) #[] 7 none)).map (·.2)=List.toArray ((List.toArray (List.range vs.length)).toList.map λi=>vs.getD i Value.none):=by
   show (vs.toArray.zip vs.toArray).map (·.2)=_;apply Array.toList_inj.mp;rw[Array.toList_map,Array.toList_zip];show (vs.zip vs).map (·.2)=(List.range vs.length).map λi=>vs.getD i Value.none;rw[NH (J8 _)];refine LG λi=>?_;rw[J6];rcases Ku i vs.length with c|c
   ·rw[Mq c,Jr c];simp[c]
   ·rw[KY.mpr c,KY.mpr (by rw[Kh];exact c)];rfl
  rw[e];exact hid
 ·rw[Jy h2,Jy h2];have h2':2<=vs.length:=by rw[hsz] at h2;lia
  refine Js (hs.kind _ _ _ h2' ?_);refine Js (Kt (kat_run (ks:=vs) (vs:=vs) (Q:=λst' s'=>s'={s with heap:=((s.heap.update a (Obj.mapSeq λ_=>#[])).push (seqObj "tuple" vs.toArray 0)).push (seqObj "list" #[] 0)}/\∃p:Array Nat,arrOf st'=p.map (kas_item (vs.toArray.zip vs.toArray))/\failedOf st'=none/\p.toList.Perm (List.range vs.length)/\p.toList.Pairwise (SP.R kz))
   (G:=λp s'=>s'={s with heap:=((s.heap.update a (Obj.mapSeq λ_=>#[])).push (seqObj "tuple" vs.toArray 0)).push (seqObj "list" #[] 0)}/\p.toList.Perm (List.range vs.length)/\p.toList.Pairwise (SP.R kz))
   rfl h2' h64 (λp st' s' a1 a2 a3 a4=>⟨a4.1,p,a2,a3,a4.2⟩) ?_) ?_ λ_ _ e=>e)
  ·refine SP.tV (k:=kz) (I:=λs'=>s'={s with heap:=((s.heap.update a (Obj.mapSeq λ_=>#[])).push (seqObj "tuple" vs.toArray 0)).push (seqObj "list" #[] 0)}) (λi j C s' hi hj hI hC=>?_) (by lia) rfl λp s' hp hr hI=>⟨hI,hp,hr⟩
   subst hI;exact hs.lt _ _ i j hi hj (hC _ rfl)
  rintro⟨⟨⟩,st'⟩ s' ⟨rfl,p,har,hf,hp,hr⟩;dsimp only;have esn:=kat_snds (ks:=vs) (vs:=vs) rfl har;have hl:(p.toList.map λi=>vs.getD i Value.none).length=vs.length:=by rw[List.length_map,hp.length_eq,List.length_range]
  refine Js (seqEpoch_at ho6 rfl ?_);refine Js (ME ho6 rfl ?_ (hsz2:=by show ((arrOf st').map (·.2)).size<=_;rw[esn,JD,hl,Lb];lia))
  rw[hf];simp only[Nx,KZ,Lz];rw[esn];exact J9 (h p hp hr)
def sx{l:Addr}{vs:List Value}{κ:SortKind}{kz:Nat->Int}(hl:s.heap.IsList l vs.toArray)(h64:vs.length<64)(hq:∀h',(∀b o,s.heap.get? b=some o->h'.get? b=some o)->EL prog w s vs κ kz h')
  (h:∀p:Array Nat,p.toList.Perm (List.range vs.length)->p.toList.Pairwise (SP.R kz)->Q (.ref (s.heap.objs.size+1)) {s with heap:=sortedAll s.heap vs (List.toArray (p.toList.map λi=>vs.getD i Value.none))}) :
  wpAny (model prog w) A (call (.builtin "sorted") [.ref l]) Q E s:=by
 refine N2 kind_sorted plain_sorted entry_sorted (args_sorted1 _) ?_;unfold Builtin.«sorted»;refine Js (m:=checkCount "sorted" 1 1 _) (J9 (Js (collect_list hl (Js (Mn ?_)))));have hsz:((s.heap.push (seqObj "list" #[] 0)).update s.heap.objs.size (Obj.mapSeq (·++vs.toArray))).objs.size=s.heap.objs.size+1:=by rw[NB,size_push']
 have hoL:(((s.heap.push (seqObj "list" #[] 0)).update s.heap.objs.size (Obj.mapSeq (·++vs.toArray))).push (seqObj "list" vs.toArray 0)).get? (s.heap.objs.size+1)=some (seqObj "list" vs.toArray 0):=by rw[<- hsz];exact JK _ rfl
 have keep:∀b o,s.heap.get? b=some o->(((s.heap.push (seqObj "list" #[] 0)).update s.heap.objs.size (Obj.mapSeq (·++vs.toArray))).push (seqObj "list" vs.toArray 0)).get? b=some o:=λb o q=>by
  have hlt:b<s.heap.objs.size:=JL q;rw[Heap.get?_push_ne _ _ _ (by rw[hsz];exact JU (Ma hlt)),Heap.get?_update_ne _ _ _ _ (JU hlt),Heap.get?_push_ne _ _ _ (JU hlt)]
  exact q
 show wpAny _ _ _ _ _ {s with heap:=((s.heap.push (seqObj "list" #[] 0)).update s.heap.objs.size (Obj.mapSeq (·++vs.toArray))).push (seqObj "list" vs.toArray 0)}
 rw[hsz];refine Js (Kq (K9 slot_list_sort ⟨_,hoL,rfl⟩ entry_list_sort (yi (kz:=kz) (κ:=κ) (s:={s with heap:=((s.heap.push (seqObj "list" #[] 0)).update s.heap.objs.size (Obj.mapSeq (·++vs.toArray))).push (seqObj "list" vs.toArray 0)}) hoL h64 (λh' hk=>?_) λp a1 a2=>⟨_,rfl,?_⟩) (args_list_sort _)))
 ·have:=hq h' λb o e=>hk b o (JU (Ma (JL e))) (keep b o e);exact⟨this.kind,this.lt⟩
 ·exact J9 ⟨_,rfl,h p a1 a2⟩
end
noncomputable def lexLt(x y:Int×Int):Bool:=decide (x.1<y.1\/(x.1=y.1/\x.2<y.2))
def m_{x y:Int×Int}:lexLt x y=true ↔ (x.1<y.1\/(x.1=y.1/\x.2<y.2)):=Ni
def rank(l:List (Int×Int))(x:Int×Int):Nat:=l.countP λy=>lexLt y x
def rk(l:List (Int×Int))(i:Nat):Int:=(rank l (l.getD i (0,0)):Nat)
def rY{l:List (Int×Int)}{p q:Int×Int->Bool}(h:∀z,p z=true->q z=true){x:Int×Int}:x∈l->p x=false->q x=true->l.countP p<l.countP q:=by
 induction l with
 |nil=>intro hx;cases hx
 |cons y l ih =>
  intro hx h1 h2;have hle:l.countP p<=l.countP q:=Ow λz _=>h z;rw[List.countP_cons,List.countP_cons];rcases Jw.mp hx with rfl|hx
  ·rw[Jy (by rw[h1];exact JF),JA h2];lia
  ·have:=ih hx h1 h2
   cases hp:p y with
   |true=>rw[JA rfl,JA (h y hp)];lia
   |false=>rw[Jy JF];split<;>lia
def tJ{l:List (Int×Int)}{x y:Int×Int}(hx:x∈l)(hy:y∈l):decide (rank l x<rank l y)=lexLt x y:=by
 have irr:∀z,lexLt z z=false:=λz=>JV (by lia)
 cases h:lexLt x y with
 |true =>
  refine Kl (rY (λz hz=>?_) hx (irr x) h);rw[m_] at h hz ⊢;lia
 |false =>
  refine JV (N4.mpr (Ow λz _ hz=>?_));have h':¬ (x.1<y.1\/(x.1=y.1/\x.2<y.2)):=of_decide_eq_false h;rw[m_] at hz ⊢;lia
def xC(h:Heap)(v:Value)(pr:Int×Int):Prop:=∃(a:Addr) (o:Obj) (n:Nat) (t u:Tok),v=.ref a/\h.get? a=some o/\o.cls=.type "tuple"/\o.data=.seq #[.int pr.1 t,.int pr.2 u] n
theorem pX:∀{vs:List Value} {prs:List (Int×Int)},Paired (xC h) vs prs->∃fs,KatTups h vs fs/\fs.length=vs.length/\∀v∈fs,∃i t,v=Value.int i t
 |_,_,.nil=>⟨[],trivial,rfl,λ_ h=>by cases h⟩
 |_,_,.cons r t=>by
  obtain⟨a,o,n,t1,u,rfl,ho,hc,hd⟩:=r;obtain⟨fs,h1,h2,h3⟩:=pX t;refine⟨_::fs,⟨⟨a,o,_,n,rfl,ho,hc,hd,rfl⟩,h1⟩,by simp[h2],λv hv=>?_⟩
  rcases Jw.mp hv with rfl|hv
  ·exact⟨_,_,rfl⟩
  ·exact h3 v hv
def Aj{vs:List Value}(hp:Paired (xC h) vs prs){i:Nat}(hi:i<vs.length):xC h (vs.getD i .none) (prs.getD i (0,0))/\prs.getD i (0,0)∈prs:=by
 induction hp generalizing i with
 |nil=>cases hi
 |cons r t ih =>
  cases i with
  |zero=>exact⟨r,J7 ..⟩
  |succ i =>
   obtain⟨h1,h2⟩:=ih (i:=i) (by simpa using hi)
   exact⟨h1,Jx _ h2⟩
theorem uV{s:Shared}{vs:List Value}(hp:Paired (xC h) vs prs):EL prog w s vs (tuples' true) (rk prs) h where
 kind:=λA E Q h2 q=>by
  obtain⟨fs,h1,h3,h4⟩:=pX hp;exact kat_kind (s:={s with heap:=h}) (T:=.type "int") h1 (by lia) (λv hv=>by obtain⟨i,t,rfl⟩:=h4 v hv;exact Looks.of_pure rfl) rfl q
 lt:=λA C i j hi hj q=>by
  obtain⟨⟨a,o,n,t,u,ea,ho,hc,hd⟩,mi⟩:=Aj hp hi;obtain⟨⟨a',o',n',t',u',ea',ho',hc',hd'⟩,mj⟩:=Aj hp hj;have e:=tJ mi mj;have e':decide (rk prs i<rk prs j)=lexLt (prs.getD i (0,0)) (prs.getD j (0,0)):=by
   rw[<- e,LN];unfold rk;lia
  rw[e'] at q;clear e e' mi mj;unfold kas_ask;rw[ea,ea'];generalize prs.getD i (0,0)=x at *;generalize prs.getD j (0,0)=y at *;refine kat_lt (s:={s with heap:=h}) ho hd ho' hd' ?_
  show KatLex prog w A true _ C [(.int x.1 t,.int y.1 t'),(.int x.2 u,.int y.2 u')] 0 _;refine kat_cons (N6 ?_)
  cases c1:(x.1 == y.1) with
  |false =>
   refine kat_no ?_;have h1:x.1≠y.1:=Kz.mp c1;have e1:lexLt x y=decide (x.1<y.1):=by unfold lexLt;rw[LN];lia
   rw[e1] at q;exact oneLt_int q
  |true =>
   refine kat_yes (kat_cons (N6 ?_));have h1:x.1=y.1:=eq_of_beq c1;have e1:lexLt x y=decide (x.2<y.2):=by unfold lexLt;rw[LN];lia
   rw[e1] at q
   cases c2:(x.2 == y.2) with
   |false =>
    refine kat_no ?_;show wpAny (model prog w) A (oneLt' false (.int x.2 u) (.int y.2 u')) C _ _;exact kat_one _ _ (lt_int q)
   |true =>
    have h2:x.2=y.2:=eq_of_beq c2;refine kat_yes (kat_nil ?_);rw[JV (by lia)] at q
    exact q
def HS(l:List (Int×Int)):Prop:=l.Pairwise λx y=>lexLt y x=false
theorem Ha{ix:List Nat}(hp:ix.Perm (List.range prs.length))(hr:ix.Pairwise (SP.R (rk prs))):(ix.map λi=>prs.getD i (0,0)).Perm prs/\HS (ix.map λi=>prs.getD i (0,0)):=by
 have e:(List.range prs.length).map (λi=>prs.getD i (0,0))=prs:=by
  refine LG λi=>?_;rw[J6];rcases Ku i prs.length with c|c
  ·rw[Mq c,Jr c];simp[c]
  ·rw[KY.mpr c,KY.mpr (by rw[Kh];exact c)];rfl
 refine⟨?_,LH.mpr (hr.imp_of_mem λ{i j} hi hj h=>?_)⟩
 ·have:=hp.map λi=>prs.getD i (0,0);rw[e] at this;exact this
 ·have mem:∀i∈ix,prs.getD i (0,0)∈prs:=λi hi=>by
   have hl:=Lc.mp (hp.mem_iff.mp hi);rw[Jz,Jr hl];exact JM hl
  rw[<- tJ (mem j hj) (mem i hi)];have:=h.le;unfold rk at this;exact JV (by lia)
namespace Y
def GS(H:Hp)(v:V)(p:Int×Int):Prop:=∃q,v=.ref q/\H q=some (.tup [.int p.1,.int p.2])
def Ex(K:W.Frag):List V->Hp->VK->Prop:=λxs H Q=>∃p vs prs,xs=[.ref p]/\bg K H p vs/\Paired (GS H) vs prs/\prs.length<64/\∀ix:List Nat,ix.Perm (List.range prs.length)->HS (ix.map λi=>prs.getD i (0,0))->∀l,H l=none->Q (.ref l) (upd H l (.lst (ix.map λi=>vs.getD i .aL)))
theorem zw{pins:List (Addr×Obj)}{σ:St}{s:Shared}(I:Inv X pins σ H s):∀{vs:List V} {its:List Value} {prs:List (Int×Int)},Vals vs its->Paired (GS H) vs prs->Paired (xC s.heap) its prs
 |_,_,_,.nil,.nil=>.nil
 |_,_,_,.cons r t,.cons r' t'=>by
  refine .cons ?_ (zw I t t');obtain⟨q,rfl,hq⟩:=r';have e:_=Value.ref q:=r;subst e;obtain⟨_,ts,tv,o,e1,c,n,d,_⟩:=(show b7 X.prog X.w H s.heap q (.tup _) from I.aP q _ hq);obtain⟨u,w',rfl,⟨t1,rfl⟩,⟨t2,rfl⟩⟩:=vals2 tv;exact⟨q,o,n,t1,t2,rfl,e1,c,d⟩
theorem sS{vs:List V}{its:List Value}(h:Vals vs its):∀ix:List Nat,(∀i∈ix,i<vs.length)->Vals (ix.map λi=>vs.getD i .aL) (ix.map λi=>its.getD i Value.none)
 |[],_=>.nil
 |i::ix,hi=>by
  refine .cons ?_ (sS h ix λj hj=>hi j (Jx _ hj));have hl:=hi i (J7 ..);obtain⟨u,e,r⟩:=Vals.get h (Jr hl);show RelV (vs.getD i .aL) (its.getD i Value.none);rw[Jz,Jz,Jr hl,e];exact r
theorem rb(K:W.Frag)(hK:X.K=K):aZ X (.builtin "sorted") (Ex K):=by
 subst hK;intro pins s σ H xs us Q I r h;obtain⟨p,vs,prs,rfl,hq,hp,h64,q⟩:=h;obtain⟨u,rfl,ru⟩:=vals1 r;cases ru;obtain⟨its,rv,pl,hz⟩:=I.list hq;have hpa:=zw I rv hp;have l1:its.length=prs.length:=Paired.length hpa;have l2:vs.length=prs.length:=Paired.length hp;refine sx (κ:=tuples' true) (kz:=rk prs) pl.isList (by lia) (λh' hk=>uV (Paired.BZ hpa λa b ⟨x,o,n,t,u,e,ho,r⟩=>⟨x,o,n,t,u,e,hk _ _ ho,r⟩)) λpx a1 a2=>?_
 rw[l1] at a1;obtain⟨e,he⟩:=sortedAll_at s.heap its (List.toArray (px.toList.map λi=>its.getD i Value.none));refine⟨.ref (s.heap.objs.size+1),_,I.laid (t':=s.toks) (λb ob q=>sortedAll_old q) (KQ _) (show b7 X.prog X.w _ _ _ (.lst (px.toList.map λi=>vs.getD i .aL)) from⟨?_,_,e,sS rv px.toList (λi hi=>by rw[l2];exact Lc.mp (a1.mem_iff.mp hi)),by simpa using he⟩),rfl,q px.toList a1 (Ha a1 a2).2 _ (I.aP.fresh (KQ _))⟩
 rw[Jt,a1.length_eq,Kh];exact JC (L6 h64) (by decide)
end Y
noncomputable def t5(d:Addr)(o:Obj)(kvs:List (Key×V)):It:=⟨λi H=>H d=some (.ik o (.dK kvs))/\i<kvs.length,λi H x H'=>H'=H/\∃p,kvs[i]?=some p/\x=kV p.1,λi H=>H d=some (.ik o (.dK kvs))/\i=kvs.length⟩
open Builtin Builtin.Str
open PySem PySem.Spec PyProof PyProof.Rows
open Builtin Builtin.Str
open PySem PySem.Spec PyProof PyProof.Rows
section
variable {prog:Program} {w:World} {A:Around} {E:Value->Shared->Prop} {s:Shared}
def CJ(a v:Value):checkTypeCall "enumerate" ⟨[a],[(Str.ofString "start",v)]⟩=pure ():=by kernel_rfl
def Je(a v:Value):checkBuiltinCall "enumerate.__new__" ⟨[.type "enumerate",a],[(Str.ofString "start",v)]⟩=pure ():=by kernel_rfl
end
open PySem PySem.Spec PyProof PyProof.Rows PySem.W
variable{X:Cx}{i k:Nat}{base h h':Heap}{xs:Array Value}{β:Type}{x:Str}{Q:Value->Shared->Prop}{P:Program}{w:World}{K:W.Frag}{es ifs:List Expr}{C a f:Addr}{σ:St}{H:Hp}{ta:TA}{apos p:Pos}{fd:FuncData}{sp:Sp}{e iter:Expr}{st:Stmt}{osc scope:Scope}{mg:Str->Option Value}{N ON own:List Str}
def ints_get:∀{ns:List Int} {its:List Value},Vals (ns.map V.int) its->∀(m:Nat) (y:Int),ns[m]?=some y->∃t,its[m]?=some (.int y t):=λr m y e=>by
 obtain⟨u,h1,h2⟩:=r.get (i:=m) (x:=V.int y) (by rw[J6,e];rfl)
 obtain⟨t,rfl⟩:=(show RelV (.int y) u from h2);exact⟨t,h1⟩
namespace Y
def HD:V->List V->Hp->VK->Prop:=λx vs H Q=>∃(a:Addr) (ws:List Int) (k:Int) (j:Nat),x=.ref a/\H a=some (.lst (ws.map V.int))/\vs=[.int k]/\ws[j]?=some k/\(∀m,m<j->ws[m]?≠some k)/\Q (.int (j:Nat)) H
def BP:Gp X "list.index" HD:=by
 intro pins s σ H x xs v us Q I rx rs h;obtain⟨a,ws,k,j,rfl,hH,rfl,hj,hno,q⟩:=h;cases rx;obtain⟨u,rfl,t,rfl⟩:=vals1 rs;obtain⟨z,its,n,r,hl,e⟩:=I.qV hH;obtain⟨t',hit⟩:=ints_get r j k hj;have hjl:j<ws.length:=(Ju.mp hj).1;rw[Jt] at z hl;have hji:j<its.toArray.size:=by rw[JD];lia
 have sz:(sizeLine:Int)<2^63-1:=by decide
 have hje:its.toArray[j]=.int k t':=by
  have:its.toArray[j]?=some (.int k t'):=by rw[K0];exact hit
  exact (Kf.mp this).2
 have hall:∀(m:Nat) (hm:m<its.toArray.size),∃y ty,its.toArray[m]=.int y ty/\ws[m]?=some y:=λm hm=>by
  have hm':m<ws.length:=by rw[JD] at hm;lia
  have e1:=Jr hm';obtain⟨ty,hy⟩:=ints_get r m _ e1;have:its.toArray[m]?=some (.int ws[m] ty):=by rw[K0];exact hy
  exact⟨_,ty,(Kf.mp this).2,e1⟩
 refine LJ PySem.F.slot_list_index ⟨_,e,rfl⟩ PySem.F.entry_list_index (PySem.F.args_list_index_2 _ _) (SeqAt.list_indexAt a its.toArray n none _ (.int k t) (λy=>match y with|.int y _=>y == k|_=>false) j hji (by lia) (by rw[hje];exact Mi k) λm hm hmj=>?_) ⟨e,λy hy=>?_,⟨.int (j:Nat),H,I.tok _,⟨_,rfl⟩,q⟩⟩
 ·obtain⟨y,ty,ey,ew⟩:=hall m hm;rw[ey];exact Kz.mpr λz=>hno m hmj (by rw[ew,z])
 ·obtain⟨m,hm,rfl⟩:=Oq.mp hy;obtain⟨y,ty,ey,ew⟩:=hall m hm;rw[ey];exact SeqAt.EqAt.int_int _ _ _ _
end Y
open PySem PySem.Calls PySem.NumText PySem.Spec PyProof PyProof.Rows
def Ay(cs:List Nat):Prop:=∀c∈cs,c=48\/c=49
abbrev Src:=Bool×Addr×Addr
variable{q:Src}
abbrev fB(h:Heap)(T:Addr)(xs:List Value):Prop:=h.get? T=some {cls:=.type "tuple",data:=.seq xs.toArray}
structure Zn (z TI TO:Addr) (S:List Src):Prop where
 zt:TI≠z/\TO≠z/\TI≠TO
 it:∀q∈S,q.2.1≠z/\q.2.1≠TI/\q.2.1≠TO
 sr:∀q∈S,q.2.2≠z/\q.2.2≠TO/\∀p∈S,q.2.2≠p.2.1
 nd:(S.map λq=>q.2.1).Nodup
def rE(i:Nat)(h:Heap)(q:Src):Prop:=lJ q.1 h q.2.1 q.2.2 i
def CQ(h:Heap)(q:Src)(xs:Array Value):Prop:=cf q.1 h q.2.2 xs
def rE.kp(x:rE i h q)(k:∀o,h.get? q.2.1=some o->h'.get? q.2.1=some o):rE i h' q:=by
 obtain⟨b,it,a⟩:=q
 cases b with
 |true=>obtain⟨o,e,r⟩:=(show h.IsListIter it a i from x);exact⟨o,k o e,r⟩
 |false=>obtain⟨o,e,r⟩:=(show h.IsTupleIter it a i from x);exact⟨o,k o e,r⟩
def CQ.kp(x:CQ h q xs)(k:∀o,h.get? q.2.2=some o->h'.get? q.2.2=some o):CQ h' q xs:=by
 obtain⟨b,it,a⟩:=q
 cases b with
 |true=>obtain⟨o,e,r⟩:=(show h.IsList a xs from x);exact⟨o,k o e,r⟩
 |false=>obtain⟨o,e,r⟩:=(show h.IsTuple a xs from x);exact⟨o,k o e,r⟩
def pw(i:Nat)(h:Heap)(q:Src)(u:Value):Prop:=rE i h q/\∃xs,CQ h q xs/\xs[i]?=some u
def pw.kp{u:Value}(x:pw i h q u)(k:∀c o,c=q.2.1\/c=q.2.2->h.get? c=some o->h'.get? c=some o):pw i h' q u:=⟨x.1.kp λo=>k _ o (.inl rfl),let ⟨xs,a,b⟩:=x.2;⟨xs,a.kp λo=>k _ o (.inr rfl),b⟩⟩
section
variable {prog:Program} {w:World} {A:Around} {E:Value->Shared->Prop} {z TI TO:Addr} {S:List Src} {i:Nat}
def Step(prog:Program)(w:World)(A:Around)(E:Value->Shared->Prop)(z TI TO:Addr)(S:List Src)(i:Nat)(f:Value×Nat->β->Sem (ForInStep β))(b:β):Prop:=
 ∀q∈S,∀(j:Nat) (arr:List Value) (u:Value) (s:Shared) (Q:ForInStep β->Shared->Prop),IsZip s.heap z TI TO .ellipsis->fB s.heap TO arr->arr.length<=3->pw i s.heap q u ->
  (∀h' tk,fB h' TO (arr.set j u)->rE (i+1) h' q->(∀c o,c≠TO->c≠q.2.1->s.heap.get? c=some o->h'.get? c=some o)->h'.objs.size=s.heap.objs.size->Q (.yield b) {s with heap:=h',toks:=tk})->wpAny (model prog w) A (f (.ref q.2.1,j) b) Q E s
def BM(D:Zn z TI TO S){f:Value×Nat->β->Sem (ForInStep β)}{b:β}(hf:Step prog w A E z TI TO S i f b):
  ∀(todo:List Src) (us pre old:List Value) (s:Shared) (Q:β->Shared->Prop),(∀q∈todo,q∈S)->(todo.map λq=>q.2.1).Nodup->IsZip s.heap z TI TO .ellipsis->fB s.heap TO (pre++old)->(pre++old).length<=3->old.length=todo.length->Paired (pw i s.heap) todo us ->
  (∀h' tk,IsZip h' z TI TO .ellipsis->fB h' TO (pre++us)->(∀q∈todo,rE (i+1) h' q)->(∀c o,c≠TO->(∀q∈todo,c≠q.2.1)->s.heap.get? c=some o->h'.get? c=some o)->h'.objs.size=s.heap.objs.size->Q b {s with heap:=h',toks:=tk}) ->
  wpAny (model prog w) A (forIn ((todo.map λq=>Value.ref q.2.1).zipIdx pre.length) b f) Q E s:=by
 intro todo
 induction todo with
 |nil =>
  intro us pre old s Q _ _ hz ht _ hl dr k;obtain rfl:=Paired.sj dr;have e:old=[]:=LU.mp hl;subst e;rw[Mc,List.zipIdx_nil,List.forIn_nil];exact J9 (k s.heap s.toks hz ht (λq hq=>(nomatch hq)) (λc o _ _ h=>h) rfl)
 |cons q todo ih =>
  intro us pre old s Q hm nd hz ht hn hl dr k;obtain⟨u,us,rfl,du,dr⟩:=Paired.fV dr
  cases old with
  |nil=>cases hl
  |cons o old =>
   rw[Ke,Ky] at nd;have hq:=hm q J7;rw[Ke,NJ,LX];refine Js (hf q hq pre.length _ u s _ hz ht hn du λh1 tk t1 a1 kp sz=>?_);rw[Mg _ _ (J8 _),KG,M0,<- MN,<- JQ] at t1;have di:=D.it q hq;have z1:IsZip h1 z TI TO .ellipsis:=kp _ _ D.zt.2.1.symm di.1.symm hz;show wpAny _ _ (forIn _ b f) _ _ _;rw[show pre.length+1=(pre++[u]).length by rw[Jv];rfl]
   refine ih us (pre++[u]) old {s with heap:=h1,toks:=tk} Q (λp hp=>hm p (Jx _ hp)) nd.2 z1 t1 (by rw[JQ,Jv] at *;exact hn) (Nat.succ.inj hl) ?_ λh2 tk2 z2 t2 a2 kp2 sz2=>?_
   ·have key:∀{l:List Src} {vs:List Value},(∀p∈l,p∈q::todo)->(∀p∈l,p.2.1≠q.2.1)->Paired (pw i s.heap) l vs->Paired (pw i h1) l vs:=λ{l}=>by
     induction l with
     |nil=>intro vs _ _ h;obtain rfl:=Paired.sj h;exact .nil
     |cons p l ihl =>
      intro vs hp hne h;obtain⟨v,vs,rfl,dv,h⟩:=Paired.fV h;have hpS:=hm p (hp p J7);refine .cons (dv.kp λc o hc e=>?_) (ihl (λx hx=>hp x (Jx _ hx)) (λx hx=>hne x (Jx _ hx)) h);rcases hc with rfl|rfl
      ·exact kp _ _ (D.it p hpS).2.2 (hne p J7) e
      ·exact kp _ _ (D.sr p hpS).2.1 ((D.sr p hpS).2.2 q hq) e
    exact key (λp hp=>Jx _ hp) (λp hp e=>nd.1 (by rw[<- e];exact Lw (f:=λq:Src=>q.2.1) hp)) dr
   ·refine k h2 tk2 z2 (by rw[JQ] at t2;exact t2) (λp hp=>?_) (λc o c1 c2 e=>kp2 c o c1 (λp hp=>c2 p (Jx _ hp)) (kp c o c1 (c2 q J7) e)) (sz2.trans sz)
    rcases Jw.mp hp with rfl|hp
    ·exact a1.kp λo e=>kp2 _ o di.2.2 (λx hx e2=>nd.1 (by rw[e2];exact Lw (f:=λq:Src=>q.2.1) hx)) e
    ·exact a2 p hp
def GD(prog:Program)(w:World)(A:Around)(E:Value->Shared->Prop)(z TI TO:Addr)(S:List Src)(i:Nat)(f:Value×Nat->β->Sem (ForInStep β))(b:β):Prop:=
 ∀q∈S,∀(j:Nat) (s:Shared) (Q:ForInStep β->Shared->Prop),IsZip s.heap z TI TO .ellipsis->rE i s.heap q->(∃xs:Array Value,CQ s.heap q xs/\xs.size=i) ->
  (∀h' e tk,(∀c o,c≠z->c≠q.2.1->s.heap.get? c=some o->h'.get? c=some o)->(∃o,h'.get? e=some o/\o.cls=.type "StopIteration")->E (.ref e) {s with heap:=h',toks:=tk})->wpAny (model prog w) A (f (.ref q.2.1,j) b) Q E s
def Cm(D:Zn z TI TO S){f:Value×Nat->β->Sem (ForInStep β)}{b:β}(hf:Step prog w A E z TI TO S i f b)(he:GD prog w A E z TI TO S i f b){r:List Src}:
  ∀(a:List Src) (us pre old:List Value) (s:Shared) (Q:β->Shared->Prop),(∀p∈a++q::r,p∈S)->((a++q::r).map λq=>q.2.1).Nodup->IsZip s.heap z TI TO .ellipsis->fB s.heap TO (pre++old)->(pre++old).length<=3->a.length<old.length->Paired (pw i s.heap) a us->rE i s.heap q->(∃xs:Array Value,CQ s.heap q xs/\xs.size=i) ->
  (∀h' e tk,(∀c o,c≠z->c≠TO->(∀q∈S,c≠q.2.1)->s.heap.get? c=some o->h'.get? c=some o)->(∃o,h'.get? e=some o/\o.cls=.type "StopIteration")->E (.ref e) {s with heap:=h',toks:=tk}) ->
  wpAny (model prog w) A (forIn (((a++q::r).map λq=>Value.ref q.2.1).zipIdx pre.length) b f) Q E s:=by
 intro a
 induction a with
 |nil =>
  intro us pre old s Q hm nd hz ht hn hl dr hi hx k;have hq:=hm q J7;rw[Le,Ke,NJ,LX];exact Js (he q hq _ s _ hz hi hx λh' e tk kp ho=>k h' e tk (λc o c1 _ c3 x=>kp c o c1 (c3 q hq) x) ho)
 |cons p a ih =>
  intro us pre old s Q hm nd hz ht hn hl dr hi hx k;obtain⟨u,us,rfl,du,dr⟩:=Paired.fV dr
  cases old with
  |nil=>exact absurd hl (Ln _)
  |cons o old =>
   rw[KN,Ke,Ky] at nd;have hp:=hm p J7;rw[KN,Ke,NJ,LX];refine Js (hf p hp pre.length _ u s _ hz ht hn du λh1 tk t1 a1 kp sz=>?_);rw[Mg _ _ (J8 _),KG,M0,<- MN,<- JQ] at t1;have z1:IsZip h1 z TI TO .ellipsis:=kp _ _ D.zt.2.1.symm (D.it p hp).1.symm hz;have ne:∀x∈a++q::r,x.2.1≠p.2.1:=λx hx e=>nd.1 (by rw[<- e];exact Lw (f:=λq:Src=>q.2.1) hx)
   have up:∀x∈a++q::r,∀c o,c=x.2.1\/c=x.2.2->s.heap.get? c=some o->h1.get? c=some o:=λx hx c o hc e=>by
    have hxS:=hm x (Jx _ hx);rcases hc with rfl|rfl
    ·exact kp _ _ (D.it x hxS).2.2 (ne x hx) e
    ·exact kp _ _ (D.sr x hxS).2.1 ((D.sr x hxS).2.2 p hp) e
   have hqm:q∈a++q::r:=JR _ J7;show wpAny _ _ (forIn _ b f) _ _ _;rw[show pre.length+1=(pre++[u]).length by rw[Jv];rfl]
   refine ih us (pre++[u]) old {s with heap:=h1,toks:=tk} Q (λx hx=>hm x (Jx _ hx)) nd.2 z1 t1 (by rw[JQ,Jv] at *;exact hn) (MB hl) ?_ (hi.kp λo=>up q hqm _ o (.inl rfl)) (let ⟨xs,x1,x2⟩:=hx;⟨xs,x1.kp λo=>up q hqm _ o (.inr rfl),x2⟩) λh2 e tk2 kp2 ho=>k h2 e tk2 (λc o c1 c2 c3 x=>kp2 c o c1 c2 c3 (kp c o c2 (c3 p hp) x)) ho
   have key:∀{l:List Src} {vs:List Value},(∀x∈l,x∈a)->Paired (pw i s.heap) l vs->Paired (pw i h1) l vs:=λ{l}=>by
    induction l with
    |nil=>intro vs _ h;obtain rfl:=Paired.sj h;exact .nil
    |cons y l ihl =>
     intro vs hy h;obtain⟨v,vs,rfl,dv,h⟩:=Paired.fV h;exact .cons (dv.kp (up y (KL _ (hy y J7)))) (ihl (λx hx=>hy x (Jx _ hx)) h)
   exact key (λx h=>h) dr
def AF(D:Zn z TI TO S){f:Value×Nat->β->Sem (ForInStep β)}{b:β}(hf:Step prog w A E z TI TO S i f b)(he:GD prog w A E z TI TO S i f b){old:List Value}{s:Shared}{Q:β->Shared->Prop}(hz:IsZip s.heap z TI TO .ellipsis)(ht:fB s.heap TO old)(hn:old.length<=3)(hl:old.length=S.length)
  (hh:(∃us,Paired (pw i s.heap) S us/\∀h' tk,IsZip h' z TI TO .ellipsis->fB h' TO us->(∀q∈S,rE (i+1) h' q)->(∀c o,c≠TO->(∀q∈S,c≠q.2.1)->s.heap.get? c=some o->h'.get? c=some o)->h'.objs.size=s.heap.objs.size->Q b {s with heap:=h',toks:=tk}) \/
   ∃a q r us,S=a++q::r/\Paired (pw i s.heap) a us/\rE i s.heap q/\(∃xs:Array Value,CQ s.heap q xs/\xs.size=i)/\∀h' e tk,(∀c o,c≠z->c≠TO->(∀q∈S,c≠q.2.1)->s.heap.get? c=some o->h'.get? c=some o)->(∃o,h'.get? e=some o/\o.cls=.type "StopIteration")->E (.ref e) {s with heap:=h',toks:=tk}) :
  wpAny (model prog w) A (forIn ((S.map λq=>Value.ref q.2.1).zipIdx) b f) Q E s:=by
 rcases hh with ⟨us,dr,k⟩|⟨a,q,r,us,rfl,dr,hi,hx,k⟩
 ·exact BM D hf S us [] old s Q (λq h=>h) D.nd hz ht hn hl dr k
 ·exact Cm D hf he a us [] old s Q (λq h=>h) D.nd hz ht hn (by rw[show old.length=_ from hl,Jv,JE];lia) dr hi hx k
def Hg{s:Shared}{T:Addr}{xs:List Value}{x:Value}{Q:Unit->Shared->Prop}(hT:fB s.heap T xs)(hn:xs.length<=3)
  (h:∀h',fB h' T (xs.set k x)->Heap.SameBut T s.heap h'->Q () {s with heap:=h'}) :
  wpAny (model prog w) A (updateSeq T (·.setIfInBounds k x)) Q E s:=by
 refine wpAny_updateSeq (hz:=by rw[JD];exact JC hn (by decide)) (_hz':=by rw[Array.size_setIfInBounds,JD];exact JC hn (by decide)) hT rfl (h _ ?_ (KU ..))
 show Heap.get? _ _=_;rw[LC _ hT rfl];simp[Obj.mapSeq]
def hZ{α:Type}{P:α->β->Prop}{l:List α}{vs:List β}(h:Paired P l vs):vs.length=l.length:=by
 induction h with
 |nil=>rfl
 |cons _ _ ih=>exact Km (·+1) ih
def t_{g:Heap}{l:List Src}{vs:List Value}(k:∀q∈l,∀c o,c=q.2.1\/c=q.2.2->h.get? c=some o->g.get? c=some o)(r:Paired (pw i h) l vs):Paired (pw i g) l vs:=by
 induction r with
 |nil=>exact .nil
 |cons d _ ih=>exact .cons (d.kp (k _ J7)) (ih λq hq=>k q (Jx _ hq))
def Gi{s:Shared}{old:List Value}(D:Zn z TI TO S)(hS:S≠[])(hA:A.handled=none)(hz:IsZip s.heap z TI TO .none)(hTI:fB s.heap TI (S.map λq=>.ref q.2.1))(hTO:fB s.heap TO old)(hl:old.length=S.length)(hn:S.length<=3)
  (hh:(∃us,Paired (pw i s.heap) S us/\∀h' tk,IsZip h' z TI TO (rawInt s.heap.objs.size)->fB h' TO us->(∀q∈S,rE (i+1) h' q)->fB h' s.heap.objs.size us->(∀c o,c≠z->c≠TO->(∀q∈S,c≠q.2.1)->s.heap.get? c=some o->h'.get? c=some o)->Q (.ref s.heap.objs.size) {s with heap:=h',toks:=tk}) \/
   ∃a q r us,S=a++q::r/\Paired (pw i s.heap) a us/\rE i s.heap q/\(∃xs:Array Value,CQ s.heap q xs/\xs.size=i)/\∀h' e tk,(∀c o,c≠z->c≠TO->(∀q∈S,c≠q.2.1)->s.heap.get? c=some o->h'.get? c=some o)->(∃o,h'.get? e=some o/\o.cls=.type "StopIteration")->E (.ref e) {s with heap:=h',toks:=tk}) :
  wpAny (model prog w) A (Builtin.«zip.__next__» ⟨[.ref z],[]⟩) (λfin s'=>∃v,fin=.done (.ret v)/\Q v s') E s:=by
 obtain⟨q0,S',rfl⟩:=List.exists_cons_of_ne_nil hS;have zrec:=hz;show wpAny _ _ (field (.ref z) 2 >>= _) _ _ _;refine Js (Lg zrec rfl (x:=.bool false) rfl ?_);show wpAny _ _ (field (.ref z) 3 >>= _) _ _ _;refine Js (Lg zrec rfl (x:=.ref TI) rfl ?_);refine Js (M5 hTI rfl ?_);show wpAny _ _ (Builtin.SmallTypes.ownedTupleIsFree (.ref z) >>= _) _ _ _;refine Js ?_;unfold Builtin.SmallTypes.ownedTupleIsFree;refine Js (Lg zrec rfl (x:=.none) rfl (J9 ?_));simp only[LV];refine Js (Oz ?_);refine Js (Lg zrec rfl (x:=.ref TO) rfl ?_);refine Js (M1 zrec (by simp) λg1 zr1 sb1=>?_)
 replace zr1:IsZip g1 z TI TO .ellipsis:=zr1
 refine Js ?_;have old3:∀q∈q0::S',∀c o,c=q.2.1\/c=q.2.2->s.heap.get? c=some o->g1.get? c=some o:=λq hq c o hc e=>by
  rcases hc with rfl|rfl
  ·exact sb1.extBut _ _ (D.it q hq).1 e
  ·exact sb1.extBut _ _ (D.sr q hq).1 e
 refine AF D (i:=i) ?hf ?he (old:=old) zr1 (sb1.extBut _ _ D.zt.2.1 hTO) (by lia) hl (hh.imp (λ⟨us,dr,hQ⟩=>⟨us,t_ old3 dr,?k⟩) λ⟨a,q,r,us,eS,dr,hi,hx,hE⟩=>⟨a,q,r,us,eS,t_ (λp hp=>old3 p (by rw[eS];exact KL _ hp)) dr,hi.kp λo=>old3 q (by rw[eS];exact JR _ J7) _ o (.inl rfl),(let ⟨xs,x1,x2⟩:=hx;⟨xs,x1.kp λo=>old3 q (by rw[eS];exact JR _ J7) _ o (.inr rfl),x2⟩),λh' e tk kp ho=>hE h' e tk (λc o c1 c2 c3 x=>kp c o c1 c2 c3 (sb1.extBut _ _ c1 x)) ho⟩)
 case hf =>
  intro q hq j arr u s1 Q1 hz1 ht1 hn1 d1 k1;obtain⟨hi,xs,hx,hu⟩:=d1;refine Js (wpAny_onRaise ?_);show wpAny _ _ (Builtin.SmallTypes.nextOf (.ref q.2.1) >>= _) _ _ _;have lt:i<xs.size:=(Kf.mp hu).1;refine Js ((um q.1 hA q.2.1 q.2.2 ((D.sr q hq).2.2 q hq) xs).item i _ _ _ lt ⟨hi,hx⟩ λx g2 tk2 px st2 sb2=>J9 ?_);have ex:x=u:=by rw[hu] at px;exact (Option.some.inj px).symm
  subst ex;have to2:fB g2 TO arr:=sb2.extBut _ _ (D.it q hq).2.2.symm ht1;refine Js (M5 to2 rfl ?_);refine Js (Hg to2 hn1 λg3 to3 sb3=>?_);refine Js (wpAny_letGo (J9 ?_));exact k1 g3 _ to3 (rE.kp (q:=q) st2.1 λo e=>sb3.extBut _ _ (D.it q hq).2.2 e) (λc o c1 c2 e=>sb3.extBut _ _ c1 (sb2.extBut _ _ c2 e)) (by rw[sb3.1,sb2.1])
 case he =>
  intro p hp j s1 Q1 hz1 hi1 hx1 k1;obtain⟨xs,hx1,hsz⟩:=hx1;refine Js (wpAny_onRaise ?_);show wpAny _ _ (Builtin.SmallTypes.nextOf (.ref p.2.1) >>= _) _ _ _;subst hsz;refine Js ((um p.1 hA p.2.1 p.2.2 ((D.sr p hp).2.2 p hp) xs).done _ _ _ ⟨hi1,hx1⟩ λg2 e sb2 he=>?_);obtain⟨oe,hoe,hce⟩:=he;have zr2:IsZip g2 z TI TO .ellipsis:=sb2 _ _ (D.it p hp).1.symm hz1;have nez:e≠z:=λq=>by subst q;rw[zr2] at hoe;cases hoe;simp at hce
  exact M1 zr2 (by simp) λg3 _ sb3=>k1 g3 e _ (λc o e1 e3 q=>sb3.extBut _ _ e1 (sb2 _ _ e3 q)) ⟨oe,sb3.extBut _ _ nez hoe,hce⟩
 case k =>
  intro g2 tk z2 t2 a2 kp2 sz2;have hu3:us.length<=3:=by rw[hZ dr];exact hn
  replace t2:fB g2 TO us:=t2
  show wpAny _ _ (seqItems? (.ref TO) >>= _) _ _ _;refine Js (M5 t2 rfl ?_);refine Js (Ov ?_ (JC hu3 (by decide)))
  have size2:g2.objs.size=s.heap.objs.size:=sz2.trans sb1.1;have zlt:z<g2.objs.size:=JL z2;show wpAny _ _ (Builtin.SmallTypes.ownedTupleHandOut (.ref z) (.ref g2.objs.size) >>= _) _ _ _;refine Js ?_;unfold Builtin.SmallTypes.ownedTupleHandOut;have zr6:IsZip (g2.push {cls:=.type "tuple",data:=.seq us.toArray}) z TI TO .ellipsis:=J5 _ z2;refine Js (M1 zr6 (by simp) λg8 zr8 sb8=>?_)
  replace zr8:IsZip g8 z TI TO (rawInt g2.objs.size):=zr8
  refine M1 zr8 (by simp) λg9 zr9 sb9=>?_
  replace zr9:IsZip g9 z TI TO (rawInt g2.objs.size):=zr9
  have up:∀c o,c≠z->g2.get? c=some o->g9.get? c=some o:=λc o e1 q=>sb9.extBut _ _ e1 (sb8.extBut _ _ e1 (J5 _ q));have pr8:fB g9 g2.objs.size us:=sb9.extBut _ _ (L7 zlt) (sb8.extBut _ _ (L7 zlt) (JK _ rfl));rw[size2] at zr9 pr8;refine J9 ⟨_,rfl,?_⟩;show Q (.ref g2.objs.size) _;rw[size2];exact hQ g9 _ zr9 (up _ _ D.zt.2.1 t2) (λq hq=>(a2 q hq).kp λo e=>up _ o (D.it q hq).1 e) pr8 λc o e1 e2 e3 q=>up c o e1 (kp2 c o e2 e3 (sb1.extBut _ _ e1 q))
end
noncomputable def Cz(K:W.Frag)(S:List Src):It:=
  ⟨λi H=>∃vs,Paired (λ(q:Src) v=>∃xs,iK K q.1 H q.2.2 xs/\xs[i]?=some v) S vs,
   λi H v H'=>∃p vs,Paired (λ(q:Src) x=>∀xs,iK K q.1 H q.2.2 xs->xs[i]?=some x) S vs/\H p=none/\v=.ref p/\H'=upd H p (.tup vs),
   λi H=>∃a q r vs,S=a++q::r/\Paired (λ(q:Src) v=>∃xs,iK K q.1 H q.2.2 xs/\xs[i]?=some v) a vs/\∃xs,iK K q.1 H q.2.2 xs/\xs.length=i⟩
section
variable {X:Cx} {pins:List (Addr×Obj)} {σ:St} {H:Hp} {s:Shared} {i:Nat}
def xr(I:Inv X pins σ H s){l:List Src}{vs:List V}(hi:∀q∈l,rE i s.heap q)(h:Paired (λ(q:Src) v=>∃xs,iK X.K q.1 H q.2.2 xs/\xs[i]?=some v) l vs):∃us,Paired (pw i s.heap) l us/\Vals vs us/\Paired (λ(q:Src) x=>∀xs,iK X.K q.1 H q.2.2 xs->xs[i]?=some x) l vs:=by
 induction h with
 |nil=>exact⟨[],.nil,.nil,.nil⟩
 |cons d r ih =>
  obtain⟨us,h1,h2,h3⟩:=ih λp hp=>hi p (Jx _ hp);obtain⟨xs,hx,ex⟩:=d;obtain⟨its,rv,p1⟩:=I.pC hx;obtain⟨u,hu,ru⟩:=rv.get ex;exact⟨u::us,.cons ⟨hi _ J7,its.toArray,p1,by rw[K0];exact hu⟩ h1,.cons ru h2,.cons (λys hy=>by rw[I.yo hy hx];exact ex) h3⟩
end
def vf{tk:Nat}{tp:Pos}(S:List Src)(z TI TO:Addr)(D:Zn z TI TO S)(hS:S≠[])(hn:S.length<=3):
  Turn P w K (.Tuple es tk tp) (Cz K S) (z::TI::TO::S.map λq=>q.2.1) z (λi h=>IsZip h z TI TO .none/\fB h TI (S.map λq=>.ref q.2.1)/\(∃old,fB h TO old/\old.length=S.length)/\∀q∈S,rE i h q) where
 mem:=J7
 obj:=λi h st c hc=>by
  obtain⟨s1,s2,⟨old,s3,_⟩,s4⟩:=st;rcases Jw.mp hc with rfl|hc
  ·exact⟨_,s1,λv q=>by cases q⟩
  rcases Jw.mp hc with rfl|hc
  ·exact⟨_,s2,λv q=>by cases q⟩
  rcases Jw.mp hc with rfl|hc
  ·exact⟨_,s3,λv q=>by cases q⟩
  obtain⟨q,hq,rfl⟩:=Kg.mp hc;obtain⟨o,e,_,d⟩:=lJ.ty (s4 q hq);exact⟨o,e,λv q=>by rw[d] at q;cases q⟩
 keep:=λi h h' st k=>by
  obtain⟨s1,s2,⟨old,s3,s3'⟩,s4⟩:=st;exact⟨k z (by simp) _ s1,k TI (by simp) _ s2,⟨old,k TO (by simp) _ s3,s3'⟩,λq hq=>(s4 q hq).kp (k _ (Jx _ (Jx _ (Jx _ (Lw (f:=λq:Src=>q.2.1) hq)))))⟩
 item:=by
  intro X hP hw hK hc i pins s σ H E I hf st hg;subst hP hw hK;obtain⟨vs,hg⟩:=hg;obtain⟨s1,s2,⟨old,s3,s3'⟩,s4⟩:=st;obtain⟨us,h1,h2,h3⟩:=xr I s4 hg;have hT:s.TypeIs (.ref z) "zip":=⟨_,s1,rfl⟩;unfold pyNext;refine Js (MF (K2 (name:=Str.ofString "__next__") hT PySem.F.slot_zip_next (K9 PySem.F.slot_zip_next hT PySem.F.entry_zip_next
   (Gi D hS (I.ok.hd hc) s1 s2 s3 s3' hn (.inl ⟨us,h1,λh' tk' z1 t1 a1 pr kp=>J9 ?_⟩)) (PySem.F.args_zip_next_1 _))))
  have fr:H s.heap.objs.size=none:=I.aP.fresh (J8 _);have lt:∀{c o},s.heap.get? c=some o->s.heap.objs.size≠c:=λe=>L7 (JL e);refine⟨.ref s.heap.objs.size,rfl,wpAny_letOwnedTupleGo_zip z1 λh2' z2 sb2=>?_⟩;have pr2:fB h2' s.heap.objs.size us:=sb2.extBut _ _ (lt s1) pr;have hvl:vs.length<=3:=by rw[hZ hg];exact hn
  have I2:Inv X pins σ (upd H s.heap.objs.size (.tup vs)) {s with heap:=h2',toks:=tk'}:=by
   refine I.oC (fp:=z::TI::TO::S.map λq=>q.2.1) hf (J8 _) (λc o hcm ec=>?_) ⟨JC hvl (by decide),us,h2,⟨_,pr2,rfl,_,rfl,rfl⟩⟩
   simp only[Jw,M4] at hcm;exact sb2.extBut _ _ hcm.1 (kp c o hcm.1 hcm.2.2.1 (λq hq e=>hcm.2.2.2 (by rw[e];exact Lw (f:=λq:Src=>q.2.1) hq)) ec)
  refine⟨.ref s.heap.objs.size,_,I2,rfl,⟨s.heap.objs.size,vs,h3,fr,rfl,rfl⟩,⟨z2,?_,⟨us,?_,?_⟩,λq hq=>?_⟩,λc hcm=>?_⟩
  ·exact sb2.extBut _ _ D.zt.1 (kp _ _ D.zt.1 D.zt.2.2 (λq hq=>(D.it q hq).2.1.symm) s2)
  ·exact sb2.extBut _ _ D.zt.2.1 t1
  ·exact hZ h1
  ·exact (a1 q hq).kp λo e=>sb2.extBut _ _ (D.it q hq).1 e
  ·have hn:=(hf c hcm).1;rw[ak]
   ·exact hn
   ·rcases Jw.mp hcm with rfl|hcm
    ·exact (lt s1).symm
    rcases Jw.mp hcm with rfl|hcm
    ·exact (lt s2).symm
    rcases Jw.mp hcm with rfl|hcm
    ·exact (lt s3).symm
    obtain⟨q,hq,rfl⟩:=Kg.mp hcm;obtain⟨o,e,_⟩:=lJ.ty (s4 q hq);exact (lt e).symm
 done:=by
  intro X hP hw hK hc i pins s σ H E I hf st hg;subst hP hw hK;obtain⟨a,q,r,vs,eS,hg,xs,hx,hi⟩:=hg;obtain⟨s1,s2,⟨old,s3,s3'⟩,s4⟩:=st;obtain⟨us,h1,_,_⟩:=xr I (λp hp=>s4 p (by rw[eS];exact KL _ hp)) hg
  obtain⟨its,rv,p1⟩:=I.pC hx;have hT:s.TypeIs (.ref z) "zip":=⟨_,s1,rfl⟩;unfold pyNext;refine Js (MF (K2 (name:=Str.ofString "__next__") hT PySem.F.slot_zip_next (K9 PySem.F.slot_zip_next hT PySem.F.entry_zip_next
   (Gi D hS (I.ok.hd hc) s1 s2 s3 s3' hn (.inr ⟨a,q,r,us,eS,h1,s4 q (by rw[eS];exact JR _ J7),⟨its.toArray,p1,by rw[JD,<- rv.length,hi]⟩,λh' e tk' kp he=>?_⟩)) (PySem.F.args_zip_next_1 _))))
  obtain⟨o,ho,hcl⟩:=he;refine Js (wpAny_isInstance (T:="StopIteration") (b:=true) ⟨o,ho,hcl⟩ isSubtype_stop (J9 ⟨rfl,?_⟩));refine I.turns (t':=tk') hf λc o hcm ec=>?_;simp only[Jw,M4] at hcm;exact kp c o hcm.1 hcm.2.2.1 (λq hq e=>hcm.2.2.2 (by rw[e];exact Lw (f:=λq:Src=>q.2.1) hq)) ec
 self:=λA i s Q E st h=>wpAny_pyIter_zip st.1 h
def cf.push{k:Bool}(x:cf k h a xs)(o:Obj):cf k (h.push o) a xs:=by
 cases k with
 |true=>exact Heap.IsList.push x _
 |false=>exact yc x _
def k_{prog:Program}{A:Around}{E:Value->Shared->Prop}{s:Shared}{k:Bool}{l:Addr}{items:Array Value}(hl:cf k s.heap l items)
  (hQ:Q (.ref s.heap.objs.size) {s with heap:=s.heap.push {cls:=.type (vp k),data:=.fields #[.ref l,.int 0 0]}}):wpAny (model prog w) A (pyIter (.ref l)) Q E s:=by
 cases k with
 |true=>exact Nt hl hQ
 |false=>exact Mz hl hQ
def fU(h:Heap):List (Bool×Addr)->Heap
 |[]=>h
 |p::l=>fU (h.push {cls:=.type (vp p.1),data:=.fields #[.ref p.2,.int 0 0]}) l
noncomputable def fu(n:Nat):List (Bool×Addr)->List Src
 |[]=>[]
 |p::l=>(p.1,n,p.2)::fu (n+1) l
abbrev FK(h:Heap)(l:List (Bool×Addr)):Heap:=(fU h l).push {cls:=.type "tuple",data:=.seq ((fu h.objs.size l).map λq=>Value.ref q.2.1).toArray}
abbrev A5(h:Heap)(l:List (Bool×Addr)):Heap:=(FK h l).push {cls:=.type "tuple",data:=.seq ((fu h.objs.size l).map λ_=>Value.none).toArray}
abbrev ye(h:Heap)(l:List (Bool×Addr)):Heap:=(A5 h l).push {cls:=.type "zip",data:=.fields #[.none,.bool false,.bool false,.ref (fU h l).objs.size,.ref (FK h l).objs.size]}
theorem kg:∀(l:List (Bool×Addr)) (h:Heap),(fU h l).objs.size=h.objs.size+l.length
 |[],_=>rfl
 |p::l,h=>by rw[fU,kg l,KC,JE];lia
theorem jm:∀(l:List (Bool×Addr)) {h:Heap} {c:Addr} {o:Obj},h.get? c=some o->(fU h l).get? c=some o
 |[],_,_,_,e=>e
 |p::l,_,_,_,e=>jm l (J5 _ e)
def AN(l:List (Bool×Addr)):∀{h:Heap} (q:Src),q∈fu h.objs.size l->(fU h l).get? q.2.1=some {cls:=.type (vp q.1),data:=.fields #[.ref q.2.2,.int 0 0]}:=by
 induction l with
 |nil=>intro h q hq;cases hq
 |cons p l ih =>
  intro h q hq;rcases Jw.mp hq with rfl|hq
  ·exact jm l (JK _ rfl)
  ·exact ih q (by rw[KC];exact hq)
theorem kJ:∀(l:List (Bool×Addr)) (n:Nat),(fu n l).length=l.length
 |[],_=>rfl
 |_::l,n=>Km (·+1) (kJ l (n+1))
def tO(l:List (Bool×Addr)):∀(n:Nat) (q:Src),q∈fu n l->n<=q.2.1/\q.2.1<n+l.length/\(q.1,q.2.2)∈l:=by
 induction l with
 |nil=>intro n q hq;cases hq
 |cons p l ih =>
  intro n q hq;rcases Jw.mp hq with rfl|hq
  ·exact⟨J8 _,by rw[JE];show n<_;lia,J7⟩
  ·obtain⟨h1,h2,h3⟩:=ih (n+1) q hq;exact⟨by lia,by rw[JE];lia,Jx _ h3⟩
theorem tP:∀(l:List (Bool×Addr)) (n:Nat),((fu n l).map λq=>q.2.1).Nodup
 |[],_=>List.nodup_nil
 |p::l,n=>by
  show (n::(fu (n+1) l).map λq=>q.2.1).Nodup;refine Ky.mpr ⟨λh=>?_,tP l (n+1)⟩;obtain⟨q,hq,e⟩:=Kg.mp h;have:=(tO l (n+1) q hq).1;rw[e] at this;lia
def vU(p q:Bool×Addr)(xs ys:Array Value):Meets (Builtin.«zip.__new__» ⟨[.type "zip",.ref p.2,.ref q.2],[]⟩) (λ_ R s=>cf p.1 s.heap p.2 xs/\cf q.1 s.heap q.2 ys/\R (.ok (.ret (.ref (A5 s.heap [p,q]).objs.size))) {s with heap:=ye s.heap [p,q]}):=
 .of_wp λprog w A R s h=>by
  obtain⟨hp,g,d,tk,os⟩:=s;obtain⟨q1,q2,h⟩:=h;have hsub:=sub_zip;have w1:cf p.1 (Shared.heap ⟨hp,g,d,tk,os⟩) p.2 xs:=q1;have w2:cf q.1 (Shared.heap ⟨hp.push {cls:=.type (vp p.1),data:=.fields #[.ref p.2,.int 0 0]},g,d,tk,os⟩) q.2 ys:=cf.push q2 _;wp_walk using k_ w1,k_ w2;refine⟨_,rfl,?_⟩;have e1:(hp.push {cls:=.type (vp p.1),data:=.fields #[.ref p.2,.int 0 0]}).objs.size=hp.objs.size+1:=KC ..;have h':=h;simp only[ye,A5,FK,fU,fu,Ke,Mc,<- e1] at h';exact h'
def vx(p q r:Bool×Addr)(xs ys zs:Array Value):Meets (Builtin.«zip.__new__» ⟨[.type "zip",.ref p.2,.ref q.2,.ref r.2],[]⟩) (λ_ R s=>cf p.1 s.heap p.2 xs/\cf q.1 s.heap q.2 ys/\cf r.1 s.heap r.2 zs/\R (.ok (.ret (.ref (A5 s.heap [p,q,r]).objs.size))) {s with heap:=ye s.heap [p,q,r]}):=
 .of_wp λprog w A R s h=>by
  obtain⟨hp,g,d,tk,os⟩:=s;obtain⟨q1,q2,q3,h⟩:=h;have hsub:=sub_zip;have w1:cf p.1 (Shared.heap ⟨hp,g,d,tk,os⟩) p.2 xs:=q1;have w2:cf q.1 (Shared.heap ⟨hp.push {cls:=.type (vp p.1),data:=.fields #[.ref p.2,.int 0 0]},g,d,tk,os⟩) q.2 ys:=cf.push q2 _;have w3:cf r.1 (Shared.heap ⟨(hp.push {cls:=.type (vp p.1),data:=.fields #[.ref p.2,.int 0 0]}).push {cls:=.type (vp q.1),data:=.fields #[.ref q.2,.int 0 0]},g,d,tk,os⟩) r.2 zs:=cf.push (cf.push q3 _) _;wp_walk using k_ w1,k_ w2,k_ w3;refine⟨_,rfl,?_⟩;have e1:(hp.push {cls:=.type (vp p.1),data:=.fields #[.ref p.2,.int 0 0]}).objs.size=hp.objs.size+1:=KC ..;have e2:((hp.push {cls:=.type (vp p.1),data:=.fields #[.ref p.2,.int 0 0]}).push {cls:=.type (vp q.1),data:=.fields #[.ref q.2,.int 0 0]}).objs.size=(hp.push {cls:=.type (vp p.1),data:=.fields #[.ref p.2,.int 0 0]}).objs.size+1:=KC ..;have h':=h;simp only[ye,A5,FK,fU,fu,Ke,Mc,<- e1,<- e2] at h';exact h'
def kY(a b c:Value):checkTypeCall "zip" ⟨[a,b,c],[]⟩=pure ():=by kernel_rfl
def m6(a b c:Value):checkBuiltinCall "zip.__new__" ⟨[.type "zip",a,b,c],[]⟩=pure ():=by kernel_rfl
def qA(a b c d:Value):argsOk "object.__init__" ⟨[a,b,c,d],[]⟩:=by
 unfold argsOk;rw[signature?_of (id:="object.__init__") (n:=['_','_','t','i','n','i','_','_']) (o:=['t','c','e','j','b','o']) (by kernel_rfl) PySem.F.owner_object];kernel_rfl
section
variable {X:Cx} {es:List Expr} {tk:Nat} {tp:Pos}
def sZ{pins:List (Addr×Obj)}{s:Shared}{R:It->Hp->Prop}(I:Inv X pins σ H s)(l:List (Bool×Addr))(hne:l≠[])(h3:l.length<=3)(hq:∀p∈l,∃xs,iK X.K p.1 H p.2 xs)(q:∀n,R (Cz X.K (fu n l)) H):
  (∃o,(ye s.heap l).get? (A5 s.heap l).objs.size=some o/\o.cls=.type "zip")/\wpAny (model X.prog X.w) X.A (pyIter (.ref (A5 s.heap l).objs.size)) (Iw X pins σ (.Tuple es tk tp) R) X.xe {s with heap:=ye s.heap l}:=by
 have n1:(fU s.heap l).objs.size=s.heap.objs.size+l.length:=kg l _;have n2:(FK s.heap l).objs.size=s.heap.objs.size+l.length+1:=by rw[KC,n1]
 have n3:(A5 s.heap l).objs.size=s.heap.objs.size+l.length+2:=by rw[KC,n2]
 have p3:(ye s.heap l).get? (A5 s.heap l).objs.size=some _:=JK _ rfl;have p2:(ye s.heap l).get? (FK s.heap l).objs.size=some _:=J5 _ (JK _ rfl);have p1:(ye s.heap l).get? (fU s.heap l).objs.size=some _:=J5 _ (J5 _ (JK _ rfl));have up:∀{c o},(fU s.heap l).get? c=some o->(ye s.heap l).get? c=some o:=λe=>J5 _ (J5 _ (J5 _ e));rw[n1,n2,n3] at p3;rw[n2] at p2;rw[n1] at p1;rw[n3];refine⟨⟨_,p3,rfl⟩,wpAny_pyIter_zip p3 ?_⟩;have I2:Inv X pins σ H {s with heap:=ye s.heap l}:=I.kept (t':=s.toks) λc o e=>up (jm l e)
 have bd:=tO l s.heap.objs.size;have lt:∀p∈l,p.2<s.heap.objs.size:=λp hp=>by
  obtain⟨xs,hx⟩:=hq p hp;obtain⟨its,_,p1⟩:=I.pC hx;obtain⟨o,e,_⟩:=p1.ty;exact JL e
 have D:Zn (s.heap.objs.size+l.length+2) (s.heap.objs.size+l.length) (s.heap.objs.size+l.length+1) (fu s.heap.objs.size l):=by
  have nl:∀(a b:Nat),a<b->a≠b:=λa b h=>JU h;refine⟨⟨nl _ _ (by lia),nl _ _ (by lia),nl _ _ (by lia)⟩,λq hq'=>?_,λq hq'=>?_,tP l _⟩
  ·have:=(bd q hq').2.1;exact⟨nl _ _ (by lia),nl _ _ (by lia),nl _ _ (by lia)⟩
  ·have h1:=lt _ (bd q hq').2.2;refine⟨nl _ _ (by show q.2.2<_;have:q.2.2<s.heap.objs.size:=h1;lia),nl _ _ (by have:q.2.2<s.heap.objs.size:=h1;lia),λp hp=>nl _ _ (JT h1 (bd p hp).1)⟩
 refine⟨_,_,_,_,H,rfl,I2,vf (fu s.heap.objs.size l) _ _ _ D (λe=>?_) (by rw[kJ];exact h3),⟨p3,p1,⟨_,p2,Jt ..⟩,λq hq'=>GJ (up (AN l q hq'))⟩,λc hc=>?_,q _⟩
 ·have:=kJ l s.heap.objs.size;rw[e] at this;exact hne (LU.mp this.symm)
 ·have hc':s.heap.objs.size<=c:=by
   rcases Jw.mp hc with rfl|hc
   ·lia
   rcases Jw.mp hc with rfl|hc
   ·lia
   rcases Jw.mp hc with rfl|hc
   ·lia
   obtain⟨q,hq',rfl⟩:=Kg.mp hc;exact (bd q hq').1
  exact I.vS hc' (I.aP.fresh hc')
def Ae(K:W.Frag)(ta:TA):TI:=λσ H R=>ta σ H λvs H1=>∃p q:Bool×Addr,vs=[.ref p.2,.ref q.2]/\(∃xs,iK K p.1 H1 p.2 xs)/\(∃ys,iK K q.1 H1 q.2 ys)/\∀n,R (Cz K (fu n [p,q])) H1
def Ci{e1 e2:Expr}{pos:Pos}(hg:Gl X "zip")(hm:X.mg "zip"=none)(ha:PA X [e1,e2] ta)(h1:autoParam (eG e1=true) ℜ0)(h2:autoParam (eG e2=true) ℜ0)(hv:autoParam (bootBuiltins "zip"=some (.type "zip")) ℜ6):
  PI X (.Tuple es tk tp) (.Call (.Name "zip" p) [e1,e2] [] pos) (Ae X.K ta):=by
 intro pins s σ H R I h;refine Call_ (fS I hg hm hv (KJ (bN (ha pos pins s σ H _ I h) λus s1 hq1=>?_) (by rw[cC h1,cC h2]) (by rw[cC h2];rfl)))
 obtain⟨vs,H1,I1,r1,q1⟩:=hq1;obtain⟨a,b,e,⟨xs,hx⟩,⟨ys,hy⟩,q⟩:=q1;subst e;obtain⟨u,w',rfl,ru,rw'⟩:=vals2 r1
 cases ru;cases rw'
 obtain⟨its1,_,p1⟩:=I1.pC hx;obtain⟨its2,_,p2⟩:=I1.pC hy;refine O5 F.called_zip (by decide) (F.typeCall_zip_2 _ _) (F.newCall_zip_2 _ _) (λobj=>F.args_object_init_3 obj _ _) F.entry_zip_new (vU a b _ _) ⟨p1,p2,sZ I1 [a,b] (by simp) (KQ 2) (λp hp=>?_) q⟩
 simp only[Jw,JO,Kn] at hp;rcases hp with rfl|rfl
 ·exact⟨xs,hx⟩
 ·exact⟨ys,hy⟩
def Ah(K:W.Frag)(ta:TA):TI:=λσ H R=>ta σ H λvs H1=>∃p q r:Bool×Addr,vs=[.ref p.2,.ref q.2,.ref r.2]/\(∃xs,iK K p.1 H1 p.2 xs)/\(∃ys,iK K q.1 H1 q.2 ys)/\(∃zs,iK K r.1 H1 r.2 zs)/\∀n,R (Cz K (fu n [p,q,r])) H1
def vals3{x y z:V}{us:List Value}(r:Vals [x,y,z] us):∃u w' q,us=[u,w',q]/\RelV x u/\RelV y w'/\RelV z q:=by
 obtain⟨u,us,rfl,h1,r⟩:=Paired.fV r;obtain⟨v,w',rfl,h2,h3⟩:=vals2 r;exact⟨u,v,w',rfl,h1,h2,h3⟩
def Bd{e1 e2 e3:Expr}{pos:Pos}(hg:Gl X "zip")(hm:X.mg "zip"=none)(ha:PA X [e1,e2,e3] ta)(h1:autoParam (eG e1=true) ℜ0)(h2:autoParam (eG e2=true) ℜ0)(h3:autoParam (eG e3=true) ℜ0)(hv:autoParam (bootBuiltins "zip"=some (.type "zip")) ℜ6):
  PI X (.Tuple es tk tp) (.Call (.Name "zip" p) [e1,e2,e3] [] pos) (Ah X.K ta):=by
 intro pins s σ H R I h;refine Call_ (fS I hg hm hv (KJ (bN (ha pos pins s σ H _ I h) λus s1 hq2=>?_) (by rw[cC h1,cC h2,cC h3]) (by rw[cC h2,cC h3];rfl)))
 obtain⟨vs,H1,I1,r1,q1⟩:=hq2;obtain⟨a,b,c,e,⟨xs,hx⟩,⟨ys,hy⟩,⟨zs,hz⟩,q⟩:=q1;subst e;obtain⟨u,w',t',rfl,ru,rw',rt'⟩:=vals3 r1
 cases ru;cases rw';cases rt'
 obtain⟨its1,_,p1⟩:=I1.pC hx;obtain⟨its2,_,p2⟩:=I1.pC hy;obtain⟨its3,_,p3⟩:=I1.pC hz;refine O5 F.called_zip (by decide) (kY _ _ _) (m6 _ _ _) (λobj=>qA obj _ _ _) F.entry_zip_new (vx a b c _ _ _) ⟨p1,p2,p3,sZ I1 [a,b,c] (by simp) (J8 3) (λp hp=>?_) q⟩
 simp only[Jw,JO,Kn] at hp;rcases hp with rfl|rfl|rfl
 ·exact⟨xs,hx⟩
 ·exact⟨ys,hy⟩
 ·exact⟨zs,hz⟩
end
def Ef(X:Cx)(C:Addr)(m:Str)(sp:Sp)(ta:TE)(t:TA):TE:=λσ H Q=>ta σ H λx H1=>∃a dx fs,x=.ref a/\H1 a=some (.ins C dx fs)/\fs.lookup m=none/\t σ H1 λvs H2=>sp (x::vs) H2 Q (G9 X σ H2)
def yb{pl:Sem Bool}{ps:List Str}{m:Str}{pos:Pos}{o:Expr}{ta:TE}{t:TA}(he:PE X o ta)(c:j8 X.K C)(hm:Meth X.K C m f)(G:bY X.prog X.w X.K X.mg X.base (wN X.prog X.w) k f fd ps sp)(hr:bz k X.A)(hb:Binds X.K fd ps [])(hex:X.ex=[])(ha:PA X (e::es) t)
  (hst:autoParam (starEach (e::es) X.env=(false,eval e X.env)::starEach es X.env) ℜ0) (hpl:autoParam ((backTo pos (starEach es X.env)).any (·.1)=false) ℜ0)
  (ht:autoParam (eval (.Call (.Attribute o m apos) (e::es) [] pos) X.env=(do
   let ov <- eval o X.env
   standAt apos.atName
   let (f,first) <- holding [ov] (getMethod ov m pl)
   callWith pos f first (backTo pos (starEach (e::es) X.env)) (backToKw pos (keywordEach [] X.env)))) ℜ0) :
  PE X (.Call (.Attribute o m apos) (e::es) [] pos) (Ef X C m sp ta t):=by
 intro pins s σ H Q I h;refine W.methodCall_KW (pl:=pl) (bN (he pins s σ H _ I h) λu s1 hq47=>?_) ht;obtain⟨x,H1,I1,rx,a,dx,fs,ex,ea,l,q⟩:=hq47;subst ex;obtain rfl:u=Value.ref a:=rx;refine lT I1 ea c hm l ?_;refine O3 (first:=[.ref a]) (h₀:=X.base) I.ok.mod.uF hm.kp (bN (ha pos pins s1 σ H1 _ I1 q) λus s2 ⟨vs,H2,I2,r,q2⟩=>⟨I2.fm,?_⟩) hst hpl
 have r2:Vals (.ref a::vs) (.ref a::us):=.cons rfl r;have hl:(Value.ref a::us).length=ps.length:=by rw[<- r2.length];exact G.len _ _ _ _ q2
 have hb2:=hb s2 (.ref a::us) I2.fm (by rw[Ks];exact hl)
 rw[Ks] at hb2;refine Nz (N9 (G.run X.A X.stack s2 H2 ⟨.ref a::us,[]⟩ (.ref a::us) (.ref a::vs) Q (G9 X σ H2) hr I2.E_ hb2 r2 q2) λr s' hq=>?_)
 cases r with
 |error e =>
  obtain⟨ea,T,cls,d,H',rfl,ho,hbare,un,aP,fl,n1,n3,n2,tr,nT,ea',d',hea,tr',hd⟩:=hq;cases hea;obtain⟨_,rfl⟩:=fl.is.one (show iN ea cls d' s'.heap from (aP _ _ tr').1);have I3:=I2.CZ (ch:=[]) ho un aP hbare (λb z=>absurd z (by simp))
  have n0:∀b,s2.heap.get? b=none->X.s₀.heap.get? b=none:=λb z=>by
   cases q2:X.s₀.heap.get? b with
   |none=>rfl
   |some o =>
    obtain⟨o',q3⟩:=I2.base.there b o q2 (by rw[hex];simp)
    rw[z] at q3;cases q3
  exact hd (I2.aP.none_of n1) (λa z=>I2.aP.none_of (n3 a z)) pins s' (some T) I3 fl ⟨tr,n0 _ n1,λa z=>n0 _ (n3 a z),λT' hT=>by
   cases hT;exact⟨nT,n0 _ n2,λp hp z=>by rw[<- z,(I2.pin p hp).1] at n2;cases n2⟩⟩
 |ok fl =>
  cases fl with
  |ret u=>exact I2.after hq
  |next=>exact False.elim hq
  |brk=>exact False.elim hq
  |cont=>exact False.elim hq
namespace Z
def Ja:QS X st (λ_ _ _=>False):=⟨λ_ _ _ _ _ _ h=>h.elim⟩
end Z
namespace Y
def ID(K:W.Frag):R2:=λx y H Q=>∃a b xs,x=.ref a/\y=.ref b/\bg K H a xs/\bg K H b []/\Q (.bl (!xs.isEmpty)) H
def DK(K:W.Frag)(hK:X.K=K)(hu:X.A.units<cLine):cY X (compareOp .NotEq) (ID K):=by
 subst hK;intro pins s σ H x y v u Q I rx ry h;obtain⟨a,b,xs,rfl,rfl,ha,hb,q⟩:=h
 cases rx;cases ry
 obtain⟨its,r1,p1,_⟩:=I.list ha;obtain⟨its2,r2,p2,_⟩:=I.list hb;obtain rfl:=Paired.sj r2
 cases r1 with
 |nil=>exact SeqAt.RcNeAt.lists (e:=λ_=>true) p1.isList p2.isList rfl hu (λj h1=>absurd h1 (Ln _)) X.prog X.w X.xe _ ⟨.bl false,H,I,rfl,q⟩
 |cons h r=>exact SeqAt.RcNeAt.lists_lengths p1.isList p2.isList (by simp) hu X.prog X.w X.xe _ ⟨.bl true,H,I,rfl,q⟩
end Y
namespace Z
def HY{o:Expr}{to:TE}{pos:Pos}(K:W.Frag)(hK:X.K=K){name:Str}{T id:String}{r:V->List V->Hp->VK->Prop}(pa:PlainAttrs T)(slot:Slot T name id)(hty:typeOf (.builtin id)=pure (.type "method_descriptor"))(hm:wJ X id r)(ho:QE X o to)
  (hbase:autoParam (attributeBase o name X.env (eval o X.env)=eval o X.env) ℜ0) (hline:autoParam ((apos.endLine == pos.line)=true) ℜ0):QE X (.Call (.Attribute o name apos) [] [] pos) (yC K T r to):=by
 subst hK;exact⟨EK pa slot hty hm ho.h hbase hline⟩
def pQ(K:W.Frag)(hK:X.K=K):vv X (Fp K):=by subst hK;exact rM
def Jb{te:TE}{pos:Pos}{d:Addr}{D:List (Str×List Str)}(K:W.Frag)(hK:X.K=K)(hg:Gl X x)(hm:X.mg x=some (.ref d))(hd:mh K d D)(he:QE X e te)(hs:EG e:=by exactλ_ _=>rfl)(hdb:autoParam ((x ==("__debug__":Str))=false) ℜ1):QE X (.Subscript (.Name x p) e pos) (xZ K D te):=by
 subst hK;exact⟨DW (tB hg hm rfl hdb) hd he.h hs⟩
def CO{pos:Pos}(K:W.Frag)(hK:X.K=K){tp:Pos}(hg:Gl X "enumerate")(hm:X.mg "enumerate"=none)(ha:QA X [e] ta)(h1:autoParam (eG e=true) ℜ0):QI X (.Tuple es k tp) (.Call (.Name "enumerate" p) [e] [] pos) (lS K ta):=by
 subst hK;exact⟨y8 hg hm ha.h h1⟩
def Hk{t:TA}{pos kpos lpos p1 p2 p3:Pos}{y z:Str}{c Pt d:Addr}{j:Nat}{params:Arguments}(K:W.Frag)(hK:X.K=K)(hx:z∈eE)(ht:W.tabIn K z=some (c,Pt))(hcode:X.env.code=.ref c)(hq:X.env.qual=z++".<locals>.")(hdef:defaultsOf params X.env=([],[]))(hcl:closureFor scope X.env=pure [(y,d)])
  (hg:Gl X "sorted") (hm:X.mg "sorted"=none) (ha:QA X [e] t) (hr:bz (k+3) X.A)
  (hsc:scope={kind:=.function,names:=[(x,.local),(y,.free)],isGenerator:=false,isCoroutine:=false,more:=[]}) (hxy:y≠x) (hx1:(x ==("__debug__":Str))=false) (hx2:(x ==("__classdict__":Str))=false) (hy1:(y ==("__debug__":Str))=false) (hy2:(y ==("__classdict__":Str))=false)
  (hj:X.N[j]?=some y) (hyc:X.env.scope.names.lookup y=some .cell) (hyl:X.env.cells.lookup y=some d)
  (hbind:∀c' pm ctv u,bindArgs (W.kla_fn "<lambda>" ((z++".<locals>.")++"<lambda>") params (.Subscript (.Name y p1) (.Name x p2) p3) scope [(y,d)] pm (.ref c') ctv) ⟨[u],[]⟩=pure [(x,u)]) (h1:autoParam (eG e=true) ℜ0) :
  QE X (.Call (.Name "sorted" p) [e] [⟨some "key",.Lambda params (.Subscript (.Name y p1) (.Name x p2) p3) scope lpos,kpos⟩] pos) (kR K j t):=by
 subst hK;exact⟨xA hg hm ha.h h1 hr (Eb hx ht hcode hq hdef hcl) hsc hxy hx1 hx2 hy1 hy2 hj hyc hyl hbind⟩
def FZ(K:W.Frag)(hK:X.K=K):cY X (compareOp .In) (HZ K false):=by subst hK;exact nv
def Dj(K:W.Frag)(hK:X.K=K):aZ X (.type "list") (λxs H Q=>∃p ys,xs=[.ref p]/\(bg K H p ys\/bq K H p ys)/\∀l,H l=none->Q (.ref l) (upd H l (.lst ys))):=by subst hK;exact oo
end Z
namespace Ap
def xZ(K:W.Frag)(D:List (Str×List Str))(te:TE)(σ:St)(H:Hp)(Q:VK):L2.xZ K D te σ H Q=te σ H λy H1=>∃k ws,y=.str k/\KTD.datumAt k D=some ws/\∀p,HK K p (ws.map V.str)->Q (.ref p) H1:=rfl
def lS(K:W.Frag)(ta:TA)(σ:St)(H:Hp)(R:It->Hp->Prop):L2.lS K ta σ H R=ta σ H λvs H1=>∃a,vs=[.ref a]/\(∃xs,bg K H1 a xs)/\R (C6 K a) H1:=rfl
def kR(K:W.Frag)(j:Nat)(t:TA)(σ:St)(H:Hp)(Q:VK):L2.kR K j t σ H Q=t σ H λvs H1=>∃l xs kz,vs=[.ref l]/\(∃n:Nat,H1 l=some (.pd 0 n)/\xs=kT n)/\kz.length=xs.length/\xs.length<64 /\
 (∀(i:Nat) (v:V) (k:Int),xs[i]?=some v->kz[i]?=some k->∀H',eJ H1 H'->∃i q ls,v=.int i/\IY j σ=[some (.ref q)]/\bq K H' q ls/\bI ls i=some (.int k))/\∀H2 D,eJ H1 H2->H2 D=none->Q (.ref D) (upd H2 D (.lst (jF kz xs))):=rfl
end Ap
section
variable {K:W.Frag} {g:TG} {tb:TS} {D:Ends} {σ:St} {H:Hp}
theorem lR{xs:List V}(Pv:Nat->St->Hp->Prop)(h0:Pv 0 σ H)(hl:∀i σ H,i<=xs.length->Pv i σ H->bg K H a xs)
  (hs:∀i x σ H p,xs[i]?=some x->Pv i σ H->H p=none->g (.ref p) σ (upd H p (.tup [.int i,x])) λσ2 H2=>tb {D with nx:=Pv (i+1),ct:=Pv (i+1),bk:=D.nx} σ2 H2) (hd:∀σ H,Pv xs.length σ H->D.nx σ H) :
  rn (C6 K a) g tb D σ H:=by
 refine⟨λi m σ H=>m=xs.length-i/\i<=xs.length/\Pv i σ H,⟨xs.length,by simp,JJ _,h0⟩,?_⟩
 rintro i m σ H ⟨rfl,hi,p⟩;have hq:=hl i σ H hi p;by_cases c:i<xs.length
 ·refine .inr ⟨⟨xs[i],xs,hq,Jr c⟩,λσ' H'=>Pv (i+1) σ' H',λσ' H' h=>⟨_,by lia,rfl,c,h⟩,?_⟩
  rintro x H' ⟨q,y,e,fr,rfl,rfl⟩;have e1:=e xs hq;exact hs i y σ H q e1 p fr
 ·have e:i=xs.length:=by lia
  subst e;exact .inl ⟨⟨xs,hq,rfl⟩,hd _ _ p⟩
end
section
variable {K:W.Frag} {σ:St} {H:Hp} {tc:TT} {te:TE} {Q:VK}
def G8{x y:V}{c:Addr}{o1 o2:Option V}{R:St->Hp->Prop}(h:R (some x::some y::σ) (upd H c (.tup [x,y]))):nH K 2 (gZ (aT 0) (gZ (aT 1) vj)) (.ref c) (o1::o2::σ) (upd H c (.tup [x,y])) R:=⟨c,[x,y],rfl,bq.of aa,rfl,x,[y],rfl,y,[],rfl,rfl,h⟩
theorem qB{xs:List V}(hn:xs.length<=sizeLine)(Pv:Addr->Nat->List V->Hp->Prop)(h0:∀D,H D=none->Pv D 0 [] (upd H D (.lst [])))(hD:∀D i ys H',Pv D i ys H'->H' D=some (.lst ys)/\ys.length=i)
  (hl:∀D i ys H',Pv D i ys H'->bq K H' a xs)
  (hs:∀D i ys H' x p (R:VK),xs[i]?=some x->Pv D i ys H'->H' p=none->(∀v H5,H5 D=some (.lst ys)->Pv D (i+1) (ys++[v]) (upd H5 D (.lst (ys++[v])))->R v H5)->te (some (.int i)::some x::σ) (upd H' p (.tup [.int i,x])) R) (hd:∀D ys H',Pv D xs.length ys H'->Q (.ref D) H') :
  kj (A_ K a) 2 (nH K 2 (gZ (aT 0) (gZ (aT 1) vj))) gw te Q σ H:=by
 intro D hD0;refine⟨λi m ys σ' H'=>m=xs.length-i/\i<=xs.length/\Pv D i ys H'/\∃o1 o2,σ'=o1::o2::σ,⟨xs.length,by simp,JJ _,h0 D hD0,none,none,rfl⟩,?_⟩
 rintro i m ys σ' H' ⟨rfl,hi,p,o1,o2,rfl⟩;obtain⟨hDi,hly⟩:=hD _ _ _ _ p;have q:=hl _ _ _ _ p;refine⟨hDi,?_⟩;by_cases hlt:i<xs.length
 ·refine .inr ⟨⟨xs[i],xs,q,by simp[hlt]⟩,by lia,λx H2 y=>?_⟩
  obtain⟨c,y,hy,fr,rfl,rfl⟩:=y;refine G8 ?_;unfold gw;dsimp only;rw[if_pos rfl];exact hs D i ys H' y c _ (hy xs q) p fr λv H5 q1 q2=>⟨q1,xs.length-(i+1),by lia,rfl,hlt,q2,_,_,rfl⟩
 ·have e:i=xs.length:=by lia
  subst e;exact .inl ⟨⟨xs,q,rfl⟩,hd D ys H' p⟩
end
def jS{t:TS}{D:Ends}(h:∀N,N=D.nx->t {D with nx:=N} σ H):t D σ H:=h _ rfl
def gc{c:TT}{t u:TS}{D:Ends}(h:∀A B,A=t D->B=u D->c σ H λb H1=>if b=true then A σ H1 else B σ H1):oR c t u D σ H:=h _ _ rfl rfl
def HasFn.Ii{ps:List Str}(F:HasFn K mg x st ps)(S:av N ps (ae st))(len:∀vs H Q E,sp vs H Q E->vs.length=ps.length)
  (hbody:∀(f:Addr) (cdv:Value) (A:Around) (outer:List Env) (s:Shared) (H:Hp) (vs:List V) (Q:VK) (E:XK),bz k (A.deeper (envOfC x (ae st) s.heap.objs.size f cdv))->mg x=some (.ref f)->Bt K f cdv->sp vs H Q E ->
   ∃t,QB (fY aN P w K mg base N x (ae st) f cdv A outer s H E).vK (aV st) t/\t {nx:=λ_ H'=>Q .aL H',rt:=Q} (start N vs) H):ao P w K mg base aN (k+1) x ps sp:=by
 obtain⟨f,fd,F1,b,m⟩:=F.ex;have F2:=F1;obtain⟨oc,od,kV,doc,pm,an,cdv,ct,osl,rfl,lk,gW⟩:=F2.ex;refine⟨f,_,m,F1.kp,b,xU lk gW S len λA outer s H vs Q E hr mq=>?_⟩;obtain⟨t,h,q⟩:=hbody f cdv A outer s H vs Q E hr m ⟨_,_,lk,rfl,rfl⟩ mq;exact⟨t,h.h.vK,q⟩
def az.of(k:scope.kind=.function)(h:N.Nodup/\N.length=own.length+ON.length/\(∀y∈scope.names,y.2≠.cell)/\(∀y∈scope.names,y.2=.local->scope.names.lookup y.1=some .local)/\(∀y∈scope.names,y.2=.free->osc.names.lookup y.1=some .cell\/osc.names.lookup y.1=some .free)/\(∀p∈ON.zip (N.drop own.length),p.1=p.2\/scope.names.lookup p.2=none)/\∀x∈N.drop own.length,scope.names.lookup x≠some .local):az osc ON scope own N:=by
 obtain⟨h1,h2,h3,h4,h5,h6,h7⟩:=h;exact⟨k,h1,h2,h3,h4,h5,h6,h7⟩
namespace Z
section
variable {X:Cx} {e o:Expr} {es:List Expr} {te to:TE} {t:TA} {pos pos' p:Pos} {x:Str}
def se(hN:X.N.Nodup)(he:QE X e te)(hi:autoParam (X.N[i]?=some x) ℜ0)(hx:Loc X.env.scope x:=by first|exact Or.inl rfl|exact Or.inr rfl)(hs:autoParam (HF e=true) ℜ0)(hf:autoParam (X.fn x=true\/X.env.scope.names.lookup x=some .local) ℜ2):
  QS X (.Assign [.Name x pos'] e pos) (lP te (aT i)):=set hN hi hx he hs hf
def fc{ps:List Str}(F:ao X.prog X.w X.K X.mg X.base aN k x ps sp)(ha:QA X (e::es) t)(hr:bz k X.A:=by exact bz.mono (by assumption) (by decide))(hg:autoParam (Gl X x) ℜ0)(h1:autoParam (eG e=true) ℜ0)(h2:autoParam (es.all eG=true) ℜ0)(hdb:autoParam ((x ==("__debug__":Str))=false) ℜ1):
  QE X (.Call (.Name x p) (e::es) [] pos) (gY sp [] E0 t):=fn F hr hg kN ha h1 h2 hdb
def vy{tg elt:Expr}{wi:TI}{g:TG}{tc:TT}(S:az osc ON scope own N)(hi:QI X tg iter wi)
  (hg:∀(nd:N.Nodup) C s H fp,QG (aK X scope N C s H fp) tg g) (ht:∀C s H fp,FR (aK X scope N C s H fp) ifs tc) (he:∀C s H fp,QE (aK X scope N C s H fp) elt te) (hosc:autoParam (X.env.scope=osc) ℜ0) (hON:autoParam (X.N=ON) ℜ0) (hc:autoParam (X.calm=true) ℜ0) (hs:autoParam (∀x,foldedSetIterable iter X.env x=pure x) ℜ3) :
  QE X (.ListComp elt [⟨tg,iter,ifs,0⟩] scope pos) (i9 wi own.length g tc te):=comp S hosc hON hc hi (hg S.nd) ht he hs
def sec{tg elt:Expr}{p2:Pos}{wi:TI}{g:TG}{tc:TT}{j:Nat}(hN:X.N.Nodup)(S:az osc ON scope own N)(hi:QI X tg iter wi)
  (hg:∀(nd:N.Nodup) C s H fp,QG (aK X scope N C s H fp) tg g) (ht:∀C s H fp,FR (aK X scope N C s H fp) ifs tc) (he:∀C s H fp,QE (aK X scope N C s H fp) elt te)
  (hj:autoParam (X.N[j]?=some x) ℜ0) (hx:Loc X.env.scope x:=by first|exact Or.inl rfl|exact Or.inr rfl) (hosc:autoParam (X.env.scope=osc) ℜ0) (hON:autoParam (X.N=ON) ℜ0) (hc:autoParam (X.calm=true) ℜ0)
  (hsw:autoParam (swapsWith (.ListComp elt [⟨tg,iter,ifs,0⟩] scope p2) (some (.Name x pos')) pos.line X.env=pure true) ℜ0)
  (hf:autoParam (X.fn x=true\/X.env.scope.names.lookup x=some .local) ℜ2) (hs:autoParam (∀x,foldedSetIterable iter X.env x=pure x) ℜ3) :
  QS X (.Assign [.Name x pos'] (.ListComp elt [⟨tg,iter,ifs,0⟩] scope p2) pos) (lP (i9 wi own.length g tc te) (aT j)):=setC hN hj hx S hosc hON hc hi (hg S.nd) ht he hsw hf hs
def app(K:W.Frag)(ho:QE X o to)(ha:QA X (e::es) t)(hK:autoParam (X.K=K) ℜ0)(hbase:autoParam (attributeBase o "append" X.env (eval o X.env)=eval o X.env) ℜ0)(hline:autoParam ((apos.endLine == pos.line)=true) ℜ0)(h:autoParam ((e::es).all eG=true) ℜ0)(hl:autoParam ((e::es).length<30) ℜ1):QE X (.Call (.Attribute o "append" apos) (e::es) [] pos) (EI K "list" uv to t):=bm K hK PySem.F.plainAttrs_list PySem.F.slot_list_append PySem.F.type_list_append mW ho ha hbase hline h hl
end
end Z
def lZ.IW{qual:Str}{ps:List Str}(F:lZ K x qual st f fd)(S:av N ps (ae st))(len:∀vs H Q E,sp vs H Q E->vs.length=ps.length)
  (hbody:∀(cdv:Value) (A:Around) (outer:List Env) (s:Shared) (H:Hp) (vs:List V) (Q:VK) (E:XK),bz k (A.deeper (envOfC qual (ae st) s.heap.objs.size f cdv))->sp vs H Q E ->
   ∃t,QB (fY (wN P w) P w K mg base N qual (ae st) f cdv A outer s H E) (aV st) t/\t {nx:=λ_ H'=>Q .aL H',rt:=Q} (start N vs) H):bY P w K mg base (wN P w) (k+1) f fd ps sp:=by
 obtain⟨oc,od,kV,doc,pm,an,cdv,ct,osl,rfl,lk,gW⟩:=F.ex;refine xU lk gW S len λA outer s H vs Q E hr mq=>?_;obtain⟨t,h,q⟩:=hbody cdv A outer s H vs Q E hr mq;exact⟨t,h.h,q⟩
abbrev TJ:=St->Hp->(Hp->Prop)->Prop
structure QJ (X:Cx) (vs:List Expr) (t:TJ):Prop where
 run:∀(σ:St) (H:Hp) (Q:Hp->Prop) (pins:List (Addr×Obj)) (s:Shared) (acc:Str) (k:Nat) (R:Str->Shared->Prop),t σ H Q->Inv X pins σ H s->acc.length<=2000*k->k+vs.length<=20 ->
  (∀H' s' (out:Str),Q H'->Inv X pins σ H' s'->out.length<=40000->R out s')->Joins (model X.prog X.w) X.A X.xe (evalEach vs X.env) acc R s
def HP(te:TE)(t:TJ):TJ:=λσ H Q=>te σ H λv H1=>∃i,v=.int i/\i.natAbs<2^1900/\t σ H1 Q
def HL(t:TJ):TE:=λσ H Q=>t σ H λH'=>∀z:Str,z.length<=40000->Q (.str z) H'
def HV(Dx:wM)(C:Addr)(t:TA):TS:=λD σ H=>t σ H λvs H1=>vs.length<=sizeLine/\∀e,H1 e=none->Dx (.ref C) none e σ (upd H1 e (.ext (iN e (.ref C) none)))
def FI(Dx:wM)(σ:St)(H:Hp):XK:=λcls de H'=>∃(e:Addr) (d:Option Addr),de=some e/\H' e=some (.ext (iN e cls d))/\(H e=none->(∀a,d=some a->H a=none)->Dx cls d e σ H')
def HI(Dx:wM)(C:Addr)(m:Str)(sp:Sp)(ta:TE)(t:TA):TE:=λσ H Q=>ta σ H λx H1=>∃a dx fs,x=.ref a/\H1 a=some (.ins C dx fs)/\fs.lookup m=none/\t σ H1 λvs H2=>sp (x::vs) H2 Q (FI Dx σ H2)
def Jj(K:W.Frag)(DA:Addr)(i:Nat)(th:TS)(D:Ends):wM:=λcls d e σ' H'=>(∃C,cls=.ref C/\d=none/\gE K C/\W.mroIn K C (.ref DA)=some true)/\H' e=some (.ext (iN e cls d))/\th {nx:=λσ1 H1=>D.nx (σ1.set i none) H1,rt:=λ_ _=>False} (σ'.set i (some (.ref e))) H'
def Hx(K:W.Frag)(DA:Addr)(i:Nat)(tb:wM->TS)(th:TS):TS:=λD σ H=>∀Dx:wM,(∀cls d e σ' H',Jj K DA i th D cls d e σ' H'->Dx cls d e σ' H')->tb Dx D σ H
namespace Z
section
variable {X:Cx} {e o:Expr} {es vs:List Expr} {te ta:TE} {t:TA} {tj:TJ} {pos p:Pos} {x:Str}
def vG:QJ X [] (λ_ H Q=>Q H):=⟨λσ H Q pins s acc k R q I ha hk h=>h H s acc q I (by simp at hk;lia)⟩
def fZ{c:Str}{j:Nat}(h:QJ X vs tj)(hc:autoParam (c.length<=2000) ℜ1)(he:autoParam (evalEach (.Constant (.str c) j p::vs) X.env=eval (.Constant (.str c) j p) X.env::evalEach vs X.env) ℜ0):QJ X (.Constant (.str c) j p::vs) tj:=by
 refine⟨λσ H Q pins s acc k R q I ha hk hR=>?_⟩;rw[he];refine bN ((Z.str (X:=X) (i:=c) (j:=j) (pos:=p)).h pins s σ H (λv H1=>v=.str c/\H1=H) I ⟨rfl,rfl⟩) λv s1 hq1=>?_;obtain⟨v',H1,I1,r1,e1,e2⟩:=hq1;subst e1;subst e2;obtain⟨t,rfl⟩:=r1;have hl:(acc++c).length<=2000*(k+1):=by rw[lO];lia
 rw[JE] at hk;exact⟨c,t,rfl,oF (by lia),h.run σ H1 Q pins s1 (acc++c) (k+1) R q I1 hl (by lia) hR⟩
def jE(he:QE X e te)(h:QJ X vs tj)(hev:autoParam (evalEach (.FormattedValue e (-1) none p::vs) X.env=eval (.FormattedValue e (-1) none p) X.env::evalEach vs X.env) ℜ0):QJ X (.FormattedValue e (-1) none p::vs) (HP te tj):=by
 refine⟨λσ H Q pins s acc k R q I ha hk hR=>?_⟩;rw[hev];refine wpAny_FormattedValue_plain ?_;refine bN (he.h pins s σ H _ I q) λv s1 ⟨v',H1,I1,rv,i,e1,hi,q1⟩=>?_;subst e1;obtain⟨t',rfl⟩:=rv;have hlog:i.natAbs.log2<1920:=by
  by_cases z:i.natAbs=0
  ·rw[z];decide
  ·exact (Nat.log2_lt z).mpr (JT hi (Lp (by decide) (by decide)))
 have hlen:(Str.ofString (toString i)).length<=1921:=by
  have:=int_text_length_le (k:=1920) (by decide) hlog
  rw[PySem.ofString_length];exact this
 refine wpAny_formatField_int hlog ⟨_,_,rfl,?_,?_⟩
 ·rw[lO];exact oF (by rw[JE] at hk;lia)
 ·rw[JE] at hk;exact h.run σ H1 Q pins _ (acc++Str.ofString (toString i)) (k+1) R q1 (I1.tok _) (by rw[lO];lia) (by lia) hR
def wj{v1 v2:Expr}{rest:List Expr}(h:QJ X (v1::v2::rest) tj)(hn:autoParam ((v1::v2::rest).length<=20) ℜ1):QE X (.JoinedStr (v1::v2::rest) pos) (HL tj):=⟨λpins s σ H Q I q=>by
 refine wpAny_JoinedStr (h.run σ H _ pins s Str.empty 0 _ q I (by decide) (by rw[Mf];exact hn) λH' s' out q' I' ho=>⟨oF ho,?_⟩)
 exact⟨.str out,H',I'.tok _,⟨_,rfl⟩,q' out ho⟩⟩
def ji{Dx:wM}{np cpos:Pos}(hD:Dx=qZ X)(hm:X.mg x=some (.ref C))(hk:gE X.K C)(ha:QA X (e::es) t)(hg:autoParam (Gl X x) ℜ0)(hc:autoParam (X.calm=true) ℜ0)(hex:autoParam (X.ex=[]) ℜ0)(h1:autoParam (eG e=true) ℜ0)(h2:autoParam (es.all eG=true) ℜ0)(hdb:autoParam ((x ==("__debug__":Str))=false) ℜ1):
  QS X (.Raise (some (.Call (.Name x np) (e::es) [] cpos)) none pos) (HV Dx C t):=by
 subst hD;exact⟨zk hg hm hk hc hex ha.h h1 h2 hdb⟩
def h9{Dx:wM}{pl:Sem Bool}{ps:List Str}{m:Str}(K:W.Frag)(hD:Dx=qZ X)(he:QE X o ta)(c:j8 K C)(hm:Meth K C m f)(G:bY X.prog X.w X.K X.mg X.base (wN X.prog X.w) k f fd ps sp)(hb:Binds K fd ps [])(ha:QA X (e::es) t)
  (hr:bz k X.A:=by exact bz.mono (by assumption) (by decide)) (hK:autoParam (X.K=K) ℜ0) (hex:autoParam (X.ex=[]) ℜ0) (hst:autoParam (starEach (e::es) X.env=(false,eval e X.env)::starEach es X.env) ℜ0) (hpl:autoParam ((backTo pos (starEach es X.env)).any (·.1)=false) ℜ0)
  (ht:autoParam (eval (.Call (.Attribute o m apos) (e::es) [] pos) X.env=(do
   let ov <- eval o X.env
   standAt apos.atName
   let (f,first) <- holding [ov] (getMethod ov m pl)
   callWith pos f first (backTo pos (starEach (e::es) X.env)) (backToKw pos (keywordEach [] X.env)))) ℜ0) :
  QE X (.Call (.Attribute o m apos) (e::es) [] pos) (HI Dx C m sp ta t):=by
 subst hD;subst hK;exact⟨yb he.h c hm G hr hb hex ha.h hst hpl ht⟩
end
def IH{X:Cx}{body suite:List Stmt}{b0:Stmt}{nm:Str}{DA:Addr}{np hpos pos:Pos}{tb:wM->TS}{th:TS}(K:W.Frag)(hm:X.mg x=some (.ref DA))(hkD:gE K DA)
  (hN:X.N.Nodup) (hb:∀pins E (Dx:wM),Dx=qZ (vn X pins E)->QB (vn X pins E) body (tb Dx)) (hh:∀e,QB (Dp X e) (b0::suite) th)
  (hi:autoParam (X.N[i]?=some nm) ℜ0) (hx:autoParam (X.env.scope.names.lookup nm=some .local) ℜ0) (hK:autoParam (X.K=K) ℜ0) (hg:autoParam (Gl X x) ℜ0) (hc:autoParam (X.calm=true) ℜ0) (hex:autoParam (X.ex=[]) ℜ0) (hst:autoParam (X.stack=X.env::X.outer) ℜ0) (hfm:autoParam (X.env.frame=some X.env.locals) ℜ0) (hdb:autoParam ((x ==("__debug__":Str))=false) ℜ1) :
  QS X (.Try body [.ExceptHandler (some (.Name x np)) (some nm) (b0::suite) hpos] [] [] pos) (Hx K DA i tb th):=by
 subst hK;have hkl:X.env.kindOf nm=some .local:=hx;refine⟨λpins s σ H D I q=>?_⟩;have hh0:X.A.handled=none:=I.ok.hd hc;refine wpAny_Try_except ?_;have qb:=hb pins (λy s1=>wpAny (model X.prog X.w) X.A (noteFrame y X.env) (λ_ s2=>wpAny (model X.prog X.w) X.A (setFlight y none) (λ_ s3=>wpAny (model X.prog X.w) X.A (handleBy y X.env [.ExceptHandler (some (.Name x np)) (some nm) (b0::suite) hpos]) (SP X pins D) X.xe s3) X.xe s2) X.xe s1) _ rfl;refine Kt (qb.h [] s σ H D I.Gs (q _ ?_)) (λf s1 h1=>?_) (λy s1 h1=>h1)
 ·rintro cls d e σ' H' ⟨⟨C,rfl,rfl,hkC,hsub⟩,tr,hu⟩;intro pins' s' To I' fl nw;have hex':(vn X pins (λy s1=>wpAny (model X.prog X.w) X.A (noteFrame y X.env) (λ_ s2=>wpAny (model X.prog X.w) X.A (setFlight y none) (λ_ s3=>wpAny (model X.prog X.w) X.A (handleBy y X.env [.ExceptHandler (some (.Name x np)) (some nm) (b0::suite) hpos]) (SP X pins D) X.xe s3) X.xe s2) X.xe s1)).ex=[]:=hex;have hfr:X.A.frames=some (X.env::X.outer):=by rw[<- hst];exact I.ok.frames
  have hstk:=I'.stack;have hstk2:s'.heap.FunFrames X.base (X.env::X.outer):=by rw[<- hst];exact hstk
  refine p_ hfr hfm hstk2 fl λh2 T2 mv f2=>?_;rw[<- hst] at mv;obtain⟨I2,nw2⟩:=I'.moved hex' fl nw mv f2;have J2:Inv (Dp X e) pins σ' H' {s' with heap:=h2}:=I2.jz.He
  refine wpAny_handleBy_cons (codeAny_handlers_test (gR J2 hg hm ?_ hdb)) (by intro z;cases z)
  refine wI J2.fm hkC hkD f2.is hsub (codeAny_handlers_suite_as ?_);refine qu (base:=X.base) (l:=X.stack) (s:={s' with heap:=h2}) I2.stack f2 λh3 T3 mv3 f3=>?_
  obtain⟨I3,nw3⟩:=I2.moved (h':=h3) hex' f2 nw2 mv3 f3;have J3:Inv (Dp X e) pins σ' H' {s' with heap:=h3}:=I3.jz.He
  refine kQ (X:=Dp X e) (v:=.ref e) J3 hN hi (.inl hx) rfl (λs4 I4=>?_) (.inr hx);refine Kt ((hh e).h pins _ _ H' _ I4 hu) (λf s5 h5=>?_) (λ_ _ z=>z.elim);have h6:=SP.II hh0 hc h5
  cases f with
  |next =>
   obtain⟨σ1,H1,I6,q6⟩:=h6;exact name_goes I6 hN hi hkl λs7 I7=>⟨_,H1,I7,q6⟩
  |brk=>obtain⟨_,_,_,z⟩:=h6;exact z.elim
  |cont=>obtain⟨_,_,_,z⟩:=h6;exact z.elim
  |ret u=>obtain⟨_,_,_,_,_,z⟩:=h6;exact z.elim
 ·have h2:=SP.jz h1
  cases f with
  |next=>exact J9 h2
  |brk=>exact h2
  |cont=>exact h2
  |ret u=>exact h2
end Z
def CW(K:W.Frag)(y:V)(c:Value)(hy:∀u,RelV y u->u=c)(hK:X.K=K):aZ X (.builtin "isinstance") (CM K y c):=by subst hK;exact u_ hy
def HA(K:W.Frag)(ds:List Addr)(hK:X.K=K):aZ X (.builtin "isinstance") (Dh K ds):=by subst hK;exact vh
namespace Ap
def HP(te:TE)(t:TJ)(σ:St)(H:Hp)(Q:Hp->Prop):L2.HP te t σ H Q=te σ H λv H1=>∃i,v=.int i/\i.natAbs<2^1900/\t σ H1 Q:=rfl
def HL(t:TJ)(σ:St)(H:Hp)(Q:VK):L2.HL t σ H Q=t σ H λH'=>∀z:Str,z.length<=40000->Q (.str z) H':=rfl
def HV(Dx:wM)(C:Addr)(t:TA)(D:Ends)(σ:St)(H:Hp):L2.HV Dx C t D σ H=t σ H λvs H1=>vs.length<=sizeLine/\∀e,H1 e=none->Dx (.ref C) none e σ (upd H1 e (.ext (iN e (.ref C) none))):=rfl
def HI(Dx:wM)(C:Addr)(m:Str)(sp:Sp)(ta:TE)(t:TA)(σ:St)(H:Hp)(Q:VK):L2.HI Dx C m sp ta t σ H Q=ta σ H λx H1=>∃a dx fs,x=.ref a/\H1 a=some (.ins C dx fs)/\fs.lookup m=none/\t σ H1 λvs H2=>sp (x::vs) H2 Q (FI Dx σ H2):=rfl
end Ap
end L2
namespace G
local macro_rules|`(tactic|and_intros)=>`(tactic|exact ⟨rfl,rfl,rfl,by decide +kernel,rfl,by decide +kernel,by decide +kernel⟩)
open PySem L2 PySem.Spec PyProof.Rows
variable{L i j k t:Nat}{C C_NoRow a b dq dx f ia mo p x:Addr}{d:Int}{H H':Hp}{xs ys:List V}{as ex pl:List Addr}{ln:Nat->Nat}{sp ss ws z:List Nat}{ids ls:List Int}{α β:Type}{h:Heap}{g:Option Nat}{gs:List (Option Nat)}{K:W.Frag}{Q:VK}{q:Program}{es:List Expr}{σ:L2.St}{d_put_in d_take_out fd:FuncData}{mg:Str->Option Value}
noncomputable def top(i:Nat):Stmt:=PySem.Challenge.pw_shortrows_k39_kept_packed.main.body.getD i (.Pass ⟨0,0,0,0⟩)
abbrev BU:Stmt:=top 0
abbrev iZ:Stmt:=top 12
def sF:av ["row"] ["row"] (ae iZ):=by and_intros
abbrev gA:Stmt:=top 13
def oh:av ["row","goal"] ["row","goal"] (ae gA):=by and_intros
abbrev kq:Stmt:=top 15
def cq:av ["lengths","free","depth","left","length"] ["lengths"] (ae kq):=by and_intros
abbrev dj:Stmt:=top 17
def dR:av ["lengths","words","ahead","thing"] ["lengths"] (ae dj):=by and_intros
abbrev fe:Stmt:=top 18
def j_:av ["ahead","length"] ["ahead","length"] (ae fe):=by and_intros
abbrev dW:Stmt:=top 24
def jJ:av ["sizes","goals"] ["sizes","goals"] (ae dW):=by and_intros
abbrev cJ:Stmt:=top 25
def bt:av ["sizes","goals","widths","paper","row"] ["sizes","goals"] (ae cJ):=by and_intros
abbrev eX:Stmt:=top 26
def nV:av ["goals"] ["goals"] (ae eX):=by and_intros
abbrev cI:Stmt:=top 27
def bH:av ["sizes","goals","widths","starts","row","goal"] ["sizes","goals","widths"] (ae cI):=by and_intros
abbrev sE:Stmt:=top 28
def uD:av ["starts","goals","widths","row","half"] ["starts","goals","widths","row"] (ae sE):=by and_intros
abbrev ff:Stmt:=top 29
def lq:av ["starts","goals","row"] ["starts","goals","row"] (ae ff):=by and_intros
abbrev fT:Stmt:=top 30
def dn:av ["sizes","widths","starts","size","width"] ["sizes","widths"] (ae fT):=by and_intros
abbrev ij:Stmt:=top 31
def qW:av ["width"] ["width"] (ae ij):=by and_intros
abbrev e7:Stmt:=top 36
def cE:av ["row","things","kind","part"] ["row"] (ae e7):=by and_intros
abbrev fF:Stmt:=top 37
def pR:av ["book"] ["book"] (ae fF):=by and_intros
abbrev cK:Stmt:=top 38
def ba:av ["program","book","codes","firsts","sizes","goals","widths","starts","bits","row","first"] ["program","book"] (ae cK):=by and_intros
abbrev bD:Stmt:=top 39
def dc:av ["row","codes","bits"] ["row","codes"] (ae bD):=by and_intros
abbrev bT:Stmt:=top 40
def fw:av ["number"] ["number"] (ae bT):=by and_intros
abbrev e9:Stmt:=top 41
def jH:av ["width","distance"] ["width","distance"] (ae e9):=by and_intros
abbrev e8:Stmt:=top 42
def bC:av ["number","many","figures","left","turn"] ["number","many"] (ae e8):=by and_intros
abbrev aM:Stmt:=inClass (top 44) 0
def iS:av ["self","book"] ["self","book"] (ae aM):=by and_intros
abbrev bc:Stmt:=inClass (top 44) 1
def bA:av ["self","place","row","many","goal","moved"] ["self","place","row"] (ae bc):=by and_intros
abbrev a_:Stmt:=inClass (top 44) 2
def dh:av ["self","place","many"] ["self","place"] (ae a_):=by and_intros
abbrev aS:Stmt:=inClass (top 44) 3
def jC:av ["self"] ["self"] (ae aS):=by and_intros
abbrev b8:Stmt:=inClass (top 44) 4
def nK:av ["self"] ["self"] (ae b8):=by and_intros
abbrev aY:Stmt:=inClass (top 44) 5
def lL:av ["self"] ["self"] (ae aY):=by and_intros
abbrev dm:Stmt:=top 45
def lh:av ["rows","first","by"] ["rows","first","by"] (ae dm):=by and_intros
abbrev fO:Stmt:=top 46
def g_:av ["row","first","by","goal"] ["row","first","by"] (ae fO):=by and_intros
abbrev eL:Stmt:=top 48
def oI:av ["script"] ["script"] (ae eL):=by and_intros
abbrev hJ:Stmt:=top 49
def gu:av ["number","turn","one"] ["number","turn"] (ae hJ):=by and_intros
abbrev gv:Stmt:=top 50
def i7:av ["deck","most","number"] ["deck","most"] (ae gv):=by and_intros
abbrev fP:Stmt:=top 51
def mB:av [] [] (ae fP):=by and_intros
abbrev gy:Stmt:=top 52
def cR:av ["number","many","text","k"] ["number","many"] (ae gy):=by and_intros
abbrev eU:Stmt:=top 53
def bf:av ["lengths","found","number","size","length","thing","k"] ["lengths"] (ae eU):=by and_intros
abbrev dP:Stmt:=top 54
def bV:av ["deck","many","depths","k","deep","at"] ["deck","many"] (ae dP):=by and_intros
abbrev eR:Stmt:=top 55
def oq:av ["deck"] ["deck"] (ae eR):=by and_intros
abbrev e_:Stmt:=top 56
def d_:av ["deck","size","top"] ["deck"] (ae e_):=by and_intros
abbrev ib:Stmt:=top 57
def eW:av ["deck","goals","some","word","box"] ["deck","goals"] (ae ib):=by and_intros
abbrev dH:Stmt:=top 59
def m4:av ["program"] ["program"] (ae dH):=by and_intros
abbrev fK:Stmt:=top 60
def bW:av ["row","codes","text","part","size"] ["row","codes"] (ae fK):=by and_intros
abbrev fJ:Stmt:=top 61
def cz:av ["sizes","goals","widths","found","size","goal","width"] ["sizes","goals","widths"] (ae fJ):=by and_intros
abbrev fI:Stmt:=top 62
def bF:av ["sizes","goals","widths","turn","spots","k","half","far"] ["sizes","goals","widths"] (ae fI):=by and_intros
abbrev bX:Stmt:=top 63
def aG:av ["program","book","widths","codes","plain","goals","sizes","spots","bits","k","span","far"] ["program","book","widths"] (ae bX):=by and_intros
abbrev d4:Stmt:=top 64
def iw:av ["found","due"] ["found","due"] (ae d4):=by and_intros
abbrev eB:Stmt:=top 65
def eN:av ["deck","kept","model","ids","place","row","told"] ["deck","kept","model","ids"] (ae eB):=by and_intros
abbrev d5:Stmt:=top 66
def cu:av ["deck","kept","model","at","there","told","gone","one"] ["deck","kept","model"] (ae d5):=by and_intros
abbrev fD:Stmt:=top 67
def b_:av ["model","there","found","own","row","goal"] ["model"] (ae fD):=by and_intros
abbrev eO:Stmt:=top 68
def oQ:av ["deck","kept","model","ids"] ["deck","kept","model","ids"] (ae eO):=by and_intros
abbrev cT:Stmt:=top 69
def bp:av ["deck","kept","many","way","far","error","e"] ["deck","kept","many"] (ae cT):=by and_intros
abbrev dG:Stmt:=top 70
def cB:av ["kept","model","book","way","due","bits","spots","what"] ["kept","model","book","way"] (ae dG):=by and_intros
abbrev iu:Stmt:=top 71
def dB:av ["script","deck","book","books","kepts","models","ids","turn","at","way"] ["script"] (ae iu):=by and_intros
structure Txt (K:W.Frag) (mg:Str->Option Value):Prop where
 nM:mg "ValueError"=none
 GC:mg "abs"=none
 Dy:mg "bool"=none
 gj:mg "enumerate"=none
 yh:mg "int"=none
 bb:mg "isinstance"=none
 bG:mg "len"=none
 xJ:mg "list"=none
 As:mg "min"=none
 dz:mg "range"=none
 lV:mg "sorted"=none
 uL:mg "str"=none
 GO:mg "sum"=none
 cW:mg "tuple"=none
 uO:mg "zip"=none
 Cc:∃a,mg "BOXES"=some (.ref a)/\∀H,bq K H a [.str "a",.str "b",.str "c",.str "d",.str "e",.str "f",.str "g",.str "h"]
 zS:∃a,mg "HALVES"=some (.ref a)/\∀H,bq K H a [.int 8,.int 128,.int 32768]
 tM:∃a,mg "HEADS"=some (.ref a)/\∀H,bq K H a [.str "0",.str "10",.str "11"]
 sO:∃u,mg "OF_BOXES"=some u/\RelV (.int 2) u
 nX:∃u,mg "OF_CLASSES"=some u/\RelV (.int 1) u
 rp:∃u,mg "OF_WORDS"=some u/\RelV (.int 0) u
 zG:∃u,mg "WIDEST"=some u/\RelV (.int 2) u
 pV:∃a,mg "WIDTHS"=some (.ref a)/\∀H,bq K H a [.int 4,.int 8,.int 16]
 Bs:IE K mg "BOXES"
 qO:∃d,mg "SHAPES"=some (.ref d)/\mh K d [("put",["box","number"]),("add",["box","box"]),("sub",["box","box"]),("copy",["box","box"]),("tell",["box"]),("hear",["box"]),("jump",["goal"]),("zero",["box","goal"]),("halt",[])]
 mc:∃(C_Kept f___init__ f_put_in f_take_out f_program f_bits f_places:Addr) (d___init__ d_put_in d_take_out d_program d_bits d_places:FuncData),mg "Kept"=some (.ref C_Kept)/\j8 K C_Kept/\bQ K C_Kept "book"/\bQ K C_Kept "rows"/\Mk K C_Kept f___init__/\lZ K "__init__" "Kept.__init__" aM f___init__ d___init__/\Binds K d___init__ ["self","book"] []/\Meth K C_Kept "put_in" f_put_in/\lZ K "put_in" "Kept.put_in" bc f_put_in d_put_in/\Binds K d_put_in ["self","place","row"] []/\Meth K C_Kept "take_out" f_take_out/\lZ K "take_out" "Kept.take_out" a_ f_take_out d_take_out/\Binds K d_take_out ["self","place"] []/\Meth K C_Kept "program" f_program/\lZ K "program" "Kept.program" aS f_program d_program/\Binds K d_program ["self"] []/\Meth K C_Kept "bits" f_bits/\lZ K "bits" "Kept.bits" b8 f_bits d_bits/\Binds K d_bits ["self"] []/\Meth K C_Kept "places" f_places/\lZ K "places" "Kept.places" aY f_places d_places/\Binds K d_places ["self"] []
 xs:∃C_ShortError C_NoRow C_NoAsk C_NoBits C_NoCode C_NoProgram C_NoReach:Addr,mg "ShortError"=some (.ref C_ShortError)/\mg "NoRow"=some (.ref C_NoRow)/\mg "NoAsk"=some (.ref C_NoAsk)/\mg "NoBits"=some (.ref C_NoBits)/\mg "NoCode"=some (.ref C_NoCode)/\mg "NoProgram"=some (.ref C_NoProgram)/\mg "NoReach"=some (.ref C_NoReach)/\gE K C_ShortError/\gE K C_NoRow/\zz K C_NoRow/\W.mroIn K C_NoRow (.ref C_ShortError)=some true/\W.kitOne K (.ref C_NoRow) (.ref C_NoRow)=some true/\W.kitOne K (.ref C_NoRow) (.type "ValueError")=some true/\W.kitAny K (.ref C_NoRow) [(.ref C_NoAsk),(.ref C_NoBits),(.ref C_NoCode),(.ref C_NoProgram),(.ref C_NoReach)]=some false
 qk:tN K mg "code_of"
section
variable {P:Program} {w:World} {K:W.Frag} {mg:Str->Option Value} {base:Heap}
namespace Kr
noncomputable def ks(L:Nat):List Nat->Nat
 |[]=>0
 |l::r=>2^(L-l)+ks L r
theorem cp(L:Nat):∀a b,ks L (a++b)=ks L a+ks L b
 |[],b=>by simp[ks]
 |x::a,b=>by simp[ks,cp L a b];lia
def iz{a b:List Nat}(h:a.Perm b):ks L a=ks L b:=by
 induction h with
 |nil=>rfl
 |cons x _ ih=>simp[ks,ih]
 |swap x y l=>simp[ks];lia
 |trans _ _ h1 h2=>exact h1.trans h2
def wK{d l:Nat}(h:d<l)(hl:l<=L):2^(L-d)=2*2^(L-(d+1)):=by
 have:L-d=(L-(d+1))+1:=by lia
 rw[this,OA];lia
def fit:List Nat->Nat->Nat->Nat->Prop:=λr free depth L=>ks L r<=free*2^(L-depth)
theorem CL{L d:Nat}:∀{r:List Nat},(∀x∈r,d<=x)->ks L r<=r.length*2^(L-d)
 |[],_=>by simp[ks]
 |x::r,h=>by
  have ih:=CL (L:=L) (d:=d) (r:=r) λy hy=>h y (Jx _ hy);have hx:=h x J7;have:=Lp (n:=2) (by decide) (Nat.sub_le_sub_left hx L)
  simp only[ks,JE,My];lia
def Eu{x:Nat}{r:List Nat}:0<ks L (x::r):=by
 have:=Nat.pow_pos (n:=L-x) (show 0<2 by decide)
 simp only[ks];lia
def q_{r:List Nat}{free depth:Nat}(h:∀x∈r,depth<=x)(hf:r.length<=free):fit r free depth L:=
 JC (CL h) (Nat.mul_le_mul_right _ hf)
def sC{r:List Nat}{free depth l:Nat}(h:depth<l)(hl:l<=L):fit r free depth L ↔ fit r (free*2) (depth+1) L:=by
 unfold fit;rw[wK h hl,MG]
def Av{r:List Nat}{free l:Nat}(hf:0<free):fit (l::r) free l L ↔ fit r (free-1) l L:=by
 unfold fit;simp only[ks];obtain⟨f,rfl⟩:∃f,free=f+1:=⟨free-1,by lia⟩
 rw[Nj,My];lia
def zT{x:Nat}{r:List Nat}{depth L:Nat}:¬ fit (x::r) 0 depth L:=by
 unfold fit;have:=Eu (L:=L) (x:=x) (r:=r);lia
def E8(L:Nat)(done:List Nat)(need last:Int):Prop:=0<=need/\0<=last/\∀m:Nat,(need<=m ↔ ks L done<=m*2^(L-last.toNat))
def shr(n:Int)(g:Nat)(hn:0<=n)(m:Nat):(1-((0-n) / 2^g)<=(m:Int)) ↔ (1<=m/\n<=((m-1:Nat):Int)*2^g):=by
 have hp:(0:Int)<2^g:=Od (by decide)
 have h1:(1-((0-n) / 2^g)<=(m:Int)) ↔ (1-(m:Int))<=(0-n) / 2^g:=by lia
 rw[h1,Ob hp];constructor
 ·intro h;have hm:1<=m:=by
   rcases Nat.eq_zero_or_pos m with z|z
   ·subst z;simp at h;lia
   ·exact z
  refine⟨hm,?_⟩;have e:((m-1:Nat):Int)=(m:Int)-1:=by lia
  rw[e,Oe];rw[Oe] at h;lia
 ·rintro⟨hm,h⟩;have e:((m-1:Nat):Int)=(m:Int)-1:=by lia
  rw[e,Oe] at h;rw[Oe];lia
def E8.step{done:List Nat}{need last l:Int}(h:E8 L done need last)(h0:0<=l)(hl:l<=last)(hL:last<=L):
  E8 L (done++[l.toNat]) (1-((0-need) / 2^(last-l).toNat)) l:=by
 obtain⟨n0,l0,hm⟩:=h;refine⟨?_,h0,λm=>?_⟩
 ·have hp:(0:Int)<2^(last-l).toNat:=Od (by decide)
  have:(0-need) / 2^(last-l).toNat<=0:=Int.ediv_nonpos_of_nonpos_of_neg (by lia) hp
  lia
 ·rw[shr need _ n0 m,cp];simp only[ks];have e1:2^(L-l.toNat)=2^(last-l).toNat*2^(L-last.toNat):=by
   rw[<- Of];congr 1;lia
  have hpos:=Nat.pow_pos (n:=L-l.toNat) (show 0<2 by decide)
  constructor
  ·rintro⟨m1,h⟩;have h':need<=(((m-1)*2^(last-l).toNat:Nat):Int):=by
    rw[Int.natCast_mul,Int.natCast_pow];exact h
   have:=(hm _).mp h';rw[MG,<- e1] at this;obtain⟨k,rfl⟩:∃k,m=k+1:=⟨m-1,by lia⟩
   rw[Nj] at this;rw[My];exact Nat.add_le_add this (J8 _)
  ·intro h;have m1:1<=m:=by
    rcases Nat.eq_zero_or_pos m with z|z
    ·subst z;lia
    ·exact z
   refine⟨m1,?_⟩;have h':need<=(((m-1)*2^(last-l).toNat:Nat):Int):=by
    refine (hm _).mpr ?_;rw[MG,<- e1];obtain⟨k,rfl⟩:∃k,m=k+1:=⟨m-1,by lia⟩
    rw[Nj];rw[My] at h;exact Nat.le_of_add_le_add_right h
   rw[Int.natCast_mul,Int.natCast_pow] at h';exact h'
end Kr
def _root_.L2.KB.n(k:KB [] H H'){o:HO}(e:H b=some o):H' b=some o:=k b o e JO
def _root_.L2.cX(h:H a=none)(o:HO):KB [] H (upd H a o)/\upd H a o a=some o:=⟨KB.new h,aa⟩
noncomputable def iV(xs:List Int):List V:=xs.map V.int
def bL(xs:List Int):(iV xs).length=xs.length:=Jt ..
def fM(xs ys:List Int):iV (xs++ys)=iV xs++iV ys:=JN
def CB{xs:List Int}(h:i<xs.length):bI (iV xs) (i:Int)=some (.int xs[i]):=aU (by unfold iV;rw[J6,Jr h];rfl)
def kx{xs:List Int}{v:V}(h:(iV xs)[i]?=some v):∃hi:i<xs.length,v=.int xs[i]:=by
 unfold iV at h;rw[J6] at h
 cases e:xs[i]? with
 |none=>rw[e] at h;cases h
 |some x=>rw[e] at h;cases h;obtain⟨hi,rfl⟩:=Ju.mp e;exact⟨hi,rfl⟩
def EC(xs:List Int)(i:Nat)(x:Int):(iV xs).set i (.int x)=iV (xs.set i x):=by unfold iV;rw[LP]
def Fv(h:(i:Int)<(xs.length:Nat)):∃t,t∈xs/\bI xs (i:Int)=some t:=by
 have hn:i<xs.length:=by lia
 exact⟨xs[i],JM hn,aU (Jr hn)⟩
def Ds(k:KB ex H H')(hx:∀b∈ex,∃ys,H b=some (.lst ys))(h:H a=some (.tup xs)):H' a=some (.tup xs):=k _ _ h λz=>by
 obtain⟨ys,e⟩:=hx a z;rw[h] at e;cases e
def j6(ls:List Int):Prop:=0<ls.length/\ls.length<=20/\∀x∈ls,1<=x/\x<=20
def KS(ls:List Int):Nat:=Kr.ks 40 (ls.map Int.toNat)
def oi(ls:List Int):Bool:=decide (KS ls<=2^40)
namespace Cw
noncomputable def inc:List Nat->List Nat
 |[]=>[]
 |c::r=>if r.all (· == 49) then (if c=48 then 49::r.map (λ_=>48) else 48::r.map (λ_=>48)) else c::inc r
noncomputable def pad(n:Nat)(w:List Nat):List Nat:=w++List.replicate (n-w.length) 48
def fo(w:List Nat)(n:Nat):List Nat:=pad n (inc w)
def fX(w:List Nat)(n:Nat):List Nat:=pad n ((w.reverse.dropWhile (· == 49)).reverse.dropLast++[49])
theorem Ga:∀w:List Nat,w.all (· == 49)=true->inc w=w.map λ_=>48
 |[],_=>rfl
 |c::r,h=>by
  rw[Lu,K8] at h;have hc:c=49:=Mh.mp h.1;unfold inc;rw[JA h.2,Jy (by rw[hc];decide),Ke]
theorem nS:∀{l:List Nat},l.all (· == 49)=true->l=List.replicate l.length 49
 |[],_=>rfl
 |c::r,h=>by
  rw[Lu,K8] at h;have hc:c=49:=Mh.mp h.1;rw[JE,Kk,<- nS h.2,hc]
def C1(k:Nat):(List.replicate k 49).all (· == 49)=true:=by
 rw[List.all_eq_true];intro x hx;rw[(K6.mp hx).2];rfl
theorem parts:∀{w:List Nat},(∀c∈w,c=48\/c=49)->w.all (· == 49)=false->∃p k,w=p++48::List.replicate k 49
 |[],_,h=>by cases h
 |c::r,hb,h=>by
  by_cases z:r.all (· == 49)=true
  ·rw[Lu,z,Bool.and_true] at h;have hc:c=48:=(hb c J7).resolve_right λe=>by rw[e] at h;cases h
   exact⟨[],r.length,by rw[hc,Le,<- nS z]⟩
  ·obtain⟨p,k,e⟩:=parts (w:=r) (λx hx=>hb x (Jx _ hx)) (by simpa using z)
   exact⟨c::p,k,by rw[e];rfl⟩
theorem gP(k:Nat):∀p:List Nat,inc (p++48::List.replicate k 49)=p++49::List.replicate k 48
 |[]=>by
  rw[Le,Le];unfold inc;rw[JA (C1 k),JA rfl,Nk]
 |c::p=>by
  rw[KN];unfold inc;have z:¬ (p++48::List.replicate k 49).all (· == 49)=true:=by
   rw[List.all_append,Lu];simp
  rw[Jy z,gP k p];rfl
def sy(k:Nat)(p:List Nat):((p++48::List.replicate k 49).reverse.dropWhile (· == 49)).reverse=p++[48]:=by
 rw[Na,List.reverse_cons,List.reverse_replicate];have e:∀(k:Nat) (t:List Nat),(List.replicate k 49++[48]++t).dropWhile (· == 49)=[48]++t:=λk t=>by
  induction k with
  |zero=>rfl
  |succ k ih=>rw[Kk,KN,KN,M_,JA (by decide)];exact ih
 rw[e,Na,MV];rfl
def mU{w:List Nat}{n:Nat}(hb:∀c∈w,c=48\/c=49)(h:w.all (· == 49)=false)(hn:w.length<=n):fX w n=fo w n:=by
 obtain⟨p,k,rfl⟩:=parts hb h;unfold fX fo pad;rw[sy,gP,List.dropLast_append_of_ne_nil (by simp)]
 rw[Jv,JE,JI] at hn;simp only[List.dropLast_singleton,Ks,Jv,JE,JI,KW,JQ,KN,Le];congr 2;rw[List.replicate_append_replicate];congr 1;lia
noncomputable def val:List Nat->Nat
 |[]=>0
 |c::r=>(c-48)*2^r.length+val r
theorem iB:∀a b:List Nat,val (a++b)=val a*2^b.length+val b
 |[],b=>by simp[val]
 |c::a,b=>by
  rw[KN,val,val,iB a b,Jv,Of,Nat.add_mul,MG,Nr]
theorem f9:∀k,val (List.replicate k 48)=0
 |0=>rfl
 |k+1=>by rw[Kk,val,f9 k];simp
theorem lM:∀k,val (List.replicate k 49)+1=2^k
 |0=>rfl
 |k+1=>by
  have:=lM k;rw[Kk,val,JI,OA];lia
theorem oZ:∀w:List Nat,(inc w).length=w.length
 |[]=>rfl
 |c::r=>by
  unfold inc;split
  ·split<;>simp
  ·rw[JE,JE,oZ r]
theorem qi:∀{w:List Nat},(∀c∈w,c=48\/c=49)->∀c∈inc w,c=48\/c=49
 |[],_,_,h=>by cases h
 |d::r,hb,c,h=>by
  unfold inc at h
  split at h
  ·split at h
   ·rcases Jw.mp h with h|h
    ·exact .inr h
    ·obtain⟨_,_,e⟩:=Kg.mp h;exact .inl e.symm
   ·rcases Jw.mp h with h|h
    ·exact .inl h
    ·obtain⟨_,_,e⟩:=Kg.mp h;exact .inl e.symm
  ·rcases Jw.mp h with h|h
   ·rw[h];exact hb d J7
   ·exact qi (λx hx=>hb x (Jx _ hx)) c h
def dY{w:List Nat}{n:Nat}(h:w.length<=n):(fo w n).length=n:=by
 unfold fo pad;rw[Jv,JI,oZ];lia
def mH{w:List Nat}{n:Nat}(hb:∀c∈w,c=48\/c=49):∀c∈fo w n,c=48\/c=49:=λc h=>by
 rcases Ki.mp h with h|h
 ·exact qi hb c h
 ·exact .inl (K6.mp h).2
def pP{w:List Nat}{n:Nat}(hb:∀c∈w,c=48\/c=49)(h:w.all (· == 49)=false):val (fo w n)=(val w+1)*2^(n-w.length):=by
 unfold fo pad;rw[iB,f9,JI,oZ,Nat.add_zero];congr 1;obtain⟨p,k,rfl⟩:=parts hb h;have:=lM k;rw[gP,iB,iB,val,val,f9,JE,JE,JI,JI];lia
def xI{w:List Nat}(h:w.all (· == 49)=true):val w+1=2^w.length:=by
 rw[nS h,JI];exact lM _
structure ig (done:List Nat) (w:List Nat):Prop where
 bits:∀c∈w,c=48\/c=49
 len:w.length<=40
 sum:(val w+1)*2^(40-w.length)=Kr.ks 40 done
def ig.zero{done rest w:List Nat}{l:Nat}(h:ig done w)(hk:Kr.ks 40 done+2^(40-l)<=2^40):w.all (· == 49)=false:=by
 cases z:w.all (· == 49) with
 |false=>rfl
 |true =>
  have e:=h.sum;rw[xI z,<- Of,Nat.add_sub_cancel' h.len] at e;have:0<2^(40-l):=Nat.pow_pos (by decide)
  lia
def ig.next{done w:List Nat}{l:Nat}(h:ig done w)(hl:w.length<=l)(hl2:l<=40)(hk:Kr.ks 40 done+2^(40-l)<=2^40):ig (done++[l]) (fo w l):=by
 have z:=h.zero (rest:=[]) hk;refine⟨mH h.bits,by rw[dY hl];exact hl2,?_⟩
 rw[pP h.bits z,dY hl,Nat.add_mul,MG,<- Of,Kr.cp,<- h.sum];have e:l-w.length+(40-l)=40-w.length:=by lia
 rw[e];simp[Kr.ks]
def ig.first{l:Nat}(hl:l<=40):ig [l] (List.replicate l 48):=⟨λc h=>.inl (K6.mp h).2,by rw[JI];exact hl,by rw[f9,JI];simp[Kr.ks]⟩
noncomputable def along(nx:List Nat->Nat->List Nat)(ln:Nat->Nat):List Nat->Option (List Nat)×List (List Nat)->Option (List Nat)×List (List Nat)
 |[],s=>s
 |t::r,(a,ws) =>
  let w:=match a with|none=>List.replicate (ln t) 48|some v=>nx v (ln t)
  along nx ln r (some w,ws.set t w)
theorem ie:∀(order done:List Nat) (a:Option (List Nat)) (ws:List (List Nat)),(order.Pairwise λi j=>ln i<=ln j)->(∀t∈order,ln t<=40)->(∀v,a=some v->ig done v/\∀t∈order,v.length<=ln t)->(a=none->done=[])->Kr.ks 40 (done++order.map ln)<=2^40->along fX ln order (a,ws)=along fo ln order (a,ws)
 |[],_,_,_,_,_,_,_,_=>rfl
 |t::r,done,a,ws,hp,h20,ha,hn,hk=>by
  obtain⟨p1,p2⟩:=Kc.mp hp;have ht:=h20 t J7;have hk':Kr.ks 40 ((done++[ln t])++r.map ln)<=2^40:=by rw[JQ];exact hk
  cases a with
  |none =>
   have:=hn rfl;subst this;exact ie r [ln t] _ _ p2 (λx hx=>h20 x (Jx _ hx)) (λv e=>by cases e;exact⟨ig.first ht,λx hx=>by rw[JI];exact p1 x hx⟩) (λe=>by cases e) hk'
  |some v =>
   obtain⟨hv,hl⟩:=ha v rfl;have hvl:=hl t J7;have hk2:Kr.ks 40 done+2^(40-ln t)<=2^40:=by
    rw[Kr.cp,Kr.cp] at hk';simp[Kr.ks] at hk';lia
   have e:=mU hv.bits (hv.zero (rest:=[]) hk2) hvl;show along fX ln r (some (fX v (ln t)),ws.set t (fX v (ln t)))=along fo ln r (some (fo v (ln t)),ws.set t (fo v (ln t)));rw[e];exact ie r (done++[ln t]) _ _ p2 (λx hx=>h20 x (Jx _ hx)) (λu e=>by cases e;exact⟨hv.next hvl ht hk2,λx hx=>by rw[dY hvl];exact p1 x hx⟩) (λe=>by cases e) hk'
theorem fR{nx:List Nat->Nat->List Nat}:∀(a b:List Nat) (s:Option (List Nat)×List (List Nat)),along nx ln (a++b) s=along nx ln b (along nx ln a s)
 |[],_,_=>rfl
 |t::r,b,(a,ws)=>fR r b _
theorem gM{nx:List Nat->Nat->List Nat}:∀(o:List Nat) (s:Option (List Nat)×List (List Nat)),(along nx ln o s).2.length=s.2.length
 |[],_=>rfl
 |t::r,(a,ws)=>(gM r _).trans Lm
end Cw
local macro_rules | `(tactic| walk_at "lc") => `(tactic| first | exact Or.inl rfl | exact Or.inr rfl)
local macro_rules | `(tactic| wp_walk using $ts,*) => do
  let ids := ("Nat.reduceAdd Nat.reduceSub L2.Ap.sP L2.Ap.tC L2.Ap.wQ L2.Ap.Hy L2.Ap.lj L2.Ap.Gd L2.Ap.yO L2.Ap.Hq L2.Ap.yN L2.Ap.qR L2.Ap.hX L2.Ap.j9 L2.Ap.tK L2.Ap.Bw L2.Ap.pG L2.Ap.jt L2.Ap.xB L2.Ap.zA L2.Ap.gY L2.Ap.BO L2.Ap.EI L2.Ap.yC L2.Ap.Gx L2.Ap.iI L2.Ap.qj L2.Ap.uU L2.Ap.lP L2.Ap.aT L2.Ap.xM L2.Ap.nH L2.Ap.zI L2.Ap.pT L2.Ap.oR L2.Ap.p6 L2.Ap.mQ L2.Ap.zv L2.Ap.qa BA zi L2.Ap.rI L2.Ap.Ag L2.Ap.rU L2.Ap.GQ L2.Ap.Hf L2.Ap.addRef L2.Ap.Gz L2.Ap.Iv L2.Ap.Iz L2.Ap.IL L2.Ap.Ia L2.Ap.Gv L2.Ap.GK L2.Ap.setRef L2.Ap.Ey L2.Ap.EN L2.Ap.Hr L2.Ap.HX L2.Ap.Ij L2.Ap.E2 L2.Ap.GG L2.Ap.F_ L2.Ap.Ir L2.Ap.E6 L2.Ap.BG L2.Ap.AL L2.Ap.Jf L2.start rf Hj GL IP Ei List.map_cons List.map_nil List.length_cons List.length_nil List.replicate List.cons_append List.nil_append List.append_nil List.getElem?_cons_zero List.getElem?_cons_succ List.set_cons_zero List.set_cons_succ Option.some.injEq exists_eq_left exists_eq_left' V.int.injEq V.str.injEq V.bl.injEq V.ref.injEq List.cons.injEq and_true true_and decide_eq_true_eq Bool.not_eq_true' decide_eq_false_iff_not Bool.false_eq_true L2.Ap.yg L2.Ap.pE L2.Ap.qI L2.Ap.xf L2.Ap.xZ L2.Ap.lS L2.Ap.kR L2.Ap.HP L2.Ap.HL L2.Ap.HV L2.Ap.HI".splitOn " ").toArray.map λn => Lean.mkIdent n.toName
  `(tactic| simp only [↓reduceIte, $[$ids:ident],*, $[$ts:term],*])
local macro_rules | `(tactic| nofun) => `(tactic| wp_walk using and_self)
local macro_rules|`(tactic|rfl')=>`(tactic|wp_walk using and_self)
local macro_rules|`(tactic|symm)=>do
  let n:=Lean.mkIdent `N
  let h:=Lean.mkIdent `hN
  `(tactic|(refine $h _ ?_;clear $h $n;refine au λ$n $h=>?_))
local macro_rules|`(tactic|ac_rfl)=>do
  let n:=Lean.mkIdent `N
  let h:=Lean.mkIdent `hN
  `(tactic|(refine $h _ ?_;clear $h $n))
local macro_rules|`(tactic|right)=>`(tactic|walk_at "lc")
local macro_rules|`(tactic|exists $ts,*)=>`(tactic|wp_walk using $ts,*)
local macro_rules|`(tactic|left)=>do
  let i:=#[`args,`Qt,`hl,`h,`f,`cdv,`A,`outer,`s,`H,`E,`hr].map Lean.mkIdent
  let u:=Lean.mkIdent `hu
  `(tactic|(intro $[$i:ident]*;have $u:ident:=aI $(Lean.mkIdent `hr)))
noncomputable def wd(w:List Nat):Str:=⟨w.toArray⟩
def bu(w:List Nat):(wd w).length=w.length:=JD ..
def C8{x:Str}{w:List Nat}(h:x.cps.toList=w):x=wd w:=by
 cases x with|mk a=>subst h;unfold wd;rw[Mm]
def GI:Sp:=λvs H Q _=>∃n:Nat,n<=40/\((vs=[.aL,.int (n:Int)]/\Q (.str (wd (List.replicate n 48))) H)\/∃w,vs=[.str (wd w),.int (n:Int)]/\w.length<=40/\Q (.str (wd (Cw.fX w n))) H)
theorem wk(T:Txt K mg)(F:HasFn K mg "word_behind" fe ["ahead","length"]):ao P w K mg base aN 1 "word_behind" ["ahead","length"] GI:=by
 refine F.eZ j_ (λvs H Q E h=>?_) (λf cdv A outer s H vs Q E hr h=>?_)
 ·obtain⟨n,hn,⟨rfl,_⟩|⟨_,rfl,_⟩⟩:=h<;>rfl
 ·have hu:=aI hr;obtain⟨n,hn,h⟩:=h;rcases h with ⟨rfl,q⟩|⟨v,rfl,hv,q⟩
  ·refine⟨_,(Z.aq (Z.cZ (Z.aR fE (Z.v 0) Z.aL) (Z.ax (Z.ret (Z.op Y.tZ Z.str (Z.v 1)))) Z.b9)
   (Z.ax (Z.ret (Z.bm K rfl PySem.F.plainAttrs_str PySem.F.slot_str_ljust PySem.F.type_str_ljust Y.qy (Z.op (Z.aE K rfl) (Z.slice Y.rR (Z.bm K rfl PySem.F.plainAttrs_str PySem.F.slot_str_rstrip PySem.F.type_str_rstrip Y.mJ (Z.v 0) (Z.cons Z.str Z.nil)) Z.nY (Z.oY (Z.un bM Z.int))) Z.str) (Z.cons (Z.v 1) (Z.cons Z.str Z.nil)))))),?_⟩
   refine au λN hN=>?_;nofun;refine⟨48,_,rfl,rfl,by lia,by lia,?_⟩
   rw[JW];exact q
  ·refine⟨_,(Z.aq (Z.cZ (Z.aR fE (Z.v 0) Z.aL) (Z.ax (Z.ret (Z.op Y.tZ Z.str (Z.v 1)))) Z.b9)
   (Z.ax (Z.ret (Z.bm K rfl PySem.F.plainAttrs_str PySem.F.slot_str_ljust PySem.F.type_str_ljust Y.qy (Z.op (Z.aE K rfl) (Z.slice Y.rR (Z.bm K rfl PySem.F.plainAttrs_str PySem.F.slot_str_rstrip PySem.F.type_str_rstrip Y.mJ (Z.v 0) (Z.cons Z.str Z.nil)) Z.nY (Z.oY (Z.un bM Z.int))) Z.str) (Z.cons (Z.v 1) (Z.cons Z.str Z.nil)))))),?_⟩
   refine au λN hN=>?_;nofun;subst hN;nofun;rw[Jy V.noConfusion];refine⟨rfl,wd v,_,rfl,rfl,by rw[bu];exact JC hv (by decide),?_⟩
   have e0:(Str.ofString "1").cps.contains=λc:Nat=>c == 49:=by
    funext c
    show (#[49]:Array Nat).contains c=_;rw[Array.contains_eq_any_beq];simp
   have e1:=qw (wd v) (Str.ofString "1");rw[e0] at e1;have e2:(Txt.rstripChars (wd v) (Str.ofString "1")).cps.toList=(v.reverse.dropWhile (· == 49)).reverse:=by
    rw[<- MV (Txt.rstripChars (wd v) (Str.ofString "1")).cps.toList,e1];rfl
   generalize Txt.rstripChars (wd v) (Str.ofString "1")=r at e2 ⊢;have hr2:r.length<=40:=by
    have:r.length=r.cps.toList.length:=by rw[Kj];rfl
    rw[this,e2,LQ];exact JC (Og _).length_le (by rw[LQ];exact hv)
   have e3:(Y.j7 r none (some (-1))).cps.toList=r.cps.toList.dropLast:=by
    show (Y.yT r.cps.toList none (some (-1))).toArray.toList=_;rw[Nb];unfold Y.yT;rw[HT.cS,KD,Me,Ox];congr 1;show (if (-1:Int)<0 then ((-1:Int)+(r.cps.toList.length:Int)).toNat else min (-1:Int).toNat r.cps.toList.length)=_
    rw[JA (by decide)]
    lia
   have hl3:(Y.j7 r none (some (-1))).length<=40:=by
    have:(Y.j7 r none (some (-1))).length=(Y.j7 r none (some (-1))).cps.toList.length:=by rw[Kj];rfl
    rw[this,e3,List.length_dropLast,Kj];exact JC (Nat.sub_le _ _) hr2
   refine⟨r,rfl,JC hr2 (by decide),?_⟩
   refine⟨JC (show _<=41 from Nat.add_le_add_right hl3 1) (by decide),rfl,_,(n:Int),_,rfl,rfl,by lia,by lia,rfl,?_⟩
   have e4:Txt.ljustF (Y.j7 r none (some (-1))++Str.ofString "1") (n:Int) ((Str.ofString "0").cps.getD 0 0)=wd (Cw.fX v n):=by
    refine C8 ?_;rw[PyProof.Rows.ljustF_list,JW];have e5:(Y.j7 r none (some (-1))++Str.ofString "1").cps.toList=(v.reverse.dropWhile (· == 49)).reverse.dropLast++[49]:=by
     show ((Y.j7 r none (some (-1))).cps++#[49]).toList=_;rw[Mp,e3,e2]
    have e6:(Y.j7 r none (some (-1))++Str.ofString "1").length=((v.reverse.dropWhile (· == 49)).reverse.dropLast++[49]).length:=by
     rw[<- e5,Kj];rfl
    rw[e5,e6];rfl
   rw[e4];exact q
noncomputable def HQ(ws:List (List Nat))(z:List Nat)(p:Nat):Option Nat:=(List.range ws.length).find? λi=>decide (ws.getD i [] <+: z.drop p)
def Aa{ws:List (List Nat)}{p:Nat}(h:HQ ws z p=some t):t<ws.length/\ws.getD t [] <+: z.drop p:=by
 have h1:=N5 h;have h2:=NS h;exact⟨Lc.mp h1,K1 h2⟩
def xx{ws:List (List Nat)}{p:Nat}(h:HQ ws z p=none)(ht:t<ws.length):¬ ws.getD t [] <+: z.drop p:=λhp=>by
 have:=List.find?_eq_none.mp h t (Lc.mpr ht);exact this (Kl hp)
structure Pf (ws:List (List Nat)):Prop where
 ne:∀w∈ws,w≠[]
 pre:∀(i j:Nat) (hi:i<ws.length) (hj:j<ws.length),i≠j->¬ ws[i] <+: ws[j]
def Pf.th{ws:List (List Nat)}{p:Nat}(h:Pf ws)(ht:t<ws.length)(hp:ws.getD t [] <+: z.drop p):HQ ws z p=some t:=by
 cases c:HQ ws z p with
 |none=>exact absurd hp (xx c ht)
 |some i =>
  obtain⟨hi,hpi⟩:=Aa c;by_cases e:i=t
  ·rw[e]
  ·have g:∀{k:Nat} (hk:k<ws.length),ws.getD k []=ws[k]:=λhk=>by rw[Jz,Jr hk];rfl
   rw[g hi] at hpi;rw[g ht] at hp;rcases List.prefix_or_prefix_of_prefix hpi hp with q|q
   ·exact absurd q (h.pre i t hi ht e)
   ·exact absurd q (h.pre t i ht hi (KA e))
def wV(ws:List (List Nat)):List V:=ws.map λw=>.str (wd w)
noncomputable def AB:Option Nat->V
 |none=>.aL
 |some t=>.int (t:Int)
def Ay(z:List Nat):Prop:=∀c∈z,c=48\/c=49
def Ay.cut(h:Ay z)(a n:Nat):Ay ((z.drop a).take n):=λc hc=>h c (LL (Lo hc))
noncomputable def eA:Nat->List Nat
 |0=>[48]
 |1=>[49,48]
 |_=>[49,49]
noncomputable def d6:Nat->Nat
 |0=>4
 |1=>8
 |_=>16
noncomputable def dF(k:Nat):Int:=if k=0 then 8 else if k=1 then 128 else 32768
def mD(h:k<3):k=0\/k=1\/k=2:=by lia
def IJ(u:_root_.Fin 2):u=0\/u=1:=by revert u;decide
def yv(u:_root_.Fin 3):u=0\/u=1\/u=2:=by revert u;decide
def I_{b:Nat}(h:b<8):b=0\/b=1\/b=2\/b=3\/b=4\/b=5\/b=6\/b=7:=by lia
inductive Row where
 |put (b n:Nat)|two (w:Fin 3) (a b:Nat)|one (w:Fin 2) (b:Nat)|jump (g:Nat)|zero (b g:Nat)|halt
 deriving DecidableEq
noncomputable def eF(i:Nat):Str:=⟨#[97+i]⟩
noncomputable def w2:Fin 3->Str
 |0=>"add"
 |1=>"sub"
 |2=>"copy"
noncomputable def w1:Fin 2->Str
 |0=>"tell"
 |1=>"hear"
inductive HG where
 |s (z:Str)|n (k:Nat)
noncomputable def Row.ps:Row->List HG
 |.put b n=>[.s "put",.s (eF b),.n n]
 |.two w a b=>[.s (w2 w),.s (eF a),.s (eF b)]
 |.one w b=>[.s (w1 w),.s (eF b)]
 |.jump g=>[.s "jump",.n g]
 |.zero b g=>[.s "zero",.s (eF b),.n g]
 |.halt=>[.s "halt"]
def Row.Ok(size:Nat):Row->Prop
 |.put b n=>b<8/\n<65536
 |.two _ a b=>a<8/\b<8
 |.one _ b=>b<8
 |.jump g=>g<=size
 |.zero b g=>b<8/\g<=size
 |.halt=>True
def Row.Ok.mono{a b:Nat}{r:Row}(h:r.Ok a)(hm:a<=b):r.Ok b:=by
 cases r<;>simp only[Row.Ok] at h ⊢<;>lia
def Dm{k:Int}(h0:0<=k)(h1:k<8):bI (Str.ofString "abcdefgh").cps.toList k=some (97+k.toNat):=by
 have e:(Str.ofString "abcdefgh").cps.toList=[97,98,99,100,101,102,103,104]:=by decide +kernel
 rw[e];obtain⟨n,rfl⟩:∃n:Nat,k=n:=⟨k.toNat,by lia⟩
 unfold bI iY;have hn:n<8:=by lia
 rw[JA (by lia),JA (by simp;lia)]
 show [97,98,99,100,101,102,103,104][((n:Nat):Int).toNat]?=some (97+((n:Nat):Int).toNat);rw[JW];rcases I_ hn with rfl|rfl|rfl|rfl|rfl|rfl|rfl|rfl<;>rfl
noncomputable def aO(ls:List Int)(t:Nat):Nat:=(ls.getD t 0).toNat
def aC(ls:List Int):List Nat:=jF ls (List.range ls.length)
def wordsOf(nx:List Nat->Nat->List Nat)(ls:List Int):List (List Nat):=(Cw.along nx (aO ls) (aC ls) (none,List.replicate ls.length [])).2
def fQ(ls:List Int)(done:List Nat):Option (List Nat)×List (List Nat):=Cw.along Cw.fX (aO ls) done (none,List.replicate ls.length [])
def uk{v:List Nat}{n:Nat}(hv:v.length<=40)(hn:n<=40):(Cw.fX v n).length<=40:=by
 have h1:((v.reverse.dropWhile (· == 49)).reverse.dropLast).length<=39:=by
  rw[List.length_dropLast,LQ];have:=(Og (· == 49) (l:=v.reverse)).length_le;rw[LQ] at this;lia
 unfold Cw.fX Cw.pad;rw[Jv,JI,Jv,LD];lia
def iA(h:t∈aC ls):t<ls.length:=Lc.mp ((lB (by rw[Kh])).mem_iff.mp h)
def DR(ls:List Int)(done:List Nat):(fQ ls done).2.length=ls.length:=by
 unfold fQ;rw[Cw.gM,JI]
namespace Cw
def Dv(a b:List Nat):Prop:=∃u,u++[48] <+: a/\u++[49] <+: b
def p5{u v:List Nat}{c d:Nat}{b:List Nat}(h1:u++[c] <+: b)(h2:v++[d] <+: b)(hl:u.length<v.length):u++[c] <+: v:=by
 have h3:v <+: b:=(Nl v [d]).trans h2;exact LR h1 h3 (by rw[Jv];exact hl)
def Dv.trans{a b c:List Nat}(h:Dv a b)(g:Dv b c):Dv a c:=by
 obtain⟨u,h1,h2⟩:=h;obtain⟨v,g1,g2⟩:=g;rcases Ny u.length v.length with e|e|e
 ·exact⟨u,h1,(p5 h2 g1 e).trans ((Nl v [49]).trans g2)⟩
 ·have p1:(u++[49]).length=(v++[48]).length:=by rw[Jv,Jv,e];rfl
  have p2:u++[49]=v++[48]:=(LR h2 g1 (by lia)).eq_of_length p1
  have p3:[49]=[48]:=(List.append_inj' p2 rfl).2;exact absurd p3 (by decide)
 ·exact⟨v,(p5 g1 h2 e).trans ((Nl u [48]).trans h1),g2⟩
def Dv.not{a b:List Nat}(h:Dv a b):¬ a <+: b/\¬ b <+: a:=by
 obtain⟨u,h1,h2⟩:=h;have key:∀c,u++[48] <+: c->u++[49] <+: c->False:=λc p q=>by
  have e:u++[48]=u++[49]:=(LR p q (by simp)).eq_of_length (by simp)
  exact absurd (List.append_cancel_left e) (by decide)
 exact⟨λp=>key b (h1.trans p) h2,λp=>key a h1 (h2.trans p)⟩
def Dv.lt{a b:List Nat}(h:Dv a b):a<b:=by
 obtain⟨u,⟨x,rfl⟩,⟨y,rfl⟩⟩:=h
 induction u with
 |nil=>exact List.Lex.rel (by decide)
 |cons c u ih=>exact List.Lex.cons ih
def Bn{w:List Nat}{n:Nat}(hb:∀c∈w,c=48\/c=49)(h:w.all (· == 49)=false):Dv w (fo w n):=by
 obtain⟨p,k,rfl⟩:=parts hb h;unfold fo pad;rw[gP];exact⟨p,⟨List.replicate k 49,by simp⟩,⟨List.replicate k 48++List.replicate (n-(p++49::List.replicate k 48).length) 48,by simp⟩⟩
def l_(ln:Nat->Nat)(a:Option (List Nat))(t:Nat):List Nat:=match a with
 |none=>List.replicate (ln t) 48
 |some v=>fX v (ln t)
def lK(ln:Nat->Nat):Option (List Nat)->List Nat->List (List Nat)
 |_,[]=>[]
 |a,t::r=>l_ ln a t::lK ln (some (l_ ln a t)) r
theorem zJ:∀(order done:List Nat) (a:Option (List Nat)),(order.Pairwise λi j=>ln i<=ln j)->(∀t∈order,ln t<=40)->(∀v,a=some v->ig done v/\∀t∈order,v.length<=ln t)->(a=none->done=[])->Kr.ks 40 (done++order.map ln)<=2^40 ->
  (∀v,a=some v->∀x∈lK ln a order,Dv v x)/\(lK ln a order).Pairwise Dv/\∀(i t:Nat),order[i]?=some t->∃w,(lK ln a order)[i]?=some w/\w.length=ln t
 |[],_,_,_,_,_,_,_=>⟨λ_ _ x hx=>(by cases hx),List.Pairwise.nil,λi t e=>(by cases e)⟩
 |t::r,done,a,hp,h40,ha,hn,hk=>by
  obtain⟨p1,p2⟩:=Kc.mp hp;have ht:=h40 t J7;have hk':Kr.ks 40 ((done++[ln t])++r.map ln)<=2^40:=by rw[JQ];exact hk
  have fin:∀w:List Nat,w=l_ ln a t->ig (done++[ln t]) w->w.length=ln t->(∀v,a=some v->Dv v w) ->
    (∀v,a=some v->∀x∈lK ln a (t::r),Dv v x)/\(lK ln a (t::r)).Pairwise Dv/\∀(i s:Nat),(t::r)[i]?=some s->∃w,(lK ln a (t::r))[i]?=some w/\w.length=ln s:=λw ew hH hl hd=>by
   obtain⟨q1,q2,q3⟩:=zJ r (done++[ln t]) (some w) p2 (λx hx=>h40 x (Jx _ hx)) (λv e=>by cases e;exact⟨hH,λx hx=>by rw[hl];exact p1 x hx⟩) (λe=>by cases e) hk'
   have es:lK ln a (t::r)=w::lK ln (some w) r:=by rw[ew];rfl
   rw[es];refine⟨λv e x hx=>?_,Kc.mpr ⟨λx hx=>q1 w rfl x hx,q2⟩,λi s e=>?_⟩
   ·rcases Jw.mp hx with rfl|hx
    ·exact hd v e
    ·exact (hd v e).trans (q1 w rfl x hx)
   ·cases i with
    |zero=>cases e;exact⟨w,rfl,hl⟩
    |succ i=>exact q3 i s (by simpa using e)
  cases a with
  |none =>
   have:=hn rfl;subst this;exact fin _ rfl (ig.first ht) (show (List.replicate (ln t) 48).length=ln t by rw[JI]) (λv e=>by cases e)
  |some v =>
   obtain⟨hv,hl⟩:=ha v rfl;have hvl:=hl t J7;have hk2:Kr.ks 40 done+2^(40-ln t)<=2^40:=by
    rw[Kr.cp,Kr.cp] at hk';simp[Kr.ks] at hk'
    omega
   have z:=hv.zero (rest:=[]) hk2;have e:=mU hv.bits z hvl;refine fin _ rfl ?_ ?_ ?_
   ·show ig _ (fX v (ln t));rw[e];exact hv.next hvl ht hk2
   ·show (fX v (ln t)).length=_;rw[e];exact dY hvl
   ·intro u eu;cases eu;show Dv v (fX v (ln t));rw[e];exact Bn hv.bits z
theorem pA:∀(order:List Nat) (a:Option (List Nat)) (ws:List (List Nat)),order.Nodup->(∀t∈order,t<ws.length)->(∀(i t:Nat),order[i]?=some t->(along fX ln order (a,ws)).2[t]?=(lK ln a order)[i]?)/\∀t,t∉order->(along fX ln order (a,ws)).2[t]?=ws[t]?
 |[],_,_,_,_=>⟨λi t e=>(by cases e),λ_ _=>rfl⟩
 |t::r,a,ws,hn,hl=>by
  obtain⟨n1,n2⟩:=Ky.mp hn;have ht:=hl t J7;have ea:along fX ln (t::r) (a,ws)=along fX ln r (some (l_ ln a t),ws.set t (l_ ln a t)):=by cases a<;>rfl
  rw[ea];obtain⟨q1,q2⟩:=pA r (some (l_ ln a t)) (ws.set t (l_ ln a t)) n2 (λx hx=>by rw[Lm];exact hl x (Jx _ hx))
  refine⟨λi s e=>?_,λs hs=>?_⟩
  ·cases i with
   |zero =>
    cases e;exact (q2 t n1).trans (by rw[Lf ht];rfl)
   |succ i=>exact q1 i s (by simpa using e)
  ·have h1:s≠t:=λz=>hs (by rw[z];exact J7)
   have h2:s∉r:=λz=>hs (Jx _ z);exact (q2 s h2).trans (by rw[LI (KA h1)])
def Lx(p q:Int×Nat):Prop:=p.1<q.1\/(p.1=q.1/\p.2<q.2)
theorem zo{p:Int×Nat}:∀{l:List (Int×Nat)},l.Pairwise Lx->(∀q∈l,p.2<q.2)->(iF p l).Pairwise Lx
 |[],_,_=>NM _ _
 |q::r,h,hp=>by
  obtain⟨h1,h2⟩:=Kc.mp h;have hq:=hp q J7;unfold iF;split
  ·rename_i c;refine Kc.mpr ⟨λz hz=>?_,h⟩;have hz2:=hp z hz;have:q.1<=z.1:=by
    rcases Jw.mp hz with rfl|hz
    ·exact N_ _
    ·have:=h1 z hz;unfold Lx at this;omega
   unfold Lx;omega
  ·rename_i c;refine Kc.mpr ⟨λz hz=>?_,zo h2 λz hz=>hp z (Jx _ hz)⟩;rcases Jw.mp ((gK p r).mem_iff.mp hz) with rfl|hz
   ·unfold Lx;omega
   ·exact h1 z hz
theorem tY:∀{l:List (Int×Nat)},(l.Pairwise λp q=>p.2<q.2)->(eY l).Pairwise Lx
 |[],_=>.nil
 |p::r,h=>by
  obtain⟨h1,h2⟩:=Kc.mp h;exact zo (tY h2) λq hq=>h1 q ((dX r).mem_iff.mp hq)
end Cw
structure Canon (ls:List Int) (W:List (List Nat)):Prop where
 len:W.length=ls.length
 Ho:∀t,t<ls.length->(W.getD t []).length=aO ls t
 part:∀s t,s<ls.length->t<ls.length->(ls.getD s 0<ls.getD t 0\/(ls.getD s 0=ls.getD t 0/\s<t))->Cw.Dv (W.getD s []) (W.getD t [])
def nr(ls:List Int):ls.zip (List.range ls.length)=(List.range ls.length).map λt=>(ls.getD t 0,t):=by
 apply L4
 ·simp
 ·intro i h1 h2;simp at h1;simp[h1]
def canon(hL:j6 ls)(hk:KS ls<=2^40):Canon ls (wordsOf Cw.fX ls):=by
 have hS:(Cw.Lx · ·)=(Cw.Lx · ·):=rfl;have hlx:(eY (ls.zip (List.range ls.length))).Pairwise Cw.Lx:=by
  refine Cw.tY ?_;rw[nr];exact LH.mpr MA
 have hmem:∀p∈eY (ls.zip (List.range ls.length)),p.1=ls.getD p.2 0/\p.2<ls.length:=λp hp=>by
  have:=(dX _).mem_iff.mp hp;rw[nr] at this;obtain⟨t,ht,rfl⟩:=Kg.mp this;exact⟨rfl,Lc.mp ht⟩
 have hord:(aC ls).Pairwise λs t=>ls.getD s 0<ls.getD t 0\/(ls.getD s 0=ls.getD t 0/\s<t):=by
  unfold aC jF;refine LH.mpr (hlx.imp_of_mem λ{p q} hp hq h=>?_);rw[<- (hmem p hp).1,<- (hmem q hq).1];exact h
 have hperm:(aC ls).Perm (List.range ls.length):=lB (by rw[Kh])
 have hnd:(aC ls).Nodup:=hperm.nodup_iff.mpr List.nodup_range;have hb:∀t,t<ls.length->1<=ls.getD t 0/\ls.getD t 0<=40:=λt ht=>by
  rw[Jz,Jr ht];have:=hL.2.2 _ (JM ht);show 1<=ls[t]/\ls[t]<=40;lia
 have hmm:∀t∈aC ls,t<ls.length:=λt ht=>iA ht;have hks:Kr.ks 40 ([]++(aC ls).map (aO ls))<=2^40:=by
  rw[Le,Kr.iz (hperm.map (aO ls))];have e:(List.range ls.length).map (aO ls)=ls.map Int.toNat:=by
   apply L4
   ·simp
   ·intro i h1 h2;simp at h1;simp[aO,h1]
  rw[e];exact hk
 obtain⟨_,q2,q3⟩:=Cw.zJ (ln:=aO ls) (aC ls) [] none (hord.imp_of_mem λ{s t} hs ht h=>by
  have:=hb s (hmm s hs);have:=hb t (hmm t ht);unfold aO;omega) (λt ht=>by have:=hb t (hmm t ht);unfold aO;omega) (λv e=>by cases e) (λ_=>rfl) hks
 obtain⟨a1,_⟩:=Cw.pA (ln:=aO ls) (aC ls) none (List.replicate ls.length []) hnd (λt ht=>by rw[JI];exact hmm t ht)
 have hat:∀t,t<ls.length->∃i w,(aC ls)[i]?=some t/\(Cw.lK (aO ls) none (aC ls))[i]?=some w/\w.length=aO ls t/\(wordsOf Cw.fX ls).getD t []=w:=λt ht=>by
  obtain⟨i,hi⟩:=ML.mp (hperm.mem_iff.mpr (Lc.mpr ht));obtain⟨w,hw,hl⟩:=q3 i t hi;refine⟨i,w,hi,hw,hl,?_⟩;unfold wordsOf;rw[Jz,a1 i t hi,hw];rfl
 refine⟨?_,λt ht=>?_,λs t hs ht h=>?_⟩
 ·unfold wordsOf;rw[Cw.gM,JI]
 ·obtain⟨i,w,_,_,hl,e⟩:=hat t ht;rw[e];exact hl
 ·obtain⟨i,w,h1,h2,_,e⟩:=hat s hs;obtain⟨j,v,g1,g2,_,e'⟩:=hat t ht;rw[e,e'];obtain⟨hi,rfl⟩:=Ju.mp h2;obtain⟨hj,rfl⟩:=Ju.mp g2;obtain⟨hi',ei⟩:=Ju.mp h1;obtain⟨hj',ej⟩:=Ju.mp g1;have hij:i<j:=by
   rcases Ny i j with c|c|c
   ·exact c
   ·subst c;have est:s=t:=ei.symm.trans ej;subst est
    exfalso;omega
   ·have:=Lj.mp hord j i hj' hi' c;rw[ei,ej] at this
    exfalso;omega
  exact Lj.mp q2 i j hi hj hij
noncomputable def dg(n:Int):Nat:=48+(n % 2).toNat
def bP:Int->Nat->List Nat->List Nat
 |_,0,acc=>acc
 |n,k+1,acc=>bP (n / 2) k (dg n::acc)
theorem dM:∀(k:Nat) (n:Int) (acc:List Nat),(bP n k acc).length=k+acc.length
 |0,_,_=>by rw[bP,Mf]
 |k+1,n,acc=>by rw[bP,dM k,JE];lia
theorem kP:∀(k:Nat) (n:Int) (acc:List Nat),∃d,bP n (k+1) acc=d::bP n k acc
 |0,n,acc=>⟨dg n,rfl⟩
 |k+1,n,acc=>by
  obtain⟨d,e⟩:=kP k (n / 2) (dg n::acc);exact⟨d,e⟩
def Ih(n:Int):dg n=48\/dg n=49:=by
 unfold dg;have:n % 2=0\/n % 2=1:=by lia
 rcases this with e|e<;>rw[e]
 ·exact .inl rfl
 ·exact .inr rfl
def Gh(n:Int):bI (Str.ofString "01").cps.toList (n % 2)=some (dg n):=by
 have:n % 2=0\/n % 2=1:=by lia
 unfold dg;rcases this with e|e<;>rw[e]
 ·exact (by decide +kernel)
 ·exact (by decide +kernel)
def EH(n:Int):Str.ofString (toString (n % 2))=wd [dg n]:=by
 have:n % 2=0\/n % 2=1:=by lia
 unfold dg;rcases this with e|e<;>rw[e]
 ·exact (by decide +kernel)
 ·exact (by decide +kernel)
def dE(a b:List Nat):wd a++wd b=wd (a++b):=by
 apply C8;show (a.toArray++b.toArray).toList=_;simp
def kZ:Str.ofString ""=wd []:=by decide +kernel
noncomputable def cV(n:Nat):Nat:=Builtin.Int.intBits (n:Int)
def jc(n:Nat):List Nat:=bP (n:Int) (cV n) []
def jQ{n:Nat}(h:n<65536):cV n<17:=by
 unfold cV Builtin.Int.intBits;split
 ·decide
 ·rename_i hz;have h0:n≠0:=λz=>hz (by rw[z];rfl)
  show (n:Int).natAbs.log2+1<17;rw[Int.natAbs_natCast];have:=(Nat.log2_lt (n:=n) (k:=16) h0).mpr (by lia)
  lia
def gi(k:Nat)(d:Int):List Nat:=eA k++bP d (d6 k) []
noncomputable def Row.wi:Row->Nat
 |.put _ _=>0
 |.two u _ _=>1+u
 |.one u _=>4+u
 |.jump _=>6
 |.zero _ _=>7
 |.halt=>8
def Row.tT(r:Row):r.wi<9:=by
 cases r with
 |two u a b=>exact (by decide:∀u:_root_.Fin 3,1+(u:Nat)<9) u
 |one u b=>exact (by decide:∀u:_root_.Fin 2,4+(u:Nat)<9) u
 |put b n=>exact (by decide:0<9)
 |jump g=>exact (by decide:6<9)
 |zero b g=>exact (by decide:7<9)
 |halt=>exact (by decide:8<9)
inductive Pk where
 |box (b:Nat)|num (n:Nat)|goal (g:Nat)
noncomputable def Pk.kd:Pk->Str
 |.box _=>"box"
 |.num _=>"number"
 |.goal _=>"goal"
def Pk.Ok:Pk->Prop
 |.box b=>b<8
 |.num n=>n<65536
 |.goal _=>True
def Pk.z_:Pk->List (Nat×Nat)
 |.box b=>[(2,b)]
 |.num n=>[(1,cV n)]
 |.goal _=>[]
def Row.wd:Row->Str
 |.put _ _=>"put"
 |.two u _ _=>w2 u
 |.one u _=>w1 u
 |.jump _=>"jump"
 |.zero _ _=>"zero"
 |.halt=>"halt"
noncomputable def Row.eI:Row->List Pk
 |.put b n=>[.box b,.num n]
 |.two _ a b=>[.box a,.box b]
 |.one _ b=>[.box b]
 |.jump g=>[.goal g]
 |.zero b g=>[.box b,.goal g]
 |.halt=>[]
def Row.rD{r:Row}(h:r.Ok k):∀p∈r.eI,p.Ok:=by
 cases r with
 |put b n=>simp only[Row.eI,Jw,JO,Kn];exactλp z=>z.elim (λe=>e ▸ h.1) λe=>e ▸ h.2
 |two u a b=>simp only[Row.eI,Jw,JO,Kn];exactλp z=>z.elim (λe=>e ▸ h.1) λe=>e ▸ h.2
 |one u b=>simp only[Row.eI,Jw,JO,Kn];rintro p rfl;exact h
 |jump g=>simp only[Row.eI,Jw,JO,Kn];rintro p rfl;exact trivial
 |zero b g=>simp only[Row.eI,Jw,JO,Kn];exactλp z=>z.elim (λe=>e ▸ h.1) λe=>e ▸ trivial
 |halt=>simp[Row.eI]
def dI(r:Row):List (Nat×Nat):=(0,r.wi)::r.eI.flatMap Pk.z_
noncomputable def df:List Str:=["put","add","sub","copy","tell","hear","jump","zero","halt"]
def Gj:∀k,k<9->∀m,m<k->df[m]?≠df[k]?:=by decide +kernel
def tS(r:Row):df[r.wi]?=some r.wd/\∀m,m<r.wi->df[m]?≠some r.wd:=by
 have h1:df[r.wi]?=some r.wd:=by
  cases r with
  |two u a b=>exact (by decide +kernel:∀u:_root_.Fin 3,df[1+(u:Nat)]?=some (w2 u)) u
  |one u b=>exact (by decide +kernel:∀u:_root_.Fin 2,df[4+(u:Nat)]?=some (w1 u)) u
  |put b n=>rfl
  |jump g=>rfl
  |zero b g=>rfl
  |halt=>rfl
 exact⟨h1,λm hm=>by rw[<- h1];exact Gj _ r.tT m hm⟩
def Iu{b:Nat}(h:b<8):Builtin.Str.occurrences (Str.ofString "abcdefgh") (eF b) 0 (Str.ofString "abcdefgh").length 1=[b]:=by
 rcases I_ h with rfl|rfl|rfl|rfl|rfl|rfl|rfl|rfl<;>decide +kernel
noncomputable def bJ:List (Str×List Str):=[("put",["box","number"]),("add",["box","box"]),("sub",["box","box"]),("copy",["box","box"]),("tell",["box"]),("hear",["box"]),("jump",["goal"]),("zero",["box","goal"]),("halt",[])]
def vQ(r:Row):KTD.datumAt r.wd bJ=some (r.eI.map Pk.kd):=by
 cases r with
 |two u a b=>exact (by decide +kernel:∀u:_root_.Fin 3,KTD.datumAt (w2 u) bJ=some [("box":Str),"box"]) u
 |one u b=>exact (by decide +kernel:∀u:_root_.Fin 2,KTD.datumAt (w1 u) bJ=some [("box":Str)]) u
 |put b n=>exact (by decide +kernel:KTD.datumAt ("put":Str) bJ=some [("box":Str),"number"])
 |jump g=>exact (by decide +kernel:KTD.datumAt ("jump":Str) bJ=some [("goal":Str)])
 |zero b g=>exact (by decide +kernel:KTD.datumAt ("zero":Str) bJ=some [("box":Str),"goal"])
 |halt=>exact (by decide +kernel:KTD.datumAt ("halt":Str) bJ=some ([]:List Str))
noncomputable def Gw:List Str:=["a","b","c","d","e","f","g","h"]
def E5{b:Nat}(h:b<8):Gw[b]?=some (eF b)/\∀m,m<b->Gw[m]?≠some (eF b):=(by decide +kernel:∀b,b<8->Gw[b]?=some (eF b)/\∀m,m<b->Gw[m]?≠some (eF b)) b h
theorem kX:∀(o:List Nat) (a:Option (List Nat)) (ws:List (List Nat)),(∀t∈o,ln t<=40)->(∀v,a=some v->v.length<=40)->(∀x∈ws,x.length<=40)->∀x∈(Cw.along Cw.fX ln o (a,ws)).2,x.length<=40
 |[],_,_,_,_,h=>h
 |t::o,a,ws,ho,ha,hw=>by
  have ht:=ho t J7;have h2:=λt h=>ho t (Jx _ h)
  cases a with
  |none =>
   refine kX o (some (List.replicate (ln t) 48)) _ h2 (λv e=>by cases e;rw[JI];exact ht) λx hx=>?_
   rcases Lk hx with z|z
   ·exact hw x z
   ·rw[z,JI];exact ht
  |some v =>
   have hv:=uk (ha v rfl) ht;refine kX o (some (Cw.fX v (ln t))) _ h2 (λv e=>by cases e;exact hv) λx hx=>?_
   rcases Lk hx with z|z
   ·exact hw x z
   ·rw[z];exact hv
def zM(hL:j6 ls):∀x∈wordsOf Cw.fX ls,x.length<=40:=by
 refine kX _ _ _ (λt ht=>?_) (λv e=>by cases e) λx hx=>by rw[(K6.mp hx).2];decide
 have h:=iA ht;have:=hL.2.2 _ (JM h);unfold aO;rw[Jz,Jr h];show ls[t].toNat<=40;lia
def jk(ls:List Int):(wordsOf Cw.fX ls).length=ls.length:=(Cw.gM _ _).trans (JI ..)
structure Cd (cd:List (List (List Nat))):Prop where
 ex:∃a b c,cd=[a,b,c]/\a.length=9/\b.length=17/\c.length=8
 le:∀ws∈cd,∀x∈ws,x.length<=40
noncomputable def fk(cd:List (List (List Nat)))(p:Nat×Nat):List Nat:=(cd.getD p.1 []).getD p.2 []
def nq:Row->List Nat
 |.put _ n=>(jc n).tail
 |_=>[]
def bj(cd:List (List (List Nat)))(r:Row):List Nat:=(dI r).flatMap (fk cd)++nq r
def Bk(bk:List (List Int)):Prop:=∃a b c,bk=[a,b,c]/\a.length=9/\b.length=17/\c.length=8/\∀l∈bk,j6 l/\oi l=true
def dD(bk:List (List Int)):List (List (List Nat)):=bk.map (wordsOf Cw.fX)
def Bk.cd{bk:List (List Int)}(h:Bk bk):Cd (dD bk):=by
 obtain⟨a,b,c,rfl,h1,h2,h3,h4⟩:=h;refine⟨⟨_,_,_,rfl,by rw[jk,h1],by rw[jk,h2],by rw[jk,h3]⟩,λws hw=>?_⟩
 obtain⟨l,hl,rfl⟩:=Kg.mp hw;exact zM (h4 l hl).1
theorem oM:∀l:List (List Nat),(Str.ofString "").join (l.map wd)=wd l.flatten
 |[]=>rfl
 |[x]=>by simp[Str.join]
 |x::y::r=>by
  show wd x++Str.ofString ""++(Str.ofString "").join ((y::r).map wd)=_;rw[oM (y::r),kZ,dE,dE,Ks];rfl
def xO{r:Row}(h:r.Ok k):∀p∈dI r,(p.1=0/\p.2<9)\/(p.1=1/\p.2<17)\/(p.1=2/\p.2<8):=by
 intro p hp;unfold dI at hp;rcases Jw.mp hp with rfl|hp
 ·exact .inl ⟨rfl,r.tT⟩
 ·obtain⟨q,hq,hp⟩:=List.mem_flatMap.mp hp;have:=Row.rD h q hq
  cases q with
  |box b=>rw[JH.mp hp];exact .inr (.inr ⟨rfl,this⟩)
  |num n=>rw[JH.mp hp];exact .inr (.inl ⟨rfl,jQ this⟩)
  |goal n=>cases hp
def Cd.at{cd:List (List (List Nat))}(h:Cd cd){p:Nat×Nat}(hp:(p.1=0/\p.2<9)\/(p.1=1/\p.2<17)\/(p.1=2/\p.2<8)):cd[p.1]?=some (cd.getD p.1 [])/\(cd.getD p.1 [])[p.2]?=some (fk cd p)/\(fk cd p).length<=40:=by
 obtain⟨a,b,c,rfl,h1,h2,h3⟩:=h.ex;have key:∀(l:List (List Nat)) (i:Nat),i<l.length->l[i]?=some (l.getD i [])/\l.getD i []∈l:=λl i hi=>by
  rw[Jz,Jr hi];exact⟨rfl,JM hi⟩
 obtain⟨x,y⟩:=p;rcases hp with ⟨rfl,hy⟩|⟨rfl,hy⟩|⟨rfl,hy⟩
 ·have:=key a y (by rw[h1];exact hy)
  exact⟨rfl,this.1,h.le a (by simp) _ this.2⟩
 ·have:=key b y (by rw[h2];exact hy)
  exact⟨rfl,this.1,h.le b (by simp) _ this.2⟩
 ·have:=key c y (by rw[h3];exact hy)
  exact⟨rfl,this.1,h.le c (by simp) _ this.2⟩
def oj(r:Row):(dI r).length<=3:=by cases r<;>simp[dI,Row.eI,Pk.z_]
def qf{cd:List (List (List Nat))}{r:Row}(hC:Cd cd)(h:r.Ok k):((dI r).flatMap (fk cd)).length<=120/\(nq r).length<=16:=by
 refine⟨?_,?_⟩
 ·have:∀l:List (Nat×Nat),(∀p∈l,(fk cd p).length<=40)->(l.flatMap (fk cd)).length<=40*l.length:=λl=>by
   induction l with
   |nil=>exactλ_=>J8 _
   |cons p l ih =>
    intro h;have h1:=h p J7;have h2:=ih λq hq=>h q (Jx _ hq);rw[Mb,Jv,JE];lia
  have h1:=this (dI r) λp hp=>(hC.at (xO h p hp)).2.2;have h2:=oj r;lia
 ·cases r with
  |put b n =>
   have:=jQ (n:=n) h.2;show (jc n).tail.length<=16;rw[List.length_tail];unfold jc;rw[dM];simp only[KW];lia
  |_=>exact JJ _
noncomputable def nZ(l:List Nat):List Int:=l.map λk:Nat=>(k:Int)
def jX(l:List Nat):(nZ l).length=l.length:=Jt ..
def Fh{l:List Nat}(h:Kr.ks 40 l<=2^40):oi (nZ l)=true:=by
 unfold oi KS nZ;rw[KI,show (Int.toNat ∘ λk:Nat=>(k:Int))=id from funext λk=>JW k,List.map_id];exact Kl h
structure Pt (l:List Nat):Prop where
 ks:Kr.ks 40 l=2^40
 le:∀x∈l,x+1<=l.length
 one:l=[0]\/∀x∈l,1<=x
def Pt.pos{l:List Nat}(h:Pt l):1<=l.length:=by
 cases l with
 |nil=>have:=h.ks;simp[Kr.ks] at this
 |cons=>simp
def Pt.next{l l3:List Nat}{a:Nat}(h:Pt l)(ha:a<l.length)(hl:l.length<=17)(hp:l3.Perm ((l[a]+1)::(l[a]+1)::l.eraseIdx a)):Pt l3/\l3.length=l.length+1:=by
 have hpm:(l[a]::l.eraseIdx a).Perm l:=by
  rw[KP]
  conv=>rhs;rw[<- KH a l,<- List.getElem_cons_drop ha]
  exact Ml.symm
 have hle:=l.length_eraseIdx_of_lt ha;have hx:=h.le _ (JM ha);have h3:l3.length=l.length+1:=by
  rw[hp.length_eq,JE,JE,hle];lia
 have mem:∀y∈l3,y=l[a]+1\/y∈l.eraseIdx a:=λy hy=>by
  rcases Jw.mp (hp.mem_iff.mp hy) with z|z
  ·exact .inl z
  ·rcases Jw.mp z with z|z
   ·exact .inl z
   ·exact .inr z
 have mem2:∀y∈l.eraseIdx a,y∈l:=λy hy=>hpm.mem_iff.mp (Jx _ hy);refine⟨⟨?_,λy hy=>?_,.inr λy hy=>?_⟩,h3⟩
 ·have e1:=Kr.iz (L:=40) hpm;rw[h.ks,Kr.ks] at e1;rw[Kr.iz hp,Kr.ks,Kr.ks];have e2:2^(40-l[a])=2*2^(40-(l[a]+1)):=by rw[show 40-l[a]=(40-(l[a]+1))+1 by lia,OA];lia
  lia
 ·rw[h3];rcases mem y hy with rfl|z
  ·lia
  ·have:=h.le y (mem2 y z);lia
 ·rcases mem y hy with rfl|z
  ·lia
  ·rcases h.one with e|e
   ·subst e;have ha0:a=0:=by simpa using ha
    subst ha0;cases z
   ·exact e y (mem2 y z)
def B4(l:List α)(n:Nat)(x:α):(hU l n x).length=l.length+1:=by
 unfold hU;rw[Jv,JE,JG,Ka];lia
def pF(l:List α)(n:Nat)(x:α):(hU l n x).Perm (x::l):=by
 unfold hU;refine Ml.trans ?_;rw[KH]
theorem zU:∀{l:List Nat} {a z:Nat} (ha:a<l.length),l[a]<=z->Kr.ks 40 (l.set a z)<=Kr.ks 40 l
 |[],_,_,ha,_=>(nomatch ha)
 |x::l,0,z,_,h=>by
  have:2^(40-z)<=2^(40-x):=Lp (by decide) (by have:x<=z:=h;lia)
  simp only[M0,Kr.ks];lia
 |x::l,a+1,z,ha,h=>by
  have:=zU (l:=l) (a:=a) (z:=z) (by simpa using ha) (by simpa using h)
  simp only[List.set_cons_succ,Kr.ks];lia
def zK{f:α->β}{o m:List β}(h:o.Perm m):∀l:List α,l.map f=m->∃k:List α,k.map f=o/\k.Perm l:=by
 induction h with
 |nil =>
  intro l e
  cases l with
  |nil=>exact⟨[],rfl,.nil⟩
  |cons=>cases e
 |cons x p ih =>
  intro l e
  cases l with
  |nil=>cases e
  |cons a l =>
   obtain⟨rfl,e2⟩:=List.cons.inj e;obtain⟨k,e3,p3⟩:=ih l e2;exact⟨a::k,by rw[Ke,e3],p3.cons a⟩
 |swap x y l0 =>
  intro l e;rcases l with _|⟨a,_|⟨b,l⟩⟩
  ·cases e
  ·cases e
  ·obtain⟨rfl,e2⟩:=List.cons.inj e;obtain⟨rfl,e3⟩:=List.cons.inj e2;exact⟨b::a::l,by rw[<- e3];rfl,.swap ..⟩
 |trans p q ih1 ih2 =>
  intro l e;obtain⟨k,e1,p1⟩:=ih2 l e;obtain⟨k',e2,p2⟩:=ih1 k e1;exact⟨k',e2,p2.trans p1⟩
theorem BR{p:List Nat}(hp:p.Perm (List.range ls.length))(hr:p.Pairwise (SP.R λi=>ls.getD i 0)):aC ls=p:=by
 have ez:(List.range ls.length).map (λi=>(ls.getD i 0,i))=ls.zip (List.range ls.length):=by
  apply L4
  ·rw[Jt,Kh,NQ,Kh,NG]
  ·intro i h1 h2;rw[Jt,Kh] at h1;rw[List.getElem_map,List.getElem_range,List.getElem_zip];simp[h1]
 have e1:p.map (λi=>(ls.getD i 0,i))=eY (ls.zip (List.range ls.length)):=by
  refine pU ?_ λa=>?_
  ·exact LH.mpr (hr.imp λh=>h.le)
  ·have fl:∀l:List Nat,atK a (l.map λi=>(ls.getD i 0,i))=(l.filter λi=>decide (ls.getD i 0=a)).map λi=>(ls.getD i 0,i):=λl=>by
    unfold atK;rw[List.filter_map];rfl
   rw[<- ez,fl,fl];congr 1;refine NI (le:=(· < ·)) (λa b _ _ h g=>absurd h (Nat.lt_asymm g)) ?_ (MA.filter _) (hp.filter _);rw[List.pairwise_filter];refine hr.imp λ{i j} h hi hj=>?_;have hi:=K1 hi;have hj:=K1 hj;rcases h with h|h
   ·exfalso;have h':ls.getD i 0<ls.getD j 0:=h;lia
   ·exact h.2
 unfold aC jF;rw[<- e1,KI];exact List.map_id _
noncomputable def ph(ls:List Int)(i:Nat):Int×Int:=(ls.getD i 0,(i:Int))
def va{out:List (Int×Int)}(hp:out.Perm ((List.range ls.length).map (ph ls)))(hu:HS out):out=(aC ls).map (ph ls)/\(aC ls).Pairwise (SP.R λi=>ls.getD i 0):=by
 obtain⟨p,rfl,pp⟩:=zK hp (List.range ls.length) rfl;have hr:p.Pairwise (SP.R λi=>ls.getD i 0):=by
  have nd:p.Nodup:=pp.nodup_iff.mpr List.nodup_range;unfold HS at hu;rw[LH] at hu;refine (hu.and nd).imp λ{i j} h=>?_;have h1:¬ ((ph ls j).1<(ph ls i).1\/((ph ls j).1=(ph ls i).1/\(ph ls j).2<(ph ls i).2)):=of_decide_eq_false h.1;have h1':¬ (ls.getD j 0<ls.getD i 0\/(ls.getD j 0=ls.getD i 0/\(j:Int)<(i:Int))):=h1;show ls.getD i 0<ls.getD j 0\/(ls.getD i 0=ls.getD j 0/\i<j);have:=h.2;lia
 rw[BR pp hr];exact⟨rfl,hr⟩
theorem DM(h:(aC ls).Pairwise (SP.R λi=>ls.getD i 0)):(aC ls).Pairwise λi j=>aO ls i<=aO ls j:=h.imp λ{i j} h=>by
 have h':ls.getD i 0<=ls.getD j 0:=h.le;unfold aO;lia
def vA:∀(k:Nat) (w acc:List Nat),w.length=k->(∀c∈w,c=48\/c=49)->bP (Cw.val w:Int) k acc=w++acc:=by
 intro k
 induction k with
 |zero=>intro w acc h _;rw[LU.mp h];rfl
 |succ k ih =>
  intro w acc h hb;obtain⟨v,c,rfl⟩:∃v c,w=v++[c]:=by
   rcases Ou w with e|⟨v,c,e⟩
   ·rw[e] at h;cases h
   ·exact⟨v,c,by rw[e,List.concat_eq_append]⟩
  have hc:=hb c (by simp)
  have ev:Cw.val (v++[c])=2*Cw.val v+(c-48):=by
   rw[Cw.iB];rcases hc with rfl|rfl
   ·simp[Cw.val];lia
   ·simp[Cw.val];lia
  rw[bP];have e1:((Cw.val (v++[c]):Nat):Int) / 2=(Cw.val v:Int):=by rw[ev];lia
  have e2:dg ((Cw.val (v++[c]):Nat):Int)=c:=by
   unfold dg;rw[ev];rcases hc with rfl|rfl
   ·have:((2*Cw.val v+(48-48):Nat):Int) % 2=0:=by lia
    rw[this];rfl
   ·have:((2*Cw.val v+(49-48):Nat):Int) % 2=1:=by lia
    rw[this];rfl
  rw[e1,e2,ih v (c::acc) (by rw[Jv,LD] at h;lia) (λx hx=>hb x (by simp[hx])),JQ]
  rfl
def xK(ls:List Int):Kr.ks 40 ((aC ls).map (aO ls))=KS ls:=by
 unfold KS;refine Kr.iz ?_;have e:ls.map Int.toNat=(List.range ls.length).map (aO ls):=by
  apply L4
  ·simp
  ·intro i h1 h2;have hi:i<ls.length:=by simpa using h1
   simp[aO,hi]
 rw[e];exact (lB (by rw[Kh])).map _
structure At (ls:List Int) (done todo:List Nat) (a:Option (List Nat)) (n h:Int):Prop where
 all:done++todo=aC ls
 st:(a=none/\done=[]/\n=-1/\h=0)\/∃w,a=some w/\n=(Cw.val w:Int)/\h=(w.length:Int)/\Cw.ig (done.map (aO ls)) w/\∀t∈todo,w.length<=aO ls t
def l_(a:Option (List Nat))(l:Nat):List Nat:=match a with|none=>List.replicate l 48|some v=>Cw.fo v l
def At.next{ls:List Int}{done todo:List Nat}{a:Option (List Nat)}{n h:Int}{t:Nat}(x:At ls done (t::todo) a n h)(hL:j6 ls)(ho:oi ls=true)(hu:(aC ls).Pairwise λi j=>aO ls i<=aO ls j):
  ∃d:Nat,(aO ls t:Int)-h=d/\d<=aO ls t/\(n+1)*2^d=(Cw.val (l_ a (aO ls t)):Int)/\(l_ a (aO ls t)).length=aO ls t/\(∀c∈l_ a (aO ls t),c=48\/c=49)/\At ls (done++[t]) todo (some (l_ a (aO ls t))) (Cw.val (l_ a (aO ls t)):Int) (aO ls t:Int):=by
 have hall:(done++[t])++todo=aC ls:=by rw[JQ];exact x.all
 have htl:aO ls t<=40:=by
  have h:=iA (ls:=ls) (t:=t) (by rw[<- x.all];simp)
  have:=hL.2.2 _ (JM h);unfold aO;rw[Jz,Jr h];show ls[t].toNat<=40;lia
 have hk:Kr.ks 40 ((done++[t]++todo).map (aO ls))<=2^40:=by rw[hall,xK];exact K1 ho
 rw[JN,JN,Kr.cp,Kr.cp] at hk;have hle:∀u∈todo,aO ls t<=aO ls u:=λu hu'=>by
  rw[<- x.all] at hu;exact (Kc.mp (KO.mp hu).2.1).1 u hu'
 rcases x.st with ⟨rfl,rfl,rfl,rfl⟩|⟨w,rfl,rfl,rfl,hH,hw⟩
 ·refine⟨aO ls t,by lia,J8 _,?_,JI ..,λc hc=>.inl (K6.mp hc).2,hall,.inr ⟨_,rfl,rfl,by rw[show l_ none (aO ls t)=List.replicate (aO ls t) 48 from rfl,JI],Cw.ig.first htl,λu hu'=>by rw[show l_ none (aO ls t)=List.replicate (aO ls t) 48 from rfl,JI];exact hle u hu'⟩⟩
  rw[show l_ none (aO ls t)=List.replicate (aO ls t) 48 from rfl,Cw.f9];simp
 ·have hwt:=hw t J7;have hk2:Kr.ks 40 (done.map (aO ls))+2^(40-aO ls t)<=2^40:=by
   simp only[Ke,Mc,Kr.ks] at hk;lia
  have hz:=hH.zero (rest:=[]) hk2;have hN:=hH.next hwt htl hk2;refine⟨aO ls t-w.length,by lia,Nat.sub_le _ _,?_,Cw.dY hwt,Cw.mH hH.bits,hall,.inr ⟨_,rfl,rfl,by rw[show l_ (some w) (aO ls t)=Cw.fo w (aO ls t) from rfl,Cw.dY hwt],by rw[JN];exact hN,λu hu'=>by rw[show l_ (some w) (aO ls t)=Cw.fo w (aO ls t) from rfl,Cw.dY hwt];exact hle u hu'⟩⟩
  rw[show l_ (some w) (aO ls t)=Cw.fo w (aO ls t) from rfl,Cw.pP hH.bits hz];simp
def BK(n:Nat):(jc n).length=cV n:=by unfold jc;rw[dM];rfl
inductive Kd where
 |box|num|go
noncomputable def Kd.s:Kd->Str
 |.box=>Str.ofString "box"
 |.num=>Str.ofString "number"
 |.go=>Str.ofString "goal"
inductive PV where
 |box (b:Nat)|num (n:Nat)|go (d:Int)
structure Jc (cd:List (List (List Nat))):Prop where
 gW:Cd cd
 pf:∀w∈cd,Pf w
structure RW where
 wi:Nat
 vs:List (PV×Nat)
def EO{a b:List Nat}(h:wd a=wd b):a=b:=Km (λs:Str=>s.cps.toList) h
def Pf.nd{ws:List (List Nat)}(h:Pf ws):ws.Nodup:=by
 unfold List.Nodup;rw[Lj];intro i j hi hj hij e;exact h.pre i j hi hj (JU hij) (by rw[e];exact List.prefix_refl _)
noncomputable def PV.n:PV->Int
 |.box b=>(b:Int)
 |.num n=>(n:Int)
 |.go d=>d
noncomputable def Kd.c:Kd->Nat
 |.box=>98
 |.num=>110
 |.go=>103
structure Jd (cd:List (List (List Nat))):Prop extends Jc cd where
 Jl:∀ws∈cd,∀w∈ws,w.length<=20
def Ay.app{x y:List Nat}(hx:Ay x)(hy:Ay y):Ay (x++y):=λc hc=>(Ki.mp hc).elim (hx c) (hy c)
def Ay.rep(n:Nat){v:Nat}(h:v=48\/v=49):Ay (List.replicate n v):=λc hc=>by rw[(K6.mp hc).2];exact h
def d3{cd:List (List (List Nat))}(hC:Cd cd){r:Row}(hr:r.Ok k):(bj cd r).length<=136:=by
 have:=qf hC hr;unfold bj;rw[Jv];lia
inductive gU where
 |put (b n:Nat)|two (w:Fin 3) (a b:Nat)|one (w:Fin 2) (b:Nat)|jump (g:Int)|zero (b:Nat) (g:Int)|halt
inductive AU where
 |s (z:Str)|n (k:Int)
noncomputable def gU.ps:gU->List AU
 |.put b n=>[.s "put",.s (eF b),.n (n:Nat)]
 |.two w a b=>[.s (w2 w),.s (eF a),.s (eF b)]
 |.one w b=>[.s (w1 w),.s (eF b)]
 |.jump g=>[.s "jump",.n g]
 |.zero b g=>[.s "zero",.s (eF b),.n g]
 |.halt=>[.s "halt"]
def gU.Ok:gU->Prop
 |.put b _=>b<8
 |.two _ a b=>a<8/\b<8
 |.one _ b=>b<8
 |.jump _=>True
 |.zero b _=>b<8
 |.halt=>True
noncomputable def gU.rel(e:Int):gU->gU
 |.jump g=>.jump (g-e)
 |.zero b g=>.zero b (g-e)
 |r=>r
def yU(hL:j6 ls)(ho:oi ls=true):Pf (wordsOf Cw.fX ls):=by
 have hc:=canon hL (K1 ho);have hg:∀(i:Nat) (h:i<(wordsOf Cw.fX ls).length),(wordsOf Cw.fX ls)[i]=(wordsOf Cw.fX ls).getD i []:=λi h=>by
  rw[Jz,Jr h];rfl
 refine⟨λw hw e=>?_,λi j hi hj hne hp=>?_⟩
 ·obtain⟨i,hi,rfl⟩:=MW.mp hw;have hi':i<ls.length:=by rw[<- hc.len];exact hi
  have h1:=hc.Ho i hi';rw[<- hg i hi,e,KW] at h1;unfold aO at h1;rw[Jz,Jr hi'] at h1;have h2:=hL.2.2 _ (JM hi');have h1':0=(ls[i]).toNat:=h1;lia
 ·have hi':i<ls.length:=by rw[<- hc.len];exact hi
  have hj':j<ls.length:=by rw[<- hc.len];exact hj
  rw[hg i hi,hg j hj] at hp;have:(ls.getD i 0<ls.getD j 0\/(ls.getD i 0=ls.getD j 0/\i<j))\/(ls.getD j 0<ls.getD i 0\/(ls.getD j 0=ls.getD i 0/\j<i)):=by lia
  rcases this with h|h
  ·exact (hc.part i j hi' hj' h).not.1 hp
  ·exact (hc.part j i hj' hi' h).not.2 hp
def Cg{bk:List (List Int)}(h:Bk bk):∀ws∈dD bk,Pf ws:=λws hw=>by
 obtain⟨l,hl,rfl⟩:=Kg.mp hw;obtain⟨a,b,c,e,_,_,_,h4⟩:=h;exact yU (h4 l hl).1 (h4 l hl).2
def yx{bk:List (List Int)}(h:Bk bk):Jd (dD bk):=by
 refine⟨⟨h.cd,Cg h⟩,λws hw w hw2=>?_⟩;obtain⟨l,hl,rfl⟩:=Kg.mp hw;obtain⟨a,b,c,e,_,_,_,h4⟩:=h;have hc:=canon (h4 l hl).1 (K1 (h4 l hl).2);obtain⟨i,hi,rfl⟩:=MW.mp hw2;have hi':i<l.length:=by rw[<- hc.len];exact hi
 have h1:=hc.Ho i hi';rw[Jz,Jr hi] at h1;unfold aO at h1;rw[Jz,Jr hi'] at h1;have h2:=(h4 l hl).1.2.2 _ (JM hi');have h3:((wordsOf Cw.fX l)[i]).length=(l[i]).toNat:=h1;lia
def HG.v:HG->V
 |.s z=>.str z
 |.n k=>.int (k:Nat)
def Row.vs(r:Row):List V:=r.ps.map HG.v
def Pk.v:Pk->V
 |.box b=>.str (eF b)
 |.num n=>.int (n:Nat)
 |.goal g=>.int (g:Nat)
def Row.CV(r:Row):r.vs=.str r.wd::r.eI.map Pk.v:=by cases r<;>rfl
def PV.v(behind:Nat):PV->V
 |.box b=>.str (eF b)
 |.num n=>.int (n:Int)
 |.go d=>.int ((behind:Int)+d)
def PV.l:PV->V
 |.box b=>.str (eF b)
 |.num n=>.int (n:Int)
 |.go d=>.int d
def RW.v(r:RW):List V:=.str (df.getD r.wi (Str.ofString ""))::r.vs.map λx=>x.1.v x.2
def RW.l(r:RW):List V:=.str (df.getD r.wi (Str.ofString ""))::r.vs.map λx=>x.1.l
def AU.v:AU->V
 |.s z=>.str z
 |.n k=>.int k
def gU.vs(r:gU):List V:=r.ps.map AU.v
noncomputable def ay:Row->Option Nat
 |.jump g=>some g
 |.zero _ g=>some g
 |_=>none
def xg{w:Nat}(d:Int):(gi w d).length=(eA w).length+d6 w:=by
 unfold gi;rw[Jv,dM];rfl
def v8(cd:List (List (List Nat)))(r:Row)(w:Nat)(d:Int):List Nat:=bj cd r++(match ay r with|none=>[]|some _=>gi w d)
def Row.m(g:Int):Row->gU
 |.put b n=>.put b n
 |.two u a b=>.two u a b
 |.one u b=>.one u b
 |.jump _=>.jump g
 |.zero b _=>.zero b g
 |.halt=>.halt
noncomputable def BD:Nat->Nat
 |0=>5
 |1=>10
 |_=>18
def addW:Option Nat->Nat->Nat
 |none,_=>0
 |some _,w=>BD w
def Bf(g:Option Nat)(w:Nat):addW g w<=18:=by
 unfold addW BD;split
 ·decide
 ·split<;>decide
def c_:Nat->List Nat->List (Option Nat)->List Nat->List Nat
 |a,s::ss,g::gs,w::ws=>a::c_ (a+s+addW g w) ss gs ws
 |a,_,_,_=>[a]
def nG(a:Nat)(ss:List Nat)(gs:List (Option Nat))(ws:List Nat):∃l,c_ a ss gs ws=a::l:=by
 unfold c_;split
 ·exact⟨_,rfl⟩
 ·exact⟨_,rfl⟩
theorem fG:∀(ss:List Nat) (gs:List (Option Nat)) (ws:List Nat) (a:Nat),gs.length=ss.length->ws.length=ss.length->(c_ a ss gs ws).length=ss.length+1
 |[],_,_,_,_,_=>by unfold c_;rfl
 |s::ss,[],_,_,h,_=>by cases h
 |s::ss,_::_,[],_,_,h=>by cases h
 |s::ss,g::gs,w::ws,a,h1,h2=>by
  rw[c_,JE,fG ss gs ws _ (Nat.succ.inj h1) (Nat.succ.inj h2)];rfl
theorem ya:∀(ss:List Nat) (gs:List (Option Nat)) (ws:List Nat) (a:Nat),(∀s∈ss,s<=150)->∀v∈c_ a ss gs ws,a<=v/\v<=a+168*ss.length
 |[],_,_,a,_,v,h=>by
  have:v=a:=by unfold c_ at h;simpa using h
  rw[this];simp
 |s::ss,[],_,a,_,v,h=>by
  have:v=a:=by unfold c_ at h;simpa using h
  rw[this];simp
 |s::ss,_::_,[],a,_,v,h=>by
  have:v=a:=by unfold c_ at h;simpa using h
  rw[this];simp
 |s::ss,g::gs,w::ws,a,hs,v,h=>by
  rw[c_] at h;have h1:=hs s J7;have h2:=Bf g w;rw[JE];rcases Jw.mp h with rfl|h
  ·exact⟨J8 _,Nat.le_add_right _ _⟩
  ·have:=ya ss gs ws _ (λx hx=>hs x (Jx _ hx)) v h;lia
theorem ic:∀(ss:List Nat) (gs:List (Option Nat)) (ws:List Nat) (a k:Nat) (s:Nat) (g:Option Nat) (w:Nat),ss[k]?=some s->gs[k]?=some g->ws[k]?=some w->(c_ a ss gs ws).getD (k+1) 0=(c_ a ss gs ws).getD k 0+s+addW g w
 |[],_,_,_,_,_,_,_,h,_,_=>by simp at h
 |s::ss,[],_,_,_,_,_,_,_,h,_=>by simp at h
 |s::ss,_::_,[],_,_,_,_,_,_,_,h=>by simp at h
 |s::ss,g::gs,w::ws,a,0,s',g',w',h1,h2,h3=>by
  simp at h1 h2 h3;subst h1;subst h2;subst h3;rw[c_];obtain⟨l,e⟩:=nG (a+s+addW g w) ss gs ws;rw[e];rfl
 |s::ss,g::gs,w::ws,a,k+1,s',g',w',h1,h2,h3=>by
  rw[c_];have:=ic ss gs ws (a+s+addW g w) k s' g' w' (by simpa using h1) (by simpa using h2) (by simpa using h3)
  simpa using this
noncomputable def bZ(sp:List Nat)(t k:Nat):Int:=(sp.getD t 0:Int)-(sp.getD (k+1) 0:Int)
def jn(w:Nat)(d:Int):Bool:=decide (-dF w<=d) && decide (d<dF w)
def gB(sp:List Nat)(k:Nat):Option Nat->Nat->Nat
 |none,w=>w
 |some t,w=>if jn w (bZ sp t k)=true then w else min (w+1) 2
def eM(sp:List Nat):Nat->List (Option Nat)->List Nat->List Nat
 |k,g::gs,w::ws=>gB sp k g w::eM sp (k+1) gs ws
 |_,_,ws=>ws
def fv(ss:List Nat)(gs:List (Option Nat))(ws:List Nat):List Nat:=eM (c_ 0 ss gs ws) 0 gs ws
def b6(ss:List Nat)(gs:List (Option Nat))(ws:List Nat):Nat->List Nat
 |0=>ws
 |m+1=>fv ss gs (b6 ss gs ws m)
def i_(ss:List Nat)(gs:List (Option Nat))(ws:List Nat):List Nat:=b6 ss gs ws (2*ss.length+1)
def qQ{w:Nat}(h:w<3):w<=gB sp k g w/\gB sp k g w<3:=by
 unfold gB;split
 ·exact⟨J8 _,h⟩
 ·split<;>lia
theorem cA(sp:List Nat):∀(k:Nat) (gs:List (Option Nat)) (ws:List Nat),(eM sp k gs ws).length=ws.length
 |_,[],_=>rfl
 |_,_::_,[]=>rfl
 |k,g::gs,w::ws=>by rw[eM,JE,JE,cA sp (k+1) gs ws]
theorem uJ(sp:List Nat):∀(k:Nat) (gs:List (Option Nat)) (ws:List Nat),(∀w∈ws,w<3)->∀w∈eM sp k gs ws,w<3
 |_,[],_,h=>h
 |_,_::_,[],h=>h
 |k,g::gs,w::ws,h=>λv hv=>by
  rw[eM] at hv;rcases Jw.mp hv with rfl|hv
  ·exact (qQ (h w J7)).2
  ·exact uJ sp (k+1) gs ws (λx hx=>h x (Jx _ hx)) v hv
theorem step_at(sp:List Nat):∀(k:Nat) (gs:List (Option Nat)) (ws:List Nat) (i:Nat) (g:Option Nat) (w:Nat),gs[i]?=some g->ws[i]?=some w->(eM sp k gs ws)[i]?=some (gB sp (k+i) g w)
 |_,[],_,_,_,_,h,_=>by simp at h
 |_,_::_,[],_,_,_,_,h=>by simp at h
 |k,g::gs,w::ws,0,g',w',h1,h2=>by
  simp at h1 h2;subst h1;subst h2;rfl
 |k,g::gs,w::ws,i+1,g',w',h1,h2=>by
  rw[eM,M7,step_at sp (k+1) gs ws i g' w' (by simpa using h1) (by simpa using h2)]
  rw[show k+1+i=k+(i+1) by lia]
theorem qF(sp:List Nat):∀(k:Nat) (gs:List (Option Nat)) (ws:List Nat),(∀w∈ws,w<3)->eM sp k gs ws=ws\/ws.sum<(eM sp k gs ws).sum
 |_,[],_,_=>.inl rfl
 |_,_::_,[],_=>.inl rfl
 |k,g::gs,w::ws,h=>by
  rw[eM,LW,LW];have h1:=(qQ (sp:=sp) (k:=k) (g:=g) (h w J7)).1;rcases qF sp (k+1) gs ws (λx hx=>h x (Jx _ hx)) with e|e
  ·rw[e];by_cases z:gB sp k g w=w
   ·exact .inl (by rw[z])
   ·exact .inr (by lia)
  ·exact .inr (by lia)
theorem f7(ss:List Nat)(gs:List (Option Nat))(ws:List Nat):∀m,(b6 ss gs ws m).length=ws.length
 |0=>rfl
 |m+1=>(cA _ _ _ _).trans (f7 ss gs ws m)
theorem gH(h:∀w∈ws,w<3):∀m,∀w∈b6 ss gs ws m,w<3
 |0=>h
 |m+1=>uJ _ _ _ _ (gH h m)
theorem n8{ss:List Nat}{gs:List (Option Nat)}(h:∀w∈ws,w<3):∀m,fv ss gs (b6 ss gs ws m)=b6 ss gs ws m\/m<=(b6 ss gs ws m).sum
 |0=>.inr (JJ _)
 |m+1=>by
  rcases n8 (ss:=ss) (gs:=gs) h m with e|e
  ·refine .inl ?_;show fv ss gs (fv ss gs (b6 ss gs ws m))=fv ss gs (b6 ss gs ws m);rw[e,e]
  ·rcases qF (c_ 0 ss gs (b6 ss gs ws m)) 0 gs (b6 ss gs ws m) (gH h m) with z|z
   ·refine .inl ?_;show fv ss gs (fv ss gs (b6 ss gs ws m))=fv ss gs (b6 ss gs ws m);have z':fv ss gs (b6 ss gs ws m)=b6 ss gs ws m:=z;rw[z',z']
   ·refine .inr ?_;show m+1<=(fv ss gs (b6 ss gs ws m)).sum;exact Kv e z
theorem iJ:∀{ws:List Nat},(∀w∈ws,w<3)->ws.sum<=2*ws.length
 |[],_=>J8 _
 |w::ws,h=>by
  have h1:=h w J7;have h2:=iJ λx hx=>h x (Jx _ hx);rw[LW,JE];lia
def uQ(ss:List Nat)(gs:List (Option Nat))(ws:List Nat):(i_ ss gs ws).length=ws.length:=f7 ss gs ws _
def su(h:∀w∈ws,w<3):∀w∈i_ ss gs ws,w<3:=gH h _
def BI{ss:List Nat}{gs:List (Option Nat)}(hl:ws.length=ss.length)(h:∀w∈ws,w<3):fv ss gs (i_ ss gs ws)=i_ ss gs ws:=by
 rcases n8 (ss:=ss) (gs:=gs) h (2*ss.length+1) with e|e
 ·exact e
 ·have:=iJ (gH (ss:=ss) (gs:=gs) h (2*ss.length+1));rw[f7,hl] at this;lia
def t7(hs:∀s∈ss,s<=150)(i:Nat):(c_ 0 ss gs ws).getD i 0<=168*ss.length:=by
 rw[Jz]
 cases c:(c_ 0 ss gs ws)[i]? with
 |none=>exact JJ _
 |some v=>have:=ya ss gs ws 0 hs v (JY c);show v<=_;lia
def nU(ss:List Nat)(gs:List (Option Nat))(ws:List Nat):Prop:=∀(k t w:Nat),gs[k]?=some (some t)->ws[k]?=some w->jn w (bZ (c_ 0 ss gs ws) t k)=true
def BN{gs:List (Option Nat)}{ws:List Nat}(hs:∀s∈ss,s<=150)(hn:ss.length<=64)(h:∀w∈ws,w<3)(hf:fv ss gs ws=ws):nU ss gs ws:=λk t w h1 h2=>by
 have e:=step_at (c_ 0 ss gs ws) 0 gs ws k (some t) w h1 h2;have e':ws[k]?=some (gB (c_ 0 ss gs ws) (0+k) (some t) w):=by rw[<- e];exact Km (·[k]?) hf.symm
 rw[h2,Mf] at e';have e2:=Option.some.inj e';unfold gB at e2;by_cases c:jn w (bZ (c_ 0 ss gs ws) t k)=true
 ·exact c
 ·simp only[Jy c] at e2;have hw:w=2:=by have:=h w (JY h2);lia
  subst hw;have h3:=t7 (gs:=gs) (ws:=ws) hs t;have h4:=t7 (gs:=gs) (ws:=ws) hs (k+1);unfold jn bZ;rw[Kl (show -dF 2<=_ by show -32768<=_;lia),Kl (show _<dF 2 by show _<32768;lia)]
  rfl
def Bx(hs:∀s∈ss,s<=150)(hn:ss.length<=64)(hl:ws.length=ss.length)(h:∀w∈ws,w<3):nU ss gs (i_ ss gs ws):=BN hs hn (su h) (BI hl h)
def eV(cd:List (List (List Nat)))(rs:List Row):List Nat:=rs.map λr=>(bj cd r).length
def p8(sp:List Nat)(k w:Nat):Option Nat->List Nat
 |none=>[]
 |some t=>gi w (bZ sp t k)
def ma(cd:List (List (List Nat)))(sp:List Nat):Nat->List Row->List Nat->List Nat
 |k,r::rs,w::ws=>bj cd r++p8 sp k w (ay r)++ma cd sp (k+1) rs ws
 |_,_,_=>[]
theorem nj:∀(k:Nat) (n:Int) (acc:List Nat),bP (n % 2^k) k acc=bP n k acc
 |0,_,_=>rfl
 |k+1,n,acc=>by
  have e1:(n % 2^(k+1)) % 2=n % 2:=Int.emod_emod_of_dvd n ⟨2^k,by rw[OB];lia⟩
  have e2:(n % 2^(k+1)) / 2=(n / 2) % 2^k:=by
   rw[OB,Int.mul_comm];have h:=Int.emod_add_mul_ediv n (2*2^k);have h2:n / (2*2^k)=n / 2 / 2^k:=(Int.ediv_ediv_of_nonneg (by decide)).symm
   rw[Int.emod_def,Int.emod_def,h2];rw[show n-2*2^k*(n / 2 / 2^k)=n+2*(-(2^k*(n / 2 / 2^k))) by rw[Int.mul_neg,Int.mul_assoc];lia]
   rw[Int.add_mul_ediv_left _ _ (by decide)]
   lia
  show bP ((n % 2^(k+1)) / 2) k (dg (n % 2^(k+1))::acc)=bP (n / 2) k (dg n::acc);rw[e2,nj k (n / 2)];unfold dg;rw[e1]
noncomputable def uG(bk:List (List Int))(rs:List Row)(ws:List Nat):List Nat:=
 ma (dD bk) (c_ 0 (eV (dD bk) rs) (rs.map ay) (i_ (eV (dD bk) rs) (rs.map ay) ws)) 0 rs (i_ (eV (dD bk) rs) (rs.map ay) ws)
def dw{r:Row}{n:Nat}(h:r.Ok n)(e:ay r=some t):t<=n:=by
 cases r with
 |jump g=>cases e;exact h
 |zero b g=>cases e;exact h.2
 |put=>cases e
 |two=>cases e
 |one=>cases e
 |halt=>cases e
def uh{w:Nat}(h:w<3)(d:Int):(gi w d).length=BD w:=by
 rw[xg];rcases mD h with rfl|rfl|rfl<;>rfl
structure Laid (cd:List (List (List Nat))) (rs:List Row) (ws sp z:List Nat):Prop where
 hR:Jc cd
 len:ws.length=rs.length
 le:rs.length<=64
 ok:∀r∈rs,r.Ok rs.length
 lt:∀w∈ws,w<3
 mq:sp=c_ 0 (eV cd rs) (rs.map ay) ws
 fit:nU (eV cd rs) (rs.map ay) ws
 hz:z=ma cd sp 0 rs ws
section
variable {cd:List (List (List Nat))} {rs:List Row} {ws sp z:List Nat}
def Laid.sl(L:Laid cd rs ws sp z):sp.length=rs.length+1:=by
 rw[L.mq,fG _ _ _ _ (by unfold eV;rw[Jt,Jt]) (by unfold eV;rw[Jt];exact L.len)]
 unfold eV;rw[Jt]
def EV(sp:List Nat)(k:Nat)(r:Row):Int:=match ay r with|none=>0|some t=>bZ sp t k
def Laid.row(L:Laid cd rs ws sp z)(hk:k<rs.length):∃w,ws[k]?=some w/\w<3/\sp.getD (k+1) 0=sp.getD k 0+(v8 cd rs[k] w (EV sp k rs[k])).length/\ma cd sp k (rs.drop k) (ws.drop k)=v8 cd rs[k] w (EV sp k rs[k])++ma cd sp (k+1) (rs.drop (k+1)) (ws.drop (k+1))/\∀t,ay rs[k]=some t->w<3/\-dF w<=EV sp k rs[k]/\EV sp k rs[k]<dF w:=by
 have hw:k<ws.length:=by rw[L.len];exact hk
 have ew:=Jr hw;have lw:=L.lt _ (JM hw);have er:=Jr hk;have okr:=L.ok _ (JM hk);refine⟨ws[k],ew,lw,?_,?_,?_⟩
 ·have:=ic (eV cd rs) (rs.map ay) ws 0 k (bj cd rs[k]).length (ay rs[k]) ws[k] (by unfold eV;rw[J6,er];rfl) (by rw[J6,er];rfl) ew
  rw[<- L.mq] at this;rw[this,v8,Jv,Nr];congr 2
  cases e:ay rs[k] with
  |none=>rfl
  |some t=>exact (uh lw _).symm
 ·rw[Ko hk,Ko hw,ma,v8];congr 2;unfold p8 EV
  cases e:ay rs[k] with
  |none=>rfl
  |some t=>rfl
 ·intro t et;have hf:=L.fit k t ws[k] (by rw[J6,er];exact Km some et) ew
  rw[<- L.mq] at hf;unfold jn at hf;rw[K8] at hf;unfold EV;rw[et];exact⟨lw,K1 hf.1,K1 hf.2⟩
theorem Laid.at(L:Laid cd rs ws sp z):∀k,k<=rs.length->z.drop (sp.getD k 0)=ma cd sp k (rs.drop k) (ws.drop k)/\sp.getD k 0<=z.length
 |0,_=>by
  have e:sp.getD 0 0=0:=by
   rw[L.mq];obtain⟨l,e⟩:=nG 0 (eV cd rs) (rs.map ay) ws;rw[e];rfl
  rw[e,KD];exact⟨L.hz,JJ _⟩
 |k+1,hk=>by
  obtain⟨h1,h2⟩:=L.at k (by lia)
  obtain⟨w,_,_,e1,e2,_⟩:=L.row (show k<rs.length by lia)
  rw[e2] at h1;have hl:=Km List.length h1;rw[Ka,Jv] at hl;refine⟨?_,by lia⟩
  rw[e1,<- List.drop_drop,h1,List.drop_left]
def Laid.pos(L:Laid cd rs ws sp z){w:Nat}(hk:k<rs.length):0<(v8 cd rs[k] w d).length:=by
 have g0:=L.hR.gW.at (p:=(0,rs[k].wi)) (.inl ⟨rfl,rs[k].tT⟩);obtain⟨c0,c1,c2,e,l0,l1,l2⟩:=L.hR.gW.ex;have hne:fk cd (0,rs[k].wi)≠[]:=by
  refine (L.hR.pf c0 (by rw[e];simp)).ne _ ?_
  have:=g0.2.1;rw[e] at this ⊢;exact JY this
 unfold v8 bj dI;rw[Jv,Jv,Mb,Jv];have:=List.length_pos_iff.mpr hne;lia
def Laid.up(L:Laid cd rs ws sp z)(hk:k<rs.length):sp.getD k 0<sp.getD (k+1) 0:=by
 obtain⟨w,_,_,e1,_⟩:=L.row hk;have:=L.pos (w:=w) (d:=EV sp k rs[k]) hk;lia
theorem Laid.mono(L:Laid cd rs ws sp z):∀(i d:Nat),i+d+1<=rs.length->sp.getD i 0<sp.getD (i+d+1) 0
 |i,0,h=>L.up (by lia)
 |i,d+1,h=>ND (L.mono i d (by lia)) (L.up (show i+d+1<rs.length by lia))
def Laid.last(L:Laid cd rs ws sp z):z.length=sp.getD rs.length 0:=by
 obtain⟨h1,h2⟩:=L.at rs.length (J8 _);rw[L5] at h1;have hl:=Km List.length h1;rw[Ka,show (ma cd sp rs.length [] (ws.drop rs.length)).length=0 by unfold ma;rfl] at hl
 lia
end
def fN(sp:List Nat)(gs:List (Option Nat))(ws:List Nat)(i:Nat):List Nat:=(eM sp 0 gs ws).take i++ws.drop i
def B7(sp:List Nat)(gs:List (Option Nat))(ws:List Nat)(i:Nat):(fN sp gs ws i).length=ws.length:=by
 unfold fN;rw[Jv,JG,Ka,cA];lia
def AH(sp:List Nat)(gs:List (Option Nat))(ws:List Nat):fN sp gs ws ws.length=eM sp 0 gs ws:=by
 unfold fN;rw[L5,Ks,Kw (by rw[cA];exact J8 _)]
def yA{w:Nat}(h:ws[i]?=some w):(fN sp gs ws i)[i]?=some w:=by
 have hi:=(Ju.mp h).1;unfold fN;rw[JP (by rw[JG,cA];lia),JG,cA,K4]
 rw[show i+(i-min i ws.length)=i by lia]
 exact h
def qg{w:Nat}(hg:gs[i]?=some g)(h:ws[i]?=some w):fN sp gs ws (i+1)=(fN sp gs ws i).set i (gB sp i g w):=by
 have hi:=(Ju.mp h).1;have hs:=step_at sp 0 gs ws i g w hg h;rw[Mf] at hs;unfold fN;rw[Mg _ _ (by rw[JG,cA];lia),JG,cA]
 rw[show i-min i ws.length=0 by lia,Ko hi,M0]
 rw[Kp,hs,JQ];rfl
def qM{sp:List Nat}{gs:List (Option Nat)}{w:Nat}(hg:gs[i]?=some g)(h:ws[i]?=some w)(e:gB sp i g w=w):fN sp gs ws (i+1)=fN sp gs ws i:=by
 rw[qg hg h,e];have:=yA (sp:=sp) (gs:=gs) h;obtain⟨hi,e2⟩:=Ju.mp this;rw[<- e2];exact List.set_getElem_self hi
def CI{r:Row}{n:Nat}(h:r.Ok n)(hg:∀t,ay r=some t->t<=k):r.Ok k:=by
 cases r with
 |jump g=>exact hg g rfl
 |zero b g=>exact⟨h.1,hg g rfl⟩
 |put=>exact h
 |two=>exact h
 |one=>exact h
 |halt=>exact h
noncomputable def setG:Row->Nat->Row
 |.jump _,g=>.jump g
 |.zero b _,g=>.zero b g
 |r,_=>r
def vZ(f:Nat)(r:Row):Row:=match ay r with
 |none=>r
 |some t=>if t<f then r else setG r (t+1)
def BS(f:Nat)(r:Row):Row:=match ay r with
 |none=>r
 |some t=>if t<f then r else setG r (t-1)
def ki(k:Nat)(x:Row)(rs:List Row):List Row:=(rs.map (vZ k)).take k++[x]++(rs.map (vZ k)).drop k
def oU(k:Nat)(rs:List Row):List Row:=(rs.take k++rs.drop (k+1)).map (BS (k+1))
def qL{r:Row}(g:Nat)(h:ay r=some t):ay (setG r g)=some g:=by cases r<;>first|rfl|cases h
def zb{r:Row}{n m:Nat}(g:Nat)(h:ay r=some t)(ho:r.Ok n)(hg:g<=m):(setG r g).Ok m:=by
 cases r with
 |jump _=>exact hg
 |zero b _=>exact⟨ho.1,hg⟩
 |put=>cases h
 |two=>cases h
 |one=>cases h
 |halt=>cases h
def Dc{r:Row}{n m:Nat}(h:r.Ok n)(hm:n<=m):r.Ok m:=by
 cases r with
 |jump g=>exact JC h hm
 |zero b g=>exact⟨h.1,JC h.2 hm⟩
 |put=>exact h
 |two=>exact h
 |one=>exact h
 |halt=>exact h
def DL{r:Row}{n:Nat}(f:Nat)(h:r.Ok n):(vZ f r).Ok (n+1):=by
 unfold vZ
 cases c:ay r with
 |none=>exact Dc h (KQ n)
 |some t =>
  dsimp only;have ht:=dw h c;split
  ·exact Dc h (KQ n)
  ·exact zb _ c h (by lia)
def jK{x:Row}{rs:List Row}(hk:k<=rs.length):(ki k x rs).length=rs.length+1:=by
 unfold ki;rw[Jv,Jv,JG,Ka,Jt];simp;lia
def E1{x:Row}{rs:List Row}(hk:k<=rs.length)(hx:x.Ok (rs.length+1))(h:∀r∈rs,r.Ok rs.length):∀r∈ki k x rs,r.Ok (ki k x rs).length:=by
 rw[jK hk];have hm:∀r∈rs.map (vZ k),r.Ok (rs.length+1):=λr hr=>by
  obtain⟨r',h1,rfl⟩:=Kg.mp hr;exact DL k (h r' h1)
 intro r hr;unfold ki at hr;rcases Ki.mp hr with hr|hr
 ·rcases Ki.mp hr with hr|hr
  ·exact hm r (Lo hr)
  ·rw[JH.mp hr];exact hx
 ·exact hm r (LL hr)
def Er{r:Row}{n:Nat}(h:r.Ok (n+1))(hk:k<=n):(BS (k+1) r).Ok n:=by
 unfold BS
 cases c:ay r with
 |none=>exact CI h λt e=>by rw[c] at e;cases e
 |some t =>
  dsimp only;have ht:=dw h c;split
  ·exact CI h λu e=>by rw[c] at e;cases e;lia
  ·exact zb _ c h (by lia)
def jN{rs:List Row}(hk:k<rs.length):(oU k rs).length=rs.length-1:=by
 unfold oU;rw[Jt,Jv,JG,Ka];lia
def Es{rs:List Row}(hk:k<rs.length)(h:∀r∈rs,r.Ok rs.length):∀r∈oU k rs,r.Ok (oU k rs).length:=by
 rw[jN hk];intro r hr;obtain⟨r',h1,rfl⟩:=Kg.mp hr;have hm:r'∈rs:=(Ki.mp h1).elim Lo LL;refine Er (n:=rs.length-1) ?_ (by lia)
 rw[show rs.length-1+1=rs.length by lia]
 exact h r' hm
noncomputable def pZ:gU->Option Int
 |.jump g=>some g
 |.zero _ g=>some g
 |_=>none
def jd(r:gU):V:=match pZ r with
 |some g=>.int g
 |none=>.aL
def iH:Sp:=λvs H Q _=>∃(p:Addr) (r:gU),vs=[.ref p]/\H p=some (.tup r.vs)/\Q (jd r) H
def Ac(T:Txt K mg)(F:HasFn K mg "goal_of" iZ ["row"]):ao P w K mg base aN 1 "goal_of" ["row"] iH:=by
 obtain⟨dS,hg_SHAPES,hd0⟩:=T.qO;have hd_SHAPES:mh K dS bJ:=hd0;refine F.eZ sF (λvs H Q E h=>?_) (λf cdv A outer s H vs Q E hr h=>?_)
 ·obtain⟨p,r,rfl,_⟩:=h;rfl
 ·have hu:=aI hr;obtain⟨p,r,rfl,hp,q⟩:=h;refine⟨_,(Z.ax (Z.ret (Z.FH (Z.aR (Z.FZ K rfl) Z.str (Z.Jb K rfl rfl hg_SHAPES hd_SHAPES (Z.ix (Z.aA K rfl hu) (Z.v 0) Z.int))) (Z.ix (Z.aA K rfl hu) (Z.v 0) (Z.un bM Z.int)) Z.aL))),?_⟩;have sp:=aF hp;have kt1:∀{pk:Addr} {xs:List V},HK K pk xs->bg K H pk xs\/bq K H pk xs:=λh=>.inr (.inr h);obtain⟨w,ws,e0,ed,ef,h⟩:∃(w:Str) (ws:List Str),bI r.vs 0=some (.str w)/\KTD.datumAt w bJ=some ws/\(ws.map V.str).all d7=true/\(iL (.str "goal") (ws.map V.str)=true/\bI r.vs (-1)=some (jd r)\/iL (.str "goal") (ws.map V.str)=false/\jd r=.aL):=by
   cases r with
   |jump g=>exact⟨_,_,rfl,(by decide +kernel:KTD.datumAt ("jump":Str) bJ=some [("goal":Str)]),rfl,.inl ⟨by decide +kernel,rfl⟩⟩
   |zero b g=>exact⟨_,_,rfl,(by decide +kernel:KTD.datumAt ("zero":Str) bJ=some [("box":Str),"goal"]),rfl,.inl ⟨by decide +kernel,rfl⟩⟩
   |put b n=>exact⟨_,_,rfl,(by decide +kernel:KTD.datumAt ("put":Str) bJ=some [("box":Str),"number"]),rfl,.inr ⟨by decide +kernel,rfl⟩⟩
   |two u b c=>exact⟨_,_,rfl,(by decide +kernel:∀u:_root_.Fin 3,KTD.datumAt (w2 u) bJ=some [("box":Str),"box"]) u,rfl,.inr ⟨by decide +kernel,rfl⟩⟩
   |one u b=>exact⟨_,_,rfl,(by decide +kernel:∀u:_root_.Fin 2,KTD.datumAt (w1 u) bJ=some [("box":Str)]) u,rfl,.inr ⟨by decide +kernel,rfl⟩⟩
   |halt=>exact⟨_,_,rfl,(by decide +kernel:KTD.datumAt ("halt":Str) bJ=some ([]:List Str)),rfl,.inr ⟨by decide +kernel,rfl⟩⟩
  exists sp,e0;refine⟨_,_,rfl,ed,λpk kt=>⟨pk,_,rfl,kt1 kt,rfl,ef,?_⟩⟩;refine⟨_,rfl,?_⟩;rcases h with ⟨h1,h2⟩|⟨h1,h2⟩
  ·rw[Jy JF,h1,JA rfl];simp only[sp,h2];exact q
  ·rw[Jy JF,h1,Jy JF];rw[h2] at q;exact q
def pK(xs:List V)(v:V):dC (xs++[v]) none (some (-1))=xs:=by
 unfold dC;rw[HT.cS,KD,Me];have:HT.bB (xs++[v]).length (xs++[v]).length (some (-1))=xs.length:=by
  unfold HT.bB;simp only[show ((-1:Int)<0)=True from eq_true (by decide),LV,Jv,JE,KW]
  lia
 rw[this,Ot]
def zL:Sp:=λvs H Q _=>∃(a:Addr) (xs:List V) (v:V) (g:Int),vs=[.ref a,.int g]/\H a=some (.tup (xs++[v]))/\xs≠[]/\xs.length<=2/\∀p H',KB [] H H'->H' p=some (.tup (xs++[.int g]))->Q (.ref p) H'
def B8(T:Txt K mg)(F:HasFn K mg "with_goal" gA ["row","goal"]):ao P w K mg base aN 1 "with_goal" ["row","goal"] zL:=by
 refine F.eZ oh (λvs H Q E h=>?_) (λf cdv A outer s H vs Q E hr h=>?_)
 ·obtain⟨a,xs,v,g,rfl,_⟩:=h;rfl
 ·have hu:=aI hr;obtain⟨a,xs,v,g,rfl,ha,hne,hl,q⟩:=h;refine⟨_,(Z.ax (Z.ret (Z.op (Z.aE K rfl) (Z.slice (Z.vX K rfl) (Z.v 0) Z.nY (Z.oY (Z.un bM Z.int))) (Z.tup (Z.cons (Z.v 1) Z.nil))))),?_⟩;exists aF ha;refine⟨a,_,rfl,bq.of ha,λz=>?_,λp hp=>?_⟩
  ·have h1:=z.2;have:HT.bB (xs++[v]).length (xs++[v]).length (some (-1))=xs.length:=by
    unfold HT.bB;simp only[show ((-1:Int)<0)=True from eq_true (by decide),LV,Jv,JE,KW]
    lia
   rw[this,Jv] at h1;simp at h1
  rw[pK];obtain⟨k1,s1⟩:=cX hp (.tup xs);generalize upd H p _=H1 at *;refine⟨by decide,λp2 hp2=>?_⟩
  obtain⟨k2,s2⟩:=cX hp2 (.tup [.int g]);have s12:=k2.n s1;generalize upd H1 p2 _=H2 at *;simp only[L2.Ap.addRef,s12,s2];refine⟨hne,by simp,JC (show _<=3 by simp;lia) (by decide),λp3 hp3=>?_⟩
  exact q _ _ (k1.trans (k2.trans (KB.new hp3))) aa
def aX(H:Hp)(p dq:Addr)(n:Nat):Prop:=∃(cells:List Int) (i t z:Int),H p=some (.lst [.ref dq,.int i,.int t,.int z])/\H dq=some (.lst (iV cells))/\(∀c∈cells,0<=c)/\0<=i/\i<=cells.length/\cells.length<=63/\0<=t/\t<=n
def aX.mono{n m:Nat}(h:aX H p dq n)(hm:n<=m):aX H p dq m:=by
 obtain⟨cells,i,t,z,h1,h2,h3,h4,h5,h6,h7,h8⟩:=h;exact⟨cells,i,t,z,h1,h2,h3,h4,h5,h6,h7,by lia⟩
def aX.keep{n:Nat}(h:aX H p dq n)(k:KB ex H H')(n1:p∉ex)(n2:dq∉ex):aX H' p dq n:=by
 obtain⟨cells,i,t,z,h1,h2,h3⟩:=h;exact⟨cells,i,t,z,k _ _ h1 n1,k _ _ h2 n2,h3⟩
def aX.kb{n:Nat}(h:aX H p dq n)(k:KB [] H H'):aX H' p dq n:=h.keep k (by simp) (by simp)
def aX.lst{n:Nat}(h:aX H p dq n):∀b∈[p,dq],∃ys,H b=some (.lst ys):=by
 obtain⟨cells,i,t,z,h1,h2,h3⟩:=h;intro b hb;simp only[Jw,JO,Kn] at hb;rcases hb with rfl|rfl
 ·exact⟨_,h1⟩
 ·exact⟨_,h2⟩
def aX.new{l:Addr}{n:Nat}(h:aX H p dq n)(hl:H l=none):l∉[p,dq]:=λz=>by
 obtain⟨ys,e⟩:=h.lst l z;rw[hl] at e;cases e
def aX.tup{n:Nat}(h:aX H p dq n)(k:KB [p,dq] H H')(e:H a=some (.tup xs)):H' a=some (.tup xs):=Ds k h.lst e
def CF:Sp:=λvs H Q _=>∃c k:Int,vs=[.int c,.int k]/\0<=k/\k<2^60/\∀v:Int,Q (.int v) H
def Fs(F:HasFn K mg "_law_mix" hJ ["number","turn"]):ao P w K mg base aN 1 "_law_mix" ["number","turn"] CF:=by
 refine F.eZ gu (λvs H Q E h=>?_) (λf cdv A outer s H vs Q E hr h=>?_)
 ·obtain⟨c,k,rfl,_⟩:=h;rfl
 ·obtain⟨c,k,rfl,h0,h1,q⟩:=h;have hu:=aI hr;refine⟨_,(Z.aq (Z.se (i:=2) gu.nd (Z.op dA (Z.op (Z.aE K rfl) (Z.op (Z.aE K rfl) (Z.op (Z.aE K rfl) (Z.op dA (Z.v 0) Z.int) (Z.op cF (Z.op cF Z.int (Z.v 1)) (Z.v 1))) (Z.op cF Z.int (Z.v 1))) Z.int) Z.int))
   (Z.aq (Z.se (i:=2) gu.nd (Z.op dA (Z.op cF (Z.v 2) (Z.v 2)) Z.int))
   (Z.ax (Z.ret (Z.op jP (Z.op dA (Z.op (Z.aE K rfl) (Z.op cF (Z.v 2) Z.int) (Z.v 1)) Z.int) Z.int))))),?_⟩
  refine au λN hN=>?_;nofun;refine⟨by decide,.inl (by decide),.inr ⟨by lia,by lia⟩,.inl (by decide),by decide,?_⟩
  subst hN;generalize hx:(c % 1999999927+7001*k*k+40009*k+17) % 2147483629=x;have hx1:0<=x/\x<2147483629:=by rw[<- hx];exact⟨NU _ (by decide),Nm _ (by decide)⟩
  refine au λN hN=>?_;nofun;refine⟨.inl ⟨by lia,by lia⟩,by decide,?_⟩
  subst hN;generalize hy:x*x % 2147483587=y;have hy1:0<=y/\y<2147483587:=by rw[<- hy];exact⟨NU _ (by decide),Nm _ (by decide)⟩
  nofun;exact⟨.inr (by decide),by decide,⟨by decide,by decide⟩,q _⟩
def Aq(K:W.Frag):Sp:=λvs H Q _=>∃(a:Addr) (ns:List Int),vs=[.ref a]/\bg K H a (ns.map V.int)/\∀p dq H',aX H' p dq 0->KB [] H H'->H p=none->H dq=none->Q (.ref p) H'
theorem Ca(T:Txt K mg)(F:HasFn K mg "_law_deck" eL ["script"]):ao P w K mg base aN 1 "_law_deck" ["script"] (Aq K):=by
 refine F.eZ oI (λvs H Q E h=>?_) (λf cdv A outer s H vs Q E hr h=>?_)
 ·obtain⟨a,ns,rfl,_⟩:=h;rfl
 ·obtain⟨a,ns,rfl,hS,q⟩:=h;have hu:=aI hr;refine⟨_,(Z.ax (Z.ret (Z.lst (Z.cons (Z.vy (osc:=ae eL) (ON:=["script"]) (own:=["cell"]) (N:=["cell","script"]) (az.of rfl (by decide +kernel)) (Z.any K rfl (Z.slice (Z.Dd K rfl) (Z.v 0) Z.nY (Z.oY Z.int))) (λnd _ _ _ _=>(Z.aH (i:=0) nd rfl (by right))) (λ_ _ _ _=>Z.pe) (λ_ _ _ _=>(Z.cb yJ rfl T.GC (by decide +kernel) (Z.cons (Z.v 0) Z.nil)))) (Z.cons Z.int (Z.cons Z.int (Z.cons (Z.op dA (Z.op (Z.aE K rfl) (Z.cb (Z.Hb K rfl rfl) rfl T.GO (by decide +kernel) (Z.cons (Z.slice (Z.Dd K rfl) (Z.v 0) Z.nY (Z.oY Z.int)) Z.nil)) (Z.op cF Z.int (Z.cb (Z.y_ K rfl) rfl T.bG (by decide +kernel) (Z.cons (Z.v 0) Z.nil)))) Z.int) Z.nil))))))),?_⟩
  have ec:dC (ns.map V.int) none (some 63)=iV (ns.take 63):=by
   unfold dC iV;rw[HT.cS,show HT.bB (ns.map V.int).length (ns.map V.int).length (some 63)=min 63 (ns.map V.int).length from HT.eK _ _ 63,Jt,Me,KD,<- Mo];congr 1;rw[List.take_eq_take_iff];lia
  have hm:(ns.take 63).length<=63:=by rw[JG];lia
  generalize ns.take 63=ms at ec hm;nofun;refine⟨a,_,rfl,hS,λc hc=>?_⟩;rw[ec];obtain⟨k1,s1⟩:=cX hc (.lst (iV ms));generalize upd H c _=H1 at *;simp only[ar s1];refine dU (xs:=iV ms) (JC (show _<=63 by rw[bL];exact hm) (by decide)) (λD i ys H'=>H' D=some (.lst ys)/\KB [] H1 H'/\H1 D=none/\∃bs:List Int,ys=iV bs/\bs.length=i/\∀b∈bs,0<=b) (λD hD=>⟨aa,KB.new hD,hD,[],rfl,rfl,λb hb=>nomatch hb⟩) (λD i ys H' h=>⟨h.1,by obtain⟨_,_,_,bs,rfl,e,_⟩:=h;rw[bL,e]⟩) (λD i ys H' h=>bg.of (h.2.1 _ _ s1 (by simp))) ?_ ?_
  ·rintro D i ys H' x R hx ⟨g1,g2,g3,bs,rfl,g4,g5⟩ k;obtain⟨hi,rfl⟩:=kx hx;nofun;refine k _ _ g1 ⟨aa,λb o e _=>?_,g3,bs++[_],(fM bs [_]).symm,by rw[Jv,g4];rfl,λb hb=>?_⟩
   ·rw[ak (af e g3)];exact g2 b o e (by simp)
   ·rcases Ki.mp hb with z|z
    ·exact g5 b z
    ·rw[JH.mp z];split<;>lia
  ·rintro D ys H' ⟨g1,g2,g3,bs,rfl,g4,g5⟩;rw[bL] at g4;refine⟨a,_,rfl,(k1.trans g2).Dl (by simp) hS,λd hd=>?_⟩
   rw[ec];obtain⟨k2,s2⟩:=cX hd (.lst (iV ms));generalize upd H' d _=H2 at *;have kk:=(k1.trans g2).trans k2;refine⟨d,ms,rfl,bg.of s2,.ref a,_,rfl,.inl ⟨_,kk.Dl (by simp) hS,rfl⟩,.inl (by decide),by decide,by decide,λp hp=>?_⟩
   have gD:=k2.n g1;exact q p D _ ⟨bs,0,0,_,aa,by rw[ak (af gD hp)];exact gD,g5,by decide,by lia,by lia,by decide,by decide⟩ (kk.trans (KB.new hp)) (kk.free (by simp) hp) (k1.free (by simp) g3)
def d9:Sp:=λvs H Q _=>∃(p dq:Addr) (m:Int) (n:Nat),vs=[.ref p,.int m]/\aX H p dq n/\n<2^50/\0<m/\m<2^30/\∀(v:Nat) H',(v:Int)<m->aX H' p dq (n+1)->KB [p,dq] H H'->Q (.int (v:Nat)) H'
def Bu(T:Txt K mg)(F:HasFn K mg "_law_draw" gv ["deck","most"])(h_law_mix:ao P w K mg base aN 1 "_law_mix" ["number","turn"] CF):ao P w K mg base aN 2 "_law_draw" ["deck","most"] d9:=by
 refine F.eZ i7 (λvs H Q E h=>?_) (λf cdv A outer s H vs Q E hr h=>?_)
 ·obtain⟨p,dq,m,n,rfl,_⟩:=h;rfl
 ·obtain⟨p,c,m,n,rfl,⟨cells,i,t,z,hp,hc,hn0,i0,i1,k63,t0,t1⟩,hn,hm0,hm1,q⟩:=h;have hu:=aI hr;have hcp:c≠p:=by
   rintro rfl;rw[hp] at hc
   cases cells<;>cases hc
  have sp:=ar hp;have fin:∀(a:Int) (H':Hp),aX H' p c (n+1)->KB [p,c] H H'->Q (.int (a % m)) H':=λa H' D k=>by
   have h0:=NU a (Int.ne_of_gt hm0);have h1:=Nm a hm0;have:=q (a % m).toNat H' (by lia) D k
   rwa [Int.toNat_of_nonneg h0] at this
  refine⟨_,(Z.aq (Z.asg (Z.op (Z.aE K rfl) (Z.ix (Z.aA K rfl hu) (Z.v 0) Z.int) Z.int) (Z.mx (Z.v 0) Z.int))
   (Z.aq (Z.cZ (Z.aR aW (Z.ix (Z.aA K rfl hu) (Z.v 0) Z.int) (Z.cb (Z.bO K rfl) rfl T.bG (by decide +kernel) (Z.cons (Z.ix (Z.aA K rfl hu) (Z.v 0) Z.int) Z.nil))) (Z.ax (Z.ret (Z.op dA (Z.fc h_law_mix (Z.cons (Z.ix (Z.aA K rfl hu) (Z.v 0) Z.int) (Z.cons (Z.ix (Z.aA K rfl hu) (Z.v 0) Z.int) Z.nil))) (Z.v 1)))) Z.b9)
   (Z.aq (Z.se (i:=2) i7.nd (Z.ix (Z.aA K rfl hu) (Z.ix (Z.aA K rfl hu) (Z.v 0) Z.int) (Z.ix (Z.aA K rfl hu) (Z.v 0) Z.int)))
   (Z.aq (Z.cZ (Z.aR fW (Z.v 2) (Z.op xP Z.int Z.int)) (Z.aq (Z.asg (Z.op (Z.aE K rfl) (Z.ix (Z.aA K rfl hu) (Z.v 0) Z.int) Z.int) (Z.mx (Z.v 0) Z.int))
   (Z.ax (Z.ret (Z.op dA (Z.fc h_law_mix (Z.cons (Z.v 2) (Z.cons (Z.ix (Z.aA K rfl hu) (Z.v 0) Z.int) Z.nil))) (Z.v 1))))) Z.b9)
   (Z.aq (Z.asg (Z.op jP (Z.v 2) (Z.v 1)) (Z.mx (Z.ix (Z.aA K rfl hu) (Z.v 0) Z.int) (Z.ix (Z.aA K rfl hu) (Z.v 0) Z.int)))
   (Z.ax (Z.ret (Z.op dA (Z.v 2) (Z.v 1))))))))),?_⟩
  have x1:iY 4 1=some 1:=by decide
  have x2:iY 4 2=some 2:=by decide
  refine au λN hN=>?_;exists sp,hp,x2;have k1:KB [p,c] H (upd H p (.lst [.ref c,.int i,.int (t+1),.int z])):=KB.set (by simp)
  have p1:upd H p (.lst [.ref c,.int i,.int (t+1),.int z]) p=_:=aa;have c1:upd H p (.lst [.ref c,.int i,.int (t+1),.int z]) c=some (.lst (iV cells)):=by rw[ak hcp];exact hc
  generalize upd H p (.lst [.ref c,.int i,.int (t+1),.int z])=H1 at *;have s1:=ar p1;have sc:=ar c1;subst hN;refine au λN hN=>?_;exists s1,sc,bL;by_cases e1:i=(cells.length:Nat)
  ·exists JA e1,s1;refine⟨_,_,rfl,by lia,by lia,λv=>?_⟩
   nofun;exact⟨hm0,fin v H1 ⟨cells,i,t+1,z,p1,c1,hn0,i0,i1,k63,by lia,by lia⟩ k1⟩
  ·rw[Jy e1,hN];clear hN N;obtain⟨j,rfl⟩:∃j:Nat,i=(j:Int):=⟨i.toNat,by lia⟩
   have hj:j<cells.length:=by lia
   have aj:=CB hj;have hv0:=hn0 _ (JM hj);refine au λN hN=>?_;exists s1,sc,aj;generalize cells[j]=v at *;subst hN;refine au λN hN=>?_;nofun;refine⟨⟨by decide,by decide,by decide⟩,?_⟩
   by_cases e2:v<10^(18:Int).toNat
   ·rw[JA e2];exists s1,p1,x1;have k2:KB [p,c] H1 (upd H1 p (.lst [.ref c,.int ((j:Int)+1),.int (t+1),.int z])):=KB.set (by simp)
    have p2:upd H1 p (.lst [.ref c,.int ((j:Int)+1),.int (t+1),.int z]) p=_:=aa;have c2:upd H1 p (.lst [.ref c,.int ((j:Int)+1),.int (t+1),.int z]) c=some (.lst (iV cells)):=by rw[ak hcp];exact c1
    generalize upd H1 p (.lst [.ref c,.int ((j:Int)+1),.int (t+1),.int z])=H2 at *;refine⟨_,_,rfl,by lia,by lia,λv=>?_⟩
    nofun;exact⟨hm0,fin v H2 ⟨cells,(j:Int)+1,t+1,z,p2,c2,hn0,by lia,by lia,k63,by lia,by lia⟩ (k1.trans k2)⟩
   ·rw[Jy e2,hN];clear hN N;have xj:iY (iV cells).length (j:Int)=some j:=by rw[ke (by lia) (by rw[bL];lia)];simp
    refine au λM hM=>?_;exists s1,c1,xj;refine⟨⟨hm0,by lia⟩,?_⟩
    rw[EC];have k2:KB [p,c] H1 (upd H1 c (.lst (iV (cells.set j (v / m))))):=KB.set (by simp)
    have c2:upd H1 c (.lst (iV (cells.set j (v / m)))) c=_:=aa;have p2:upd H1 c (.lst (iV (cells.set j (v / m)))) p=_:=(ak hcp.symm).trans p1;generalize upd H1 c (.lst (iV (cells.set j (v / m))))=H2 at *;subst hM;nofun;refine⟨hm0,fin v H2 ⟨cells.set j (v / m),j,t+1,z,p2,c2,λx hx=>?_,by lia,by rw[Lm];lia,by rw[Lm];exact k63,by lia,by lia⟩ (k1.trans k2)⟩
    rcases Lk hx with hx|rfl
    ·exact hn0 x hx
    ·exact Int.ediv_nonneg hv0 (by lia)
def GZ(l:List Nat)(a:Nat):(iV (nZ l)).eraseIdx a=iV (nZ (l.eraseIdx a)):=by
 unfold iV nZ;simp only[KP,JN,Mo,MH]
def x_(l:List Nat)(n k:Nat):hU (iV (nZ l)) n (V.int (k:Int))=iV (nZ (hU l n k)):=by
 unfold hU iV nZ;simp only[JN,Mo,MH,Ke]
def bK(l:List Nat):(iV (nZ l)).length=l.length:=by rw[bL,jX]
def sk(K:W.Frag):Sp:=λvs H Q _=>∃(p dq:Addr) (m n:Nat),vs=[.ref p,.int (m:Nat)]/\aX H p dq n/\n<2^40/\2<=m/\m<=17/\∀(ls:List Int) (a:Addr) H',aX H' p dq (n+60)->KB [p,dq] H H'->H' a=some (.tup (iV ls))->ls.length=m->j6 ls->oi ls=true->Q (.ref a) H'
def xG(T:Txt K mg)(F:HasFn K mg "_law_lengths" dP ["deck","many"])(h_law_draw:ao P w K mg base aN 2 "_law_draw" ["deck","most"] d9):ao P w K mg base aN 3 "_law_lengths" ["deck","many"] (sk K):=by
 refine F.eZ bV (λvs H Q E h=>?_) (λf cdv A outer s H vs Q E hr h=>?_)
 ·obtain⟨p,dq,m,n,rfl,_⟩:=h;rfl
 ·have hu:=aI hr;obtain⟨p,dq,m,n,rfl,hd,hn,hm2,hm,q⟩:=h;refine⟨_,(Z.aq (Z.se (i:=2) bV.nd (Z.lst (Z.cons Z.int Z.nil)))
   (Z.aq (Z.fh JZ rfl (Z.oW rfl T.dz (Z.cons (Z.op cw (Z.v 1) Z.int) Z.nil)) (Z.aH (i:=3) bV.nd rfl (by right)) (Z.aq (Z.se (i:=4) bV.nd (Z.op (Z.aE K rfl) (Z.bm K rfl PySem.F.plainAttrs_list PySem.F.slot_list_pop PySem.F.type_list_pop pj (Z.v 2) (Z.cons (Z.fc h_law_draw (Z.cons (Z.v 0) (Z.cons (Z.cb (Z.bO K rfl) rfl T.bG (by decide +kernel) (Z.cons (Z.v 2) Z.nil)) Z.nil))) Z.nil)) Z.int))
   (Z.aq (Z.expr (Z.bm K rfl PySem.F.plainAttrs_list PySem.F.slot_list_insert PySem.F.type_list_insert iQ (Z.v 2) (Z.cons (Z.fc h_law_draw (Z.cons (Z.v 0) (Z.cons (Z.op (Z.aE K rfl) (Z.cb (Z.bO K rfl) rfl T.bG (by decide +kernel) (Z.cons (Z.v 2) Z.nil)) Z.int) Z.nil))) (Z.cons (Z.v 4) Z.nil))))
   (Z.ax (Z.expr (Z.bm K rfl PySem.F.plainAttrs_list PySem.F.slot_list_insert PySem.F.type_list_insert iQ (Z.v 2) (Z.cons (Z.fc h_law_draw (Z.cons (Z.v 0) (Z.cons (Z.op (Z.aE K rfl) (Z.cb (Z.bO K rfl) rfl T.bG (by decide +kernel) (Z.cons (Z.v 2) Z.nil)) Z.int) Z.nil))) (Z.cons (Z.v 4) Z.nil))))))))
   (Z.aq (Z.cZ (Z.aR aW (Z.fc h_law_draw (Z.cons (Z.v 0) (Z.cons Z.int Z.nil))) Z.int) (Z.aq (Z.se (i:=5) bV.nd (Z.fc h_law_draw (Z.cons (Z.v 0) (Z.cons (Z.v 1) Z.nil))))
   (Z.ax (Z.asg (Z.cb (iX rfl) rfl T.As (by decide +kernel) (Z.cons Z.int (Z.cons (Z.op (Z.aE K rfl) (Z.op (Z.aE K rfl) (Z.ix (Z.aA K rfl hu) (Z.v 2) (Z.v 5)) Z.int) (Z.fc h_law_draw (Z.cons (Z.v 0) (Z.cons Z.int Z.nil)))) Z.nil))) (Z.mx (Z.v 2) (Z.v 5))))) Z.b9)
   (Z.ax (Z.ret (Z.ct (Z.dJ K rfl) rfl T.cW (by decide +kernel) (Z.cons (Z.v 2) Z.nil))))))),?_⟩
  refine au λN hN=>?_;nofun;refine⟨by decide,λd hd0=>?_⟩
  obtain⟨k1,s1⟩:=cX hd0 (.lst [.int 0]);generalize upd H d _=H1 at *;have nd:=hd.new hd0;have dp:p≠d:=λz=>nd (by simp[z])
  have ddq:dq≠d:=λz=>nd (by simp[z])
  subst hN;refine au λN hN=>?_;nofun;refine⟨by lia,by lia,?_⟩
  have setD:∀{G:Hp} {n:Nat} {o:HO},aX G p dq n->aX (upd G d o) p dq n:=λh=>h.keep (KB.set (ex:=[d]) (by simp)) (by simpa using dp) (by simpa using ddq)
  have keep:∀{G G':Hp},KB [p,dq] H G->KB [p,dq] G G'->KB [p,dq] H G':=λa b=>a.trans b;have keepD:∀{G:Hp} {o:HO},KB [p,dq] H G->KB [p,dq] H (upd G d o):=λa b o e z=>by rw[ak (af e hd0)];exact a b o e z
  refine bR (λi σ H'=>∃(l:List Nat) (o3 o4:Option V),Pt l/\l.length=i+1/\aX H' p dq (n+3*i)/\KB [p,dq] H H'/\H' d=some (.lst (iV (nZ l)))/\σ=[some (.ref p),some (.int (m:Nat)),some (.ref d),o3,o4,none]) ⟨[0],none,none,⟨by decide,by simp,.inl rfl⟩,rfl,hd.kb k1,k1.all,s1,rfl⟩ ?_ ?_
  ·rintro i σ H' hi ⟨l,o3,o4,hl,hli,hD,hk,gd,rfl⟩;unfold aT;refine au λM hM=>?_;exists ar gd,bK;refine⟨.inl ⟨rfl,_,bg.of gd⟩,p,dq,_,_,rfl,hD,by lia,by lia,by lia,λa H2 ha D2 k2=>?_⟩
   have ha':a<l.length:=by lia
   have hle:=l.length_eraseIdx_of_lt ha';have gd2:=k2 _ _ gd nd;have six:seqIndex? (a:Int) (iV (nZ l)).length=some a:=by
    rw[bK];unfold seqIndex?;simp;lia
   have enZ:(iV (nZ l))[a]?=some (.int ((l[a]:Nat):Int)):=by unfold iV nZ;rw[J6,J6,Jr ha'];rfl
   refine⟨d,_,_,a,_,rfl,rfl,gd2,by lia,by lia,six,enZ,?_⟩
   rw[GZ];have D3:=setD (o:=.lst (iV (nZ (l.eraseIdx a)))) D2;have K3:=keepD (o:=.lst (iV (nZ (l.eraseIdx a)))) (hk.trans k2);have g3:upd H2 d (.lst (iV (nZ (l.eraseIdx a)))) d=_:=aa;generalize upd H2 d (.lst (iV (nZ (l.eraseIdx a))))=H3 at *;nofun;rw[show ((l[a]:Nat):Int)+1=((l[a]+1:Nat):Int) from rfl,hM];clear hM M;refine au λM hM=>?_;exists ar g3,bK,hle;refine⟨.inl ⟨rfl,_,bg.of g3⟩,p,dq,_,_,rfl,D3,by lia,by lia,by lia,λv H4 hv D4 k4=>?_⟩
   have g4:=k4 _ _ g3 nd;refine⟨d,_,_,_,rfl,rfl,g4,by lia,by lia,Kv (show _<=20 by rw[bK];lia) (by decide),?_⟩
   rw[bK,x_,hle];generalize hl2:hU (l.eraseIdx a) (min (v:Int).toNat (l.length-1)) (l[a]+1)=l2;have le2:l2.length=l.length:=by rw[<- hl2,B4,hle];lia
   have pe2:l2.Perm ((l[a]+1)::l.eraseIdx a):=by rw[<- hl2];exact pF ..
   clear hl2;have D5:=setD (o:=.lst (iV (nZ l2))) D4;have K5:=keepD (o:=.lst (iV (nZ l2))) (K3.trans k4);have g5:upd H4 d (.lst (iV (nZ l2))) d=_:=aa;generalize upd H4 d (.lst (iV (nZ l2)))=H5 at *;subst hM;dsimp only;refine jS λM hM=>?_;exists ar g5,bK;refine⟨.inl ⟨rfl,_,bg.of g5⟩,p,dq,_,_,rfl,D5,by lia,by lia,by lia,λv H6 hv D6 k6=>?_⟩
   have g6:=k6 _ _ g5 nd;refine⟨d,_,_,_,rfl,rfl,g6,by lia,by lia,Kv (show _<=20 by rw[bK];lia) (by decide),?_⟩
   rw[bK,x_];obtain⟨hP3,hL3⟩:=hl.next ha' (by lia) ((pF l2 (min (v:Int).toNat l2.length) (l[a]+1)).trans (List.Perm.cons _ pe2))
   rw[hM];exact⟨_,some _,some _,hP3,by lia,(setD D6).mono (by lia),keepD (K5.trans k6),aa,rfl⟩
  ·rintro σ H' ⟨l,o3,o4,hl,hli,hD,hk,gd,rfl⟩;have hlm:l.length=m:=by lia
   show N _ _;subst hN;have h1:∀x∈l,1<=x:=by
    rcases hl.one with e|e
    ·exfalso;rw[e] at hlm;simp at hlm;lia
    ·exact e
   have fin:∀(l:List Nat) (G:Hp),G d=some (.lst (iV (nZ l)))->KB [p,dq] H G->l.length=m->(∀x∈l,1<=x/\x<=20)->Kr.ks 40 l<=2^40->aX G p dq (n+60)->∀t,G t=none->Q (.ref t) (upd G t (.tup (iV (nZ l)))):=λl G hg hK a b c e t ht=>by
    refine q (nZ l) t _ (e.kb (KB.new ht)) (hK.trans (KB.new ht)) aa (by rw[jX];exact a) ⟨by rw[jX];lia,by rw[jX];lia,λx hx=>?_⟩ (Fh c)
    obtain⟨y,hy,rfl⟩:=Kg.mp hx;have:=b y hy;exact⟨by lia,by lia⟩
   refine au λN hN=>?_;nofun;refine⟨p,dq,2,_,rfl,hD,by lia,by decide,by decide,λv H2 hv D2 k2=>?_⟩
   have g2:=k2 _ _ gd nd;by_cases c:(v:Int)=0
   ·exists JA c;refine⟨p,dq,(m:Nat),_,rfl,D2,by lia,by lia,by lia,λa H3 ha D3 k3=>?_⟩
    have g3:=k3 _ _ g2 nd;have ha':a<l.length:=by lia
    have ea:bI (iV (nZ l)) (a:Int)=some (.int ((l[a]:Nat):Int)):=aU (by unfold iV nZ;rw[J6,J6,Jr ha'];rfl)
    exists ar g3,ea;refine⟨p,dq,5,_,rfl,D3,by lia,by decide,by decide,λv H4 hv D4 k4=>?_⟩
    have g4:=k4 _ _ g3 nd;obtain⟨nz,enz,hnz⟩:∃nz:Nat,(if ((l[a]:Nat):Int)+1+(v:Int)<20 then ((l[a]:Nat):Int)+1+(v:Int) else 20)=(nz:Int)/\l[a]<=nz/\nz<=20:=by
     have:=hl.le _ (JM ha');by_cases c:((l[a]:Nat):Int)+1+(v:Int)<20
     ·rw[JA c];exact⟨l[a]+1+v,by lia,by lia,by lia⟩
     ·rw[Jy c];exact⟨20,rfl,by lia,by lia⟩
    have ei:iY (iV (nZ l)).length (a:Int)=some a:=by rw[bK,ke (by lia) (by lia)];simp
    exists enz,g4,ei;have es:(iV (nZ l)).set a (.int (nz:Int))=iV (nZ (l.set a nz)):=by unfold iV nZ;rw[LP,LP]
    rw[es];have D5:=setD (o:=.lst (iV (nZ (l.set a nz)))) D4;have K5:=keepD (o:=.lst (iV (nZ (l.set a nz)))) ((hk.trans k2).trans (k3.trans k4));have g5:upd H4 d (.lst (iV (nZ (l.set a nz)))) d=_:=aa;generalize upd H4 d (.lst (iV (nZ (l.set a nz))))=H5 at *;subst hN;exists ar g5;refine fin _ H5 g5 K5 (by rw[Lm];exact hlm) (λx hx=>?_) (JC (zU ha' hnz.1) (N8 hl.ks)) (D5.mono (by lia))
    rcases Lk hx with hx|rfl
    ·exact⟨h1 x hx,by have:=hl.le x hx;lia⟩
    ·exact⟨by have:=h1 _ (JM ha');lia,hnz.2⟩
   ·exists Jy c;subst hN;exists ar g2;exact fin l H2 g2 (hk.trans k2) hlm (λx hx=>⟨h1 x hx,by have:=hl.le x hx;lia⟩) (N8 hl.ks) (D2.mono (by lia))
def CY(K:W.Frag):Sp:=λvs H Q _=>∃(a:Addr) (ls:List Int),vs=[.ref a]/\(H a=some (.tup (iV ls))\/H a=some (.lst (iV ls)))/\j6 ls/\∀H',KB [] H H'->Q (.bl (oi ls)) H'
def r6(h:H a=some (.tup xs)\/H a=some (.lst xs)):∃b,sq H a=some (b,xs):=h.elim (λh=>⟨_,aF h⟩) λh=>⟨_,ar h⟩
def yI(ha:H a=some (.tup (iV ls))\/H a=some (.lst (iV ls)))(hn:ls.length<64)(q:∀ns':List Int,ns'.Perm ls->ns'.Pairwise (·<=·)->∀l,H l=none->Q (.ref l) (upd H l (.lst (ns'.map V.int)))):Y.Ad K [.ref a] H Q:=ha.elim (λh=>.inl ⟨a,ls,rfl,bq.of h,hn,q⟩) λh=>.inr ⟨a,ls,rfl,bg.of h,hn,q⟩
def DD(T:Txt K mg)(F:HasFn K mg "can_be" kq ["lengths"]):ao P w K mg base aN 1 "can_be" ["lengths"] (CY K):=by
 refine F.eZ cq (λvs H Q E h=>?_) (λf cdv A outer s H vs Q E hr h=>?_)
 ·obtain⟨a,ls,rfl,_⟩:=h;rfl
 ·have hu:=aI hr;obtain⟨a,ls,rfl,ha,hL,q⟩:=h;refine⟨_,(Z.aq (Z.se (i:=1) cq.nd Z.int)
   (Z.aq (Z.se (i:=2) cq.nd Z.int)
   (Z.aq (Z.se (i:=3) cq.nd (Z.cb (Z.bO K rfl) rfl T.bG (by decide +kernel) (Z.cons (Z.v 0) Z.nil)))
   (Z.aq (Z.fh JZ rfl (Z.any K rfl (Z.cb (Y.sG K rfl) rfl T.lV (by decide +kernel) (Z.cons (Z.v 0) Z.nil))) (Z.aH (i:=4) cq.nd rfl (by right)) (Z.aq (Z.cZ (Z.aR aW (Z.v 1) Z.int) (Z.ax (Z.ret Z.bl)) Z.b9)
   (Z.aq (Z.yD JZ (Z.tw (Z.qT (Z.aR fW (Z.v 2) (Z.v 4)) (Z.jw (Z.aR fW (Z.v 1) (Z.v 3))))) (Z.aq (Z.se (i:=1) cq.nd (Z.op cF (Z.v 1) Z.int))
   (Z.ax (Z.se (i:=2) cq.nd (Z.op (Z.aE K rfl) (Z.v 2) Z.int)))))
   (Z.aq (Z.cZ (Z.aR xq (Z.v 1) (Z.v 3)) (Z.ax (Z.ret Z.bl)) Z.b9)
   (Z.aq (Z.se (i:=1) cq.nd (Z.op cw (Z.v 1) Z.int))
   (Z.ax (Z.se (i:=3) cq.nd (Z.op cw (Z.v 3) Z.int))))))))
   (Z.ax (Z.ret Z.bl)))))),?_⟩
  refine au λN hN=>?_;nofun;subst hN;refine au λN hN=>?_;nofun;subst hN;obtain⟨kd,hsq⟩:=r6 ha;refine au λN hN=>?_;exists hsq;subst hN;refine au λN hN=>?_;nofun;refine yI ha (by have:=hL.2.1;lia) λrs hp hs l hl=>?_
  obtain⟨k1,s1⟩:=cX hl (.lst (rs.map V.int));generalize upd H l _=H1 at *;simp only[ar s1];refine dN (xs:=iV rs) (λi σ H'=>∃(f d n:Int) (s4:Option V),H1=H'/\(∀x∈rs.drop i,1<=x/\x<=40/\d<=x)/\0<=f/\0<=d/\n=(rs.drop i).length/\(oi ls=true ↔ Kr.fit ((rs.drop i).map Int.toNat) f.toNat d.toNat 40)/\σ=[some (.ref a),some (.int f),some (.int d),some (.int n),s4]) ⟨1,0,_,none,rfl,λx hx=>by have:=hL.2.2 x (hp.mem_iff.mp hx);lia,by decide,by decide,by rw[KD,hp.length_eq,bL],?_,rfl⟩ ?_ ?_ ?_
  ·unfold oi KS Kr.fit;rw[decide_eq_true_eq,KD,Kr.iz (hp.map Int.toNat),show (1:Int).toNat*2^(40-(0:Int).toNat)=2^40 from rfl]
  ·rintro i σ H' _ ⟨f,d,n,s4,rfl,_⟩;exact bg.of s1
  ·rintro i x σ H' hx ⟨f,d,n,s4,rfl,hb,f0,d0,hn,hi,rfl⟩;obtain⟨hir,rfl⟩:=kx hx;have ed:=Ko hir;have hs2:(rs.drop i).Pairwise (·<=·):=List.Pairwise.drop hs;rw[ed] at hb hn hi hs2;generalize rs[i]=l at *;generalize rs.drop (i+1)=r at *;obtain⟨hl1,hl2,hl3⟩:=hb l (by simp)
   have hle:∀x∈r,l<=x:=(Kc.mp hs2).1;unfold aT;refine au λM hM=>?_;by_cases hf:f=0
   ·exists JA hf;have:oi ls=false:=by
     cases c:oi ls with
     |false=>rfl
     |true=>have:=hi.mp c;rw[hf] at this;exact absurd this Kr.zT
    rw[this] at q;exact q _ k1
   ·exists Jy hf;subst hM;refine au λM hM=>?_;refine⟨λm σ H'=>H1=H'/\∃f d:Int,0<f/\0<=d/\d<=l/\m=(l-d).toNat/\(oi ls=true ↔ Kr.fit ((l::r).map Int.toNat) f.toNat d.toNat 40)/\σ=[some (.ref a),some (.int f),some (.int d),some (.int n),some (.int l)],⟨_,rfl,f,d,by lia,d0,hl3,rfl,hi,rfl⟩,?_⟩
    rintro m σ H' ⟨rfl,f,d,f0,d0,dl,rfl,hi,rfl⟩;have after:(d=l\/n<=f)->M [some (.ref a),some (.int f),some (.int d),some (.int n),some (.int l)] H1:=λhc=>by
     subst hM;refine au λM hM=>?_;by_cases h3:n<=f
     ·exists JA h3;have:oi ls=true:=hi.mpr (Kr.q_ (λx hx=>by
       obtain⟨y,hy,rfl⟩:=Kg.mp hx;rcases Jw.mp hy with rfl|hy
       ·lia
       ·have:=hle y hy;lia) (by rw[Jt];lia))
      rw[this] at q;exact q _ k1
     ·exists Jy h3;subst hM;refine au λM hM=>?_;nofun;subst hM;refine jS λM hM=>?_;nofun;rw[hM];have hd:d=l:=hc.resolve_right h3;subst hd;refine⟨f-1,d,n-1,some _,rfl,λx hx'=>⟨(hb x (by simp[hx'])).1,(hb x (by simp[hx'])).2.1,hle x hx'⟩,by lia,d0,by rw[hn,JE];lia,?_,rfl⟩
      rw[hi,Ke,Kr.Av (by lia),show (f-1).toNat=f.toNat-1 by lia]
    by_cases c1:d<l
    ·by_cases c2:f<n
     ·exists JA c1,JA c2;refine⟨λσ' H'=>∃m',m'<(l-d).toNat/\(H1=H'/\∃f d:Int,0<f/\0<=d/\d<=l/\m'=(l-d).toNat/\(oi ls=true ↔ Kr.fit ((l::r).map Int.toNat) f.toNat d.toNat 40)/\σ'=[some (.ref a),some (.int f),some (.int d),some (.int n),some (.int l)]),λ_ _ h=>h,?_⟩;refine⟨.inr (by decide),?_⟩
      refine⟨_,?_,rfl,f*2,d+1,by lia,by lia,by lia,rfl,?_,rfl⟩
      ·lia
      ·rw[hi,Kr.sC (l:=l.toNat) (by lia) (by lia),show (f*2).toNat=f.toNat*2 by lia,show (d+1).toNat=d.toNat+1 by lia]
     ·exists JA c1,Jy c2;exact after (.inr (by lia))
    ·exists Jy c1;exact after (.inl (by lia))
  ·rintro σ H' ⟨f,d,n,s4,rfl,_,_,_,_,hi,rfl⟩;rw[bL,L5] at hi;show N _ _;subst hN;nofun;have:oi ls=true:=hi.mpr (JJ _);rw[this] at q;exact q _ k1
def IU:Option (List Nat)->V
 |none=>.aL
 |some w=>.str (wd w)
def nF(ws:List (List Nat)):(wV ws).length=ws.length:=Jt ..
def Ak(K:W.Frag):Sp:=λvs H Q _=>∃(a:Addr) (ls:List Int),vs=[.ref a]/\H a=some (.tup (iV ls))/\j6 ls/\oi ls=true/\∀b H',KB [] H H'->H' b=some (.tup (wV (wordsOf Cw.fX ls)))->Q (.ref b) H'
def Cr(T:Txt K mg)(F:HasFn K mg "code_of" dj ["lengths"])(hcan_be:ao P w K mg base aN 1 "can_be" ["lengths"] (CY K))(hword_behind:ao P w K mg base aN 1 "word_behind" ["ahead","length"] GI):ao P w K mg base aN 4 "code_of" ["lengths"] (Ak K):=by
 obtain⟨c,Pt,htab,hcc⟩:=T.qk.ex;refine F.Ii dR (λvs H Q E h=>?_) (λf cdv A outer s H vs Q E hr hm gW h=>?_)
 ·obtain⟨a,ls,rfl,_⟩:=h;rfl
 ·have:=hcc _ _ ⟨hm,gW⟩;subst this;have hu:=aI hr;obtain⟨a,ls,rfl,ha,hL,ho,q⟩:=h;refine⟨_,(Z.aq (Z.cZ (Z.je (Z.gT K rfl (Z.fc hcan_be (Z.cons (Z.v 0) Z.nil)))) (Z.ax Z.Ja) Z.b9)
   (Z.aq (Z.sec (j:=1) dR.nd (osc:=ae dj) (ON:=["lengths","words","ahead","thing"]) (own:=["length"]) (N:=["length","lengths","words","ahead","thing"]) (az.of rfl (by decide +kernel)) (Z.any K rfl (Z.v 0)) (λnd _ _ _ _=>(Z.aH (i:=0) nd rfl (by right))) (λ_ _ _ _=>Z.pe) (λ_ _ _ _=>Z.str))
   (Z.aq (Z.se (i:=2) dR.nd Z.aL)
   (Z.aq (Z.fh JZ rfl (Z.any K rfl (Z.Hk (k:=0) (j:=0) K rfl (by decide) htab rfl rfl rfl rfl rfl T.lV (Z.cons (Z.ct Y.qe rfl T.dz (by decide +kernel) (Z.cons (Z.cb (Z.bO K rfl) rfl T.bG (by decide +kernel) (Z.cons (Z.v 0) Z.nil)) Z.nil)) Z.nil) (hr.mono (by decide)) rfl (by decide) rfl rfl rfl rfl rfl rfl rfl (λ_ _ _ _=>rfl))) (Z.aH (i:=3) dR.nd rfl (by right)) (Z.aq (Z.asg (Z.fc hword_behind (Z.cons (Z.v 2) (Z.cons (Z.ix (Z.aA K rfl hu) (Z.v 0) (Z.v 3)) Z.nil))) (Z.mx (Z.v 1) (Z.v 3)))
   (Z.ax (Z.se (i:=2) dR.nd (Z.ix (Z.aA K rfl hu) (Z.v 1) (Z.v 3))))))
   (Z.ax (Z.ret (Z.ct (Z.dJ K rfl) rfl T.cW (by decide +kernel) (Z.cons (Z.v 1) Z.nil)))))))),?_⟩
  refine au λN hN=>?_;nofun;refine⟨a,ls,rfl,.inl ha,hL,λH1 k1=>?_⟩;exists ho,Bool.not_true;rw[Jy (λz=>Bool.noConfusion z),hN];clear hN N;have ha1:=k1.n ha;refine au λN hN=>?_;exists aF ha1;refine cm (xs:=iV ls) (JC (show _<=20 by rw[bL];exact hL.2.1) (by decide)) (λD i ys H'=>H' D=some (.lst ys)/\ys=wV (List.replicate i [])/\KB [] H1 H'/\H1 D=none) (λD hD=>⟨aa,rfl,KB.new hD,hD⟩) (λD i ys H' h=>⟨h.1,by rw[h.2.1,nF,JI]⟩) (λD i ys H' h=>bq.of (h.2.2.1 _ _ ha1 (by simp))) ?_ ?_
  ·rintro D i ys H' x R hx ⟨g1,rfl,g3,g4⟩ kk;nofun;refine kk _ _ g1 ⟨aa,?_,λb o e _=>?_,g4⟩
   ·rw[List.replicate_succ',wV,wV,JN];rfl
   ·rw[ak (af e g4)];exact g3 b o e (by simp)
  rintro D ys H2 ⟨g1,rfl,g3,g4⟩;rw[bL] at g1;show N _ _;subst hN;refine au λN hN=>?_;nofun;subst hN;have h02:=k1.trans g3;have D0:H D=none:=k1.free (by simp) g4
  have ha2:=h02.n ha;refine au λN hN=>?_;exists aF ha2;refine .inl ⟨_,rfl,λr hr0=>?_⟩;have k3:KB [] H2 (upd H2 r (.pd 0 ((iV ls).length:Nat))):=KB.new hr0;have s3:upd H2 r (.pd 0 ((iV ls).length:Nat)) r=some (.pd 0 (ls.length:Nat)):=by rw[aa,bL]
  generalize upd H2 r (.pd 0 ((iV ls).length:Nat))=H3 at *;have le:(kT ls.length).length=ls.length:=by rw[Jt,Kh]
  have ha3:=k3.n ha2;refine⟨r,kT ls.length,ls,rfl,⟨ls.length,s3,rfl⟩,le.symm,by rw[le];have:=hL.2.1;lia,λi v k e1 e2 H' g=>?_,λH4 l g hl=>?_⟩
  ·have hi:i<ls.length:=(Ju.mp e2).1;have e3:(kT ls.length)[i]?=some (.int (i:Int)):=by simp[hi]
   rw[e3] at e1;cases e1;exact⟨_,a,iV ls,rfl,rfl,bq.of (g.same _ _ ha3),aU (by unfold iV;rw[J6,e2];rfl)⟩
  have eo:jF ls (kT ls.length)=(aC ls).map λk=>V.int ((k:Nat):Int):=BJ ..;rw[eo];have k4:KB [] H3 (upd H4 l (.lst ((aC ls).map λk=>V.int ((k:Nat):Int)))):=λb o e _=>by rw[ak (af (g.same _ _ e) hl)];exact g.same _ _ e
  have s4:upd H4 l (.lst ((aC ls).map λk=>V.int ((k:Nat):Int))) l=_:=aa;have gD4:=k4.n (k3.n g1);have lD:l≠D:=λz=>by
   have:=g.same _ _ (k3.n g1);rw[<- z,hl] at this;cases this
  generalize upd H4 l (.lst ((aC ls).map λk=>V.int ((k:Nat):Int)))=H5 at *;have h05:KB [] H H5:=h02.trans (k3.trans k4);have a5:a≠D:=λz=>by rw[z,D0] at ha;cases ha
  clear k3 k4 g hl hr0 s3 ha3 le eo g1 h02 ha2 g3 g4 ha1 k1;refine dN (xs:=(aC ls).map λk=>V.int ((k:Nat):Int)) (λi σ H'=>∃o:Option V,i<=(aC ls).length/\(∀v,(fQ ls ((aC ls).take i)).1=some v->v.length<=40)/\H' D=some (.lst (wV (fQ ls ((aC ls).take i)).2))/\H' l=some (.lst ((aC ls).map λk=>V.int ((k:Nat):Int)))/\KB [] H H'/\σ=[some (.ref a),some (.ref D),some (IU (fQ ls ((aC ls).take i)).1),o]) ⟨none,JJ _,(λv z=>by cases z),gD4,s4,h05,rfl⟩ (λi σ H' _ h=>by obtain⟨o,_,_,_,h,_⟩:=h;exact bg.of h) ?_ ?_
  ·rintro i x σ H' hx ⟨o,hi,hw,gD,gl,h0,rfl⟩;have hio:i<(aC ls).length:=by have:=(Ju.mp hx).1;rw[Jt] at this;exact this
   obtain rfl:x=.int (((aC ls)[i]:Nat):Int):=by
    rw[J6,Jr hio] at hx;exact (Option.some.inj hx).symm
   have hth:(aC ls)[i]<ls.length:=iA (JM hio);have eT:(aC ls).take (i+1)=(aC ls).take i++[(aC ls)[i]]:=by rw[Kp,Jr hio];rfl
   rw[eT];generalize (aC ls)[i]=th at *;generalize (aC ls).take i=done at *;have ex:bI (iV ls) (th:Int)=some (.int ls[th]):=CB hth;have hlt:=hL.2.2 _ (JM hth);have en:ls[th]=((aO ls th:Nat):Int):=by
    unfold aO;rw[Jz,Jr hth];simp;lia
   have hn20:aO ls th<=40:=by lia
   have eD:fQ ls (done++[th])=Cw.along Cw.fX (aO ls) [th] (fQ ls done):=Cw.fR _ _ _;have hwl:(fQ ls done).2.length=ls.length:=DR ls done;have gt:=aF (h0.n ha);obtain⟨n,hn⟩:∃n,aO ls th=n:=⟨_,rfl⟩;rw[hn] at en hn20;have fin:∀y:List Nat,y.length<=40->fQ ls (done++[th])=(some y,(fQ ls done).2.set th y)->∀M,M=(λσ H'=>∃o:Option V,i+1<=(aC ls).length/\(∀v,(fQ ls (done++[th])).1=some v->v.length<=40)/\H' D=some (.lst (wV (fQ ls (done++[th])).2))/\H' l=some (.lst ((aC ls).map λk=>V.int ((k:Nat):Int)))/\KB [] H H'/\σ=[some (.ref a),some (.ref D),some (IU (fQ ls (done++[th])).1),o])->M [some (.ref a),some (.ref D),some (.str (wd y)),some (.int (th:Nat))] (upd H' D (.lst ((wV (fQ ls done).2).set th (.str (wd y))))):=λy hy e M hM=>by
    rw[hM,e];refine⟨some _,hio,λv z=>by cases z;exact hy,?_,by rw[ak lD];exact gl,λb u e _=>by rw[ak (af e D0)];exact h0.n e,rfl⟩
    rw[aa];unfold wV;rw[LP]
   have xk:iY (wV (fQ ls done).2).length (th:Int)=some th:=by rw[ke (by lia) (by rw[nF,hwl];lia),JW]
   have setI:∀y:List Nat,bI ((wV (fQ ls done).2).set th (.str (wd y))) (th:Int)=some (.str (wd y)):=λy=>aU (Lf (by rw[nF,hwl];exact hth))
   unfold aT;refine au λM hM=>?_;exists gt,ex
   cases hs:(fQ ls done).1 with
   |none =>
    refine⟨n,hn20,.inl ⟨by rw[en];rfl,?_⟩⟩
    exists gD,xk;subst hM;dsimp only;refine jS λM hM=>?_;exists setI;refine fin _ (by rw[List.length_replicate];exact hn20) ?_ M hM
    rw[eD];generalize fQ ls done=st at *;obtain⟨x,ws⟩:=st;obtain rfl:x=none:=hs;subst hn;rfl
   |some v =>
    refine⟨n,hn20,.inr ⟨v,by rw[en];rfl,hw v hs,?_⟩⟩
    exists gD,xk;subst hM;dsimp only;refine jS λM hM=>?_;exists setI;refine fin _ (uk (hw v hs) hn20) ?_ M hM;rw[eD];generalize fQ ls done=st at *;obtain⟨x,ws⟩:=st;obtain rfl:x=some v:=hs;subst hn;rfl
  ·rintro σ H' ⟨o,_,_,gD,_,h0,rfl⟩;rw[Jt,Kb] at gD;show N _ _;subst hN;exists ar gD;exactλb hb=>q b _ (h0.trans (KB.new hb)) aa
def Co(H:Hp)(ca:Addr)(cd:List (List (List Nat))):Prop:=∃a0 a1 a2,H ca=some (.lst [.ref a0,.ref a1,.ref a2])/\H a0=some (.tup (wV (cd.getD 0 [])))/\H a1=some (.tup (wV (cd.getD 1 [])))/\H a2=some (.tup (wV (cd.getD 2 [])))
def Co.keep{ca:Addr}{cd:List (List (List Nat))}(h:Co H ca cd)(k:KB ex H H')(n:ca∉ex)(hx:∀b∈ex,∀xs,H b≠some (.tup xs)):Co H' ca cd:=by
 obtain⟨a0,a1,a2,h1,h2,h3,h4⟩:=h;exact⟨a0,a1,a2,k _ _ h1 n,k _ _ h2 λz=>hx _ z _ h2,k _ _ h3 λz=>hx _ z _ h3,k _ _ h4 λz=>hx _ z _ h4⟩
def Co.kb{ca:Addr}{cd:List (List (List Nat))}(h:Co H ca cd)(k:KB [] H H'):Co H' ca cd:=h.keep k (by simp) (by simp)
def kW:=bJ
def NT(ex:List Addr)(H:Hp):Prop:=∀b∈ex,∀xs,H b≠some (.tup xs)
def NT.nil(H:Hp):NT [] H:=λb hb=>nomatch hb
def aX.nt{n:Nat}(h:aX H p dq n):NT [p,dq] H:=λb hb xs e=>by
 obtain⟨ys,e'⟩:=h.lst b hb;rw[e] at e';cases e'
def vC(H:Hp)(b:Addr)(bk:List (List Int)):Prop:=∃as:List Addr,H b=some (.tup (as.map V.ref))/\as.length=bk.length/\∀(i:Nat) (a:Addr),as[i]?=some a->H a=some (.tup (iV (bk.getD i [])))
def vC.keep{bk:List (List Int)}(h:vC H b bk)(k:KB ex H H')(hx:NT ex H):vC H' b bk:=by
 obtain⟨as,h1,h2,h3⟩:=h;exact⟨as,k _ _ h1 λz=>hx _ z _ h1,h2,λi a e=>k _ _ (h3 i a e) λz=>hx _ z _ (h3 i a e)⟩
def vC.kb{bk:List (List Int)}(h:vC H b bk)(k:KB [] H H'):vC H' b bk:=h.keep k (NT.nil _)
def qm{l:List α}(h:l.length=3):∃a b c,l=[a,b,c]:=by
 rcases l with _|⟨a,_|⟨b,_|⟨c,_|⟨d,l⟩⟩⟩⟩<;>first|exact⟨_,_,_,rfl⟩ | (exfalso;revert h;simp)
def t9(K:W.Frag):Sp:=λvs H Q _=>∃(b:Addr) (bk:List (List Int)),vs=[.ref b]/\vC H b bk/\Bk bk/\∀ca H',H ca=none->KB [] H H'->Co H' ca (dD bk)->Q (.ref ca) H'
def yB(T:Txt K mg)(F:HasFn K mg "codes_of" fF ["book"])(hcode_of:ao P w K mg base aN 4 "code_of" ["lengths"] (Ak K)):ao P w K mg base aN 6 "codes_of" ["book"] (t9 K):=by
 refine F.eZ pR (λvs H Q E h=>?_) (λf cdv A outer s H vs Q E hr h=>?_)
 ·obtain⟨b,bk,rfl,_⟩:=h;rfl
 ·have hu:=aI hr;obtain⟨b,bk,rfl,hb,hB,q⟩:=h;obtain⟨as,hb1,hb2,hb3⟩:=hb;obtain⟨l0,l1,l2,rfl,_,_,_,hl⟩:=hB;refine⟨_,(Z.ax (Z.ret (Z.vy (osc:=ae fF) (ON:=["book"]) (own:=["lengths"]) (N:=["lengths","book"]) (az.of rfl (by decide +kernel)) (Z.any K rfl (Z.v 0)) (λnd _ _ _ _=>(Z.aH (i:=0) nd rfl (by right))) (λ_ _ _ _=>Z.pe) (λ_ _ _ _=>(Z.fc hcode_of (Z.cons (Z.v 0) Z.nil)))))),?_⟩
  exists aF hb1;refine cm (xs:=as.map V.ref) (JC (show _<=3 by rw[Jt,hb2];exact J8 3) (by decide)) (λD i ys H'=>H D=none/\H' D=some (.lst ys)/\KB [] H H'/\∃cs:List Addr,ys=cs.map V.ref/\cs.length=i/\∀(j:Nat) (c:Addr),cs[j]?=some c->H' c=some (.tup (wV (wordsOf Cw.fX (List.getD [l0,l1,l2] j []))))) (λD hD=>⟨hD,aa,KB.new hD,[],rfl,rfl,λj c e=>nomatch e⟩) (λD i ys H' h=>⟨h.2.1,by obtain⟨_,_,_,cs,rfl,e,_⟩:=h;rw[Jt,e]⟩) (λD i ys H' h=>bq.of (h.2.2.1 _ _ hb1 (by simp))) ?_ ?_
  ·rintro D i ys H' x R hx ⟨g0,g1,g2,cs,rfl,g4,g5⟩ kk;obtain⟨a,ea,rfl⟩:∃a,as[i]?=some a/\x=.ref a:=by
    rw[J6] at hx;obtain⟨a,e,rfl⟩:=JS.mp hx;exact⟨a,e,rfl⟩
   have hi:i<3:=by have:=(Ju.mp ea).1;rw[hb2] at this;exact this
   have hm:List.getD [l0,l1,l2] i []∈[l0,l1,l2]:=by
    rcases mD hi with rfl|rfl|rfl<;>simp
   nofun;refine⟨a,_,rfl,g2.n (hb3 i a ea),(hl _ hm).1,(hl _ hm).2,λc H5 k5 e5=>?_⟩;have gD:=k5.n g1;have cD:c≠D:=λz=>by rw[z,gD] at e5;cases e5
   refine kk _ _ gD ⟨g0,aa,λu o e _=>by rw[ak (af e g0)];exact k5.n (g2.n e),cs++[c],by rw[JN];rfl,by rw[Jv,g4];rfl,λj d e=>?_⟩
   rcases Ku j cs.length with hj|hj
   ·rw[JX hj] at e;have e6:=k5.n (g5 j d e);rw[ak (λz=>by rw[z,gD] at e6;cases e6)];exact e6
   ·rw[JP hj] at e;obtain⟨hj2,rfl⟩:=Ju.mp e;have:j=i:=by simp at hj2;lia
    subst this;rw[ak (show _≠D by simpa using cD)]
    simpa using e5
  ·rintro D ys H' ⟨g0,g1,g2,cs,rfl,g4,g5⟩;rw[Jt,hb2] at g4;obtain⟨c0,c1,c2,rfl⟩:=qm g4;exact q D H' g0 g2 ⟨c0,c1,c2,g1,g5 0 c0 rfl,g5 1 c1 rfl,g5 2 c2 rfl⟩
def zj(K:W.Frag):Sp:=λvs H Q _=>∃(p dq:Addr) (n:Nat),vs=[.ref p]/\aX H p dq n/\n<2^38/\∀(bk:List (List Int)) (b:Addr) H',aX H' p dq (n+200)->KB [p,dq] H H'->vC H' b bk->Bk bk->Q (.ref b) H'
def Bh(T:Txt K mg)(F:HasFn K mg "_law_book" eR ["deck"])(h_law_draw:ao P w K mg base aN 2 "_law_draw" ["deck","most"] d9)(h_law_lengths:ao P w K mg base aN 3 "_law_lengths" ["deck","many"] (sk K)):ao P w K mg base aN 4 "_law_book" ["deck"] (zj K):=by
 refine F.eZ oq (λvs H Q E h=>?_) (λf cdv A outer s H vs Q E hr h=>?_)
 ·obtain⟨p,dq,n,rfl,_⟩:=h;rfl
 ·have hu:=aI hr;obtain⟨p,dq,n,rfl,hd,hn,q⟩:=h;refine⟨_,(Z.aq (Z.cZ (Z.aR aW (Z.fc h_law_draw (Z.cons (Z.v 0) (Z.cons Z.int Z.nil))) Z.int) (Z.ax (Z.ret (Z.tup (Z.cons (Z.op (Y.oV K rfl) (Z.tup (Z.cons Z.int Z.nil)) Z.int) (Z.cons (Z.op (Y.oV K rfl) (Z.tup (Z.cons Z.int Z.nil)) Z.int) (Z.cons (Z.op (Y.oV K rfl) (Z.tup (Z.cons Z.int Z.nil)) Z.int) Z.nil)))))) Z.b9)
   (Z.ax (Z.ret (Z.ct (Z.dJ K rfl) rfl T.cW (by decide +kernel) (Z.cons (Z.vy (osc:=ae eR) (ON:=["deck"]) (own:=["many"]) (N:=["many","deck"]) (az.of rfl (by decide +kernel)) (Z.any K rfl (Z.tup (Z.consts rfl))) (λnd _ _ _ _=>(Z.aH (i:=0) nd rfl (by right))) (λ_ _ _ _=>Z.pe) (λ_ _ _ _=>(Z.fc h_law_lengths (Z.cons (Z.v 1) (Z.cons (Z.v 0) Z.nil))))) Z.nil))))),?_⟩
  refine au λN hN=>?_;nofun;refine⟨p,dq,4,_,rfl,hd,by lia,by decide,by decide,λv H1 hv D1 k1=>?_⟩
  by_cases c:(v:Int)=0
  ·exists JA c;have rep:∀(G:Hp) (j k:Int) (Q:VK),1<k->k<=20->(∀t u G',KB [] G G'->G t=none->u≠t->G' u=some (.tup (iV (List.replicate k.toNat j)))->Q (.ref u) G')->(0+1<=sizeLine/\∀t,G t=none->Y.CA K (.ref t) (.int k) (upd G t (.tup [.int j])) Q):=λG j k Q h1 h2 q=>by
    refine⟨by decide,λt ht=>.inr ⟨t,k,_,rfl,rfl,bq.of aa,by simp,(show 1<=1000 by decide),h1,by lia,λu hu=>?_⟩⟩
    have e:(List.replicate k.toNat [V.int j]).flatten=iV (List.replicate k.toNat j):=by
     unfold iV;rw[Nk];generalize k.toNat=m
     induction m with
     |zero=>rfl
     |succ m ih=>rw[Kk,Lr,ih];rfl
    rw[e];have ut:u≠t:=λz=>by rw[z,aa] at hu;cases hu
    exact q t u _ ((KB.new ht).trans (KB.new hu)) ht ut aa
   refine rep H1 4 9 _ (by decide) (by decide) λt1 u1 G1 g1 _ _ e1=>?_
   refine rep G1 5 17 _ (by decide) (by decide) λt2 u2 G2 g2 _ _ e2=>?_
   refine rep G2 3 8 _ (by decide) (by decide) λt3 u3 G3 g3 _ _ e3=>⟨by decide,λb hb=>?_⟩
   have kk:KB [] H1 (upd G3 b (.tup [.ref u1,.ref u2,.ref u3])):=((g1.trans g2).trans g3).trans (KB.new hb);have up:∀{x:Addr} {o:HO},G3 x=some o->upd G3 b (.tup [.ref u1,.ref u2,.ref u3]) x=some o:=λe=>by rw[ak (af e hb)];exact e
   refine q [List.replicate 9 4,List.replicate 17 5,List.replicate 8 3] b _ ((D1.kb kk).mono (by lia)) (k1.trans kk.all) ⟨[u1,u2,u3],aa,rfl,λi a e=>?_⟩ ⟨_,_,_,rfl,rfl,rfl,rfl,λl hl=>?_⟩
   ·have hi:i<3:=(Ju.mp e).1;rcases mD hi with rfl|rfl|rfl
    ·cases e;exact up (g3.n (g2.n e1))
    ·cases e;exact up (g3.n e2)
    ·cases e;exact up e3
   have rr:∀(n:Nat) (k:Int),0<n->n<=20->1<=k->k<=20->j6 (List.replicate n k):=λn k a b c d=>⟨by rw[JI];exact a,by rw[JI];exact b,λx hx=>by rw[(K6.mp hx).2];lia⟩
   rcases Jw.mp hl with rfl|hl
   ·exact⟨rr 9 4 (by decide) (by decide) (by decide) (by decide),by decide +kernel⟩
   ·rcases Jw.mp hl with rfl|hl
    ·exact⟨rr 17 5 (by decide) (by decide) (by decide) (by decide),by decide +kernel⟩
    ·rw[JH.mp hl];exact⟨rr 8 3 (by decide) (by decide) (by decide) (by decide),by decide +kernel⟩
  ·exists Jy c;subst hN;nofun;refine⟨by decide,λt ht=>?_⟩
   obtain⟨k2,s2⟩:=cX ht (.tup [.int 9,.int 17,.int 8]);generalize upd H1 t _=H2 at *;have D2:=D1.kb k2;refine cm (xs:=iV [9,17,8]) (by decide) (λD i ys H'=>H2 D=none/\H' D=some (.lst ys)/\aX H' p dq (n+1+60*i)/\KB [p,dq] H2 H'/\∃(as:List Addr) (done:List (List Int)),ys=as.map V.ref/\as.length=i/\done.map List.length=[9,17,8].take i/\(∀l∈done,j6 l/\oi l=true)/\∀(j:Nat) (a:Addr),as[j]?=some a->H' a=some (.tup (iV (done.getD j [])))) (λD hD=>⟨hD,aa,D2.kb (KB.new hD),KB.new hD,[],[],rfl,rfl,rfl,(λl h=>nomatch h),λj a e=>nomatch e⟩) (λD i ys H' h=>⟨h.2.1,by obtain⟨_,_,_,_,as,_,rfl,e,_⟩:=h;rw[Jt,e]⟩) (λD i ys H' h=>bq.of (h.2.2.2.1 _ _ s2 λz=>D2.nt _ z _ s2)) ?_ ?_
   ·rintro D i ys H' x R hx ⟨g0,g1,gd,gk,as,done,rfl,ga,gl,gok,gat⟩ kk;obtain⟨hi,rfl⟩:=kx hx;have nD:=D2.new g0;have dl:done.length=i:=by
     have:=Km List.length gl;rw[Jt,JG] at this;have h3:([9,17,8]:List Nat).length=3:=rfl;have hi3:i<3:=hi;lia
    have key:∀m:Nat,2<=m->m<=17->([9,17,8]:List Nat).take (i+1)=([9,17,8]:List Nat).take i++[m]->sk K [.ref p,.int (m:Nat)] H' R E0:=λm m2 m17 em=>by
     refine⟨p,dq,m,_,rfl,gd,by have:i<3:=hi;lia,m2,m17,λls a H5 D5 k5 e5 l1 l2 l3=>?_⟩
     have gD:=k5 _ _ g1 nD;have aD:a≠D:=λz=>by rw[z,gD] at e5;cases e5
     have pD:p≠D:=λz=>nD (by simp[z])
     have qD:dq≠D:=λz=>nD (by simp[z])
     refine kk _ _ gD ⟨g0,aa,(D5.keep (KB.set (ex:=[D]) (by simp)) (by simpa using pD) (by simpa using qD)).mono (by lia),λu o e z=>by rw[ak (af e g0)];exact k5 _ _ (gk _ _ e z) z,as++[a],done++[ls],by rw[JN];rfl,by rw[Jv,ga];rfl,by rw[JN,gl,em];rw[Ke,l1];rfl,λl hl=>?_,λj b e=>?_⟩
     ·rcases Ki.mp hl with hl|hl
      ·exact gok l hl
      ·rw[JH.mp hl];exact⟨l2,l3⟩
     ·rcases Ku j as.length with hj|hj
      ·rw[JX hj] at e;have e6:=gd.tup k5 (gat j b e);rw[ak (λz=>by rw[z,gD] at e6;cases e6),e6,Jz,Jz,JX (by lia)]
      ·rw[JP hj] at e;obtain⟨hj2,rfl⟩:=Ju.mp e;have hj3:j=as.length:=by simp at hj2;lia
       subst hj3;simp only[KG,L_];rw[ak aD,e5,Jz,JP (by lia),show as.length-done.length=0 by lia]
       rfl
    nofun;rcases mD (show i<3 from hi) with rfl|rfl|rfl
    ·exact key 9 (by decide) (by decide) rfl
    ·exact key 17 (by decide) (by decide) rfl
    ·exact key 8 (by decide) (by decide) rfl
   ·rintro D ys H' ⟨g0,g1,gd,gk,as,done,rfl,ga,gl,gok,gat⟩;exists ar g1;intro b hb;have gl':done.map List.length=[9,17,8]:=gl;have h3:done.length=3:=by have:=Km List.length gl';rw[Jt] at this;exact this
    obtain⟨x,y,z,rfl⟩:=qm h3;simp only[Ke,Mc,List.cons.injEq] at gl';refine q [x,y,z] b _ ((gd.kb (KB.new hb)).mono (by show n+1+60*3<=_;lia)) (k1.trans (k2.all.trans (gk.trans (KB.new hb)))) ⟨as,aa,by rw[ga];rfl,λj a e=>?_⟩ ⟨x,y,z,rfl,gl'.1,gl'.2.1,gl'.2.2.1,gok⟩
    have:=gat j a e;rw[ak (af this hb)];exact this
def pS:Sp:=λvs H Q _=>∃(p dq:Addr) (n:Nat),vs=[.ref p]/\aX H p dq n/\n<2^40/\∀(v:Nat) H',aX H' p dq (n+2)->KB [p,dq] H H'->v<65536->Q (.int (v:Nat)) H'
def vR(T:Txt K mg)(F:HasFn K mg "_law_number" e_ ["deck"])(h_law_draw:ao P w K mg base aN 2 "_law_draw" ["deck","most"] d9):ao P w K mg base aN 3 "_law_number" ["deck"] pS:=by
 refine F.eZ d_ (λvs H Q E h=>?_) (λf cdv A outer s H vs Q E hr h=>?_)
 ·obtain⟨p,dq,n,rfl,_⟩:=h;rfl
 ·have hu:=aI hr;obtain⟨p,dq,n,rfl,hd,hn,q⟩:=h;refine⟨_,(Z.aq (Z.se (i:=1) d_.nd (Z.fc h_law_draw (Z.cons (Z.v 0) (Z.cons Z.int Z.nil))))
   (Z.aq (Z.cZ (Z.aR aW (Z.v 1) Z.int) (Z.ax (Z.ret Z.int)) Z.b9)
   (Z.aq (Z.se (i:=2) d_.nd (Z.op DY Z.int (Z.op cw (Z.v 1) Z.int)))
   (Z.ax (Z.ret (Z.op (Z.aE K rfl) (Z.v 2) (Z.fc h_law_draw (Z.cons (Z.v 0) (Z.cons (Z.v 2) Z.nil))))))))),?_⟩
  refine au λN hN=>?_;nofun;refine⟨p,dq,17,n,rfl,hd,by lia,by decide,by decide,λz H1 hz D1 k1=>?_⟩
  subst hN;refine au λN hN=>?_;by_cases a0:(z:Int)=0
  ·exists JA a0;exact q 0 H1 (D1.mono (by lia)) k1 (by decide)
  ·exists Jy a0;subst hN;refine au λN hN=>?_;nofun;refine⟨⟨by lia,by lia,by decide⟩,?_⟩
   subst hN;obtain⟨j,ej,hj⟩:∃j:Nat,((z:Int)-1).toNat=j/\j<=15:=⟨_,rfl,by lia⟩
   rw[ej,Int.one_mul];have p1:(0:Int)<2^j:=Od (by decide)
   have p2:(2:Int)^j<=2^15:=by
    have:2^j<=2^15:=Lp (by decide) hj
    exact_mod_cast this
   generalize (2:Int)^j=t at p1 p2;nofun;refine⟨p,dq,t,n+1,rfl,D1,by lia,p1,by lia,λv H2 hv D2 k2=>?_⟩
   nofun;obtain⟨k,ek⟩:∃k:Nat,t+(v:Int)=k:=⟨(t+(v:Int)).toNat,by lia⟩
   rw[ek];exact q k H2 D2 (k1.trans k2) (by lia)
def two8{c:Nat}(h1:(c:Int)<2):∃m:Int,bI [V.int 2,.int 8] (c:Int)=some (.int m)/\0<m/\m<=8:=by
 have:c=0\/c=1:=by lia
 rcases this with rfl|rfl
 ·exact⟨2,rfl,by decide,by decide⟩
 ·exact⟨8,rfl,by decide,by decide⟩
def qU{n:Nat}(D:aX H p dq n)(hn:n<2^49)(q:∀b H',b<8->aX H' p dq (n+2)->KB [p,dq] H H'->Q (.str (eF b)) H'):
  0+1+1<=sizeLine/\∀m,H m=none->d9 [.ref p,.int 2] (upd H m (.lst [.int 2,.int 8])) (λy H2=>Ax K (.ref m) y H2 λx H1=>d9 [.ref p,x] H1 (λy H2=>Ax K (.str (Str.ofString "abcdefgh")) y H2 Q) E0) E0:=by
 refine⟨by decide,λm hm=>⟨p,dq,2,n,rfl,D.kb (KB.new hm),by lia,by decide,by decide,λd H2 hd D2 k2=>?_⟩⟩
 have s2:=ar (k2 m _ aa (D.new hm));have kk:KB [p,dq] H H2:=(KB.new hm).trans k2;obtain⟨x,ha,x0,x8⟩:=two8 hd;exists s2,ha;refine⟨p,dq,x,n+1,rfl,D2,by lia,x0,by lia,λy H3 hy D3 k3=>?_⟩
 have hb:=Dm (show 0<=(y:Int) by lia) (show (y:Int)<8 by lia)
 exists hb;exact⟨by decide +kernel,q y H3 (by lia) D3 (kk.trans k3)⟩
def tL(K:W.Frag):Sp:=λvs H Q _=>∃(p dq:Addr) (many n:Nat),vs=[.ref p,.int (many:Nat)]/\aX H p dq n/\n<2^38/\many<1000/\∀(r:Row) (a:Addr) H',r.Ok many->H' a=some (.tup r.vs)->aX H' p dq (n+5)->KB [p,dq] H H'->Q (.ref a) H'
def EE(T:Txt K mg)(F:HasFn K mg "_law_row" ib ["deck","goals"])(h_law_draw:ao P w K mg base aN 2 "_law_draw" ["deck","most"] d9)(h_law_number:ao P w K mg base aN 3 "_law_number" ["deck"] pS):ao P w K mg base aN 4 "_law_row" ["deck","goals"] (tL K):=by
 refine F.eZ eW (λvs H Q E h=>?_) (λf cdv A outer s H vs Q E hr h=>?_)
 ·obtain⟨p,dq,many,n,rfl,_⟩:=h;rfl
 ·have hu:=aI hr;obtain⟨p,dq,many,n,rfl,hd,hn,hmy,q⟩:=h;refine⟨_,(Z.aq (Z.se (i:=2) eW.nd (Z.lst (Z.consts rfl)))
   (Z.aq (Z.se (i:=3) eW.nd (Z.ix (Z.aA K rfl hu) (Z.v 2) (Z.fc h_law_draw (Z.cons (Z.v 0) (Z.cons Z.int Z.nil)))))
   (Z.aq (Z.se (i:=4) eW.nd (Z.ix (Z.aA K rfl hu) Z.str (Z.fc h_law_draw (Z.cons (Z.v 0) (Z.cons (Z.ix (Z.aA K rfl hu) (Z.lst (Z.consts rfl)) (Z.fc h_law_draw (Z.cons (Z.v 0) (Z.cons Z.int Z.nil)))) Z.nil)))))
   (Z.aq (Z.cZ (Z.aR aW (Z.v 3) Z.str) (Z.ax (Z.ret (Z.tup (Z.cons (Z.v 3) (Z.cons (Z.v 4) (Z.cons (Z.fc h_law_number (Z.cons (Z.v 0) Z.nil)) Z.nil)))))) Z.b9)
   (Z.aq (Z.cZ (Z.aR (Z.Bg K rfl hu) (Z.v 3) (Z.tup (Z.consts rfl))) (Z.ax (Z.ret (Z.tup (Z.cons (Z.v 3) (Z.cons (Z.v 4) (Z.cons (Z.ix (Z.aA K rfl hu) Z.str (Z.fc h_law_draw (Z.cons (Z.v 0) (Z.cons (Z.ix (Z.aA K rfl hu) (Z.lst (Z.consts rfl)) (Z.fc h_law_draw (Z.cons (Z.v 0) (Z.cons Z.int Z.nil)))) Z.nil)))) Z.nil)))))) Z.b9)
   (Z.aq (Z.cZ (Z.aR (Z.Bg K rfl hu) (Z.v 3) (Z.tup (Z.consts rfl))) (Z.ax (Z.ret (Z.tup (Z.cons (Z.v 3) (Z.cons (Z.v 4) Z.nil))))) Z.b9)
   (Z.aq (Z.cZ (Z.aR aW (Z.v 3) Z.str) (Z.ax (Z.ret (Z.tup (Z.cons (Z.v 3) (Z.cons (Z.fc h_law_draw (Z.cons (Z.v 0) (Z.cons (Z.op (Z.aE K rfl) (Z.v 1) Z.int) Z.nil))) Z.nil))))) Z.b9)
   (Z.aq (Z.cZ (Z.aR aW (Z.v 3) Z.str) (Z.ax (Z.ret (Z.tup (Z.cons (Z.v 3) (Z.cons (Z.v 4) (Z.cons (Z.fc h_law_draw (Z.cons (Z.v 0) (Z.cons (Z.op (Z.aE K rfl) (Z.v 1) Z.int) Z.nil))) Z.nil)))))) Z.b9)
   (Z.ax (Z.ret (Z.tup (Z.cons (Z.v 3) Z.nil)))))))))))),?_⟩
  refine au λN hN=>?_;nofun;refine⟨by decide,λl hl=>?_⟩
  have k1:KB [] H (upd H l (.lst [.str (Str.ofString "put"),.str (Str.ofString "put"),.str (Str.ofString "add"),.str (Str.ofString "sub"),.str (Str.ofString "copy"),.str (Str.ofString "tell"),.str (Str.ofString "tell"),.str (Str.ofString "hear"),.str (Str.ofString "jump"),.str (Str.ofString "zero"),.str (Str.ofString "zero"),.str (Str.ofString "halt")])):=KB.new hl;have s1:upd H l (.lst [.str (Str.ofString "put"),.str (Str.ofString "put"),.str (Str.ofString "add"),.str (Str.ofString "sub"),.str (Str.ofString "copy"),.str (Str.ofString "tell"),.str (Str.ofString "tell"),.str (Str.ofString "hear"),.str (Str.ofString "jump"),.str (Str.ofString "zero"),.str (Str.ofString "zero"),.str (Str.ofString "halt")]) l=_:=aa;generalize upd H l _=H1 at *;have D1:=hd.kb k1;have nl:=hd.new hl;subst hN;refine au λN hN=>?_;nofun;refine⟨p,dq,12,n,rfl,D1,by lia,by decide,by decide,λc H2 hc D2 k2=>?_⟩
  have s2:=k2 _ _ s1 nl;obtain⟨v,hv,ha⟩:=Fv (xs:=[V.str (Str.ofString "put"),.str (Str.ofString "put"),.str (Str.ofString "add"),.str (Str.ofString "sub"),.str (Str.ofString "copy"),.str (Str.ofString "tell"),.str (Str.ofString "tell"),.str (Str.ofString "hear"),.str (Str.ofString "jump"),.str (Str.ofString "zero"),.str (Str.ofString "zero"),.str (Str.ofString "halt")]) (i:=c) hc;exists ar s2,ha;have kk2:KB [p,dq] H H2:=k1.all.trans k2;clear ha hc k1 k2 s1 s2 nl hl;subst hN;refine au λN hN=>?_;nofun;refine qU D2 (by lia) λbn H3 hb8 D3 k3=>?_
  have kk3:=kk2.trans k3;clear k3 D2 kk2 D1;subst hN;have hv6:v=.str "put"\/(∃w,v=.str (w2 w))\/(∃w,v=.str (w1 w))\/v=.str "jump"\/v=.str "zero"\/v=.str "halt":=by
   simp only[Jw,JO,Kn] at hv;rcases hv with h|h|h|h|h|h|h|h|h|h|h|h<;>subst h<;>first|exact .inl rfl|exact .inr (.inl ⟨0,rfl⟩)|exact .inr (.inl ⟨1,rfl⟩)|exact .inr (.inl ⟨2,rfl⟩)|exact .inr (.inr (.inl ⟨0,rfl⟩))|exact .inr (.inr (.inl ⟨1,rfl⟩))|exact .inr (.inr (.inr (.inl rfl)))|exact .inr (.inr (.inr (.inr (.inl rfl))))|exact .inr (.inr (.inr (.inr (.inr rfl))))
  clear hv;have tell:∀(r:Row) (G:Hp) (m:Nat),r.Ok many->aX G p dq m->m<=n+5->KB [p,dq] H G->∀t,G t=none->Q (.ref t) (upd G t (.tup r.vs)):=λr G m ok D hm k t ht=>q r t _ ok aa ((D.kb (KB.new ht)).mono hm) (k.trans (KB.new ht));refine au λN hN=>?_;rcases hv6 with rfl|⟨u,rfl⟩|⟨u,rfl⟩|hv
  ·exists (show (Str.ofString "put"=Str.ofString "put")=True from eq_true rfl),LV;refine⟨p,dq,n+3,rfl,D3,by lia,λk H4 D4 k4 hk=>⟨by decide,λt ht=>?_⟩⟩
   exact tell (.put bn k) H4 _ ⟨hb8,hk⟩ D4 (by lia) (kk3.trans k4) t ht
  ·have n1:∀u,w2 u≠"put":=by decide +kernel
   have i1:∀u,iL (.str (w2 u)) [.str "add",.str "sub",.str "copy"]=true:=by decide +kernel
   exists Jy (n1 u);subst hN;refine au λN hN=>?_;exists i1 u;refine⟨by decide,λt0 ht0=>⟨rfl,rfl,?_⟩⟩
   refine qU (D3.kb (KB.new ht0)) (by lia) λb2 H4 hb2 D4 k4=>⟨by decide,λt ht=>?_⟩
   exact tell (.two u bn b2) H4 _ ⟨hb8,hb2⟩ D4 (by lia) ((kk3.trans (KB.new ht0)).trans k4) t ht
  ·have n1:∀u,w1 u≠"put":=by decide +kernel
   have i1:∀u,iL (.str (w1 u)) [.str "add",.str "sub",.str "copy"]=false:=by decide +kernel
   have i2:∀u,iL (.str (w1 u)) [.str "tell",.str "hear"]=true:=by decide +kernel
   exists Jy (n1 u);subst hN;refine au λN hN=>?_;exists i1 u;refine⟨by decide,λt0 ht0=>⟨rfl,rfl,?_⟩⟩
   subst hN;refine au λN hN=>?_;exists i2 u;refine⟨by decide,λt1 ht1=>⟨rfl,rfl,by decide,λt ht=>?_⟩⟩
   exact tell (.one u bn) _ _ hb8 ((D3.kb (KB.new ht0)).kb (KB.new ht1)) (by lia) ((kk3.trans (KB.new ht0)).trans (KB.new ht1)) t ht
  ·have n1:∀z∈([("jump"),("zero"),("halt")]:List Str),z≠"put"/\iL (.str z) [.str "add",.str "sub",.str "copy"]=false/\iL (.str z) [.str "tell",.str "hear"]=false:=by decide +kernel
   obtain⟨z,hz,rfl⟩:∃z∈([("jump"),("zero"),("halt")]:List Str),v=.str z:=by rcases hv with rfl|rfl|rfl<;>exact⟨_,by simp,rfl⟩
   obtain⟨e1,e2,e3⟩:=n1 z hz;exists Jy e1;subst hN;refine au λN hN=>?_;exists e2;refine⟨by decide,λt0 ht0=>⟨rfl,rfl,?_⟩⟩
   subst hN;refine au λN hN=>?_;exists e3;refine⟨by decide,λt1 ht1=>⟨rfl,rfl,?_⟩⟩
   have D4:=(D3.kb (KB.new (o:=.tup [.str "add",.str "sub",.str "copy"]) ht0)).kb (KB.new (o:=.tup [.str "tell",.str "hear"]) ht1);have kk4:=(kk3.trans (KB.new (o:=.tup [.str "add",.str "sub",.str "copy"]) ht0)).trans (KB.new (o:=.tup [.str "tell",.str "hear"]) ht1);subst hN;generalize upd (upd H3 t0 _) t1 _=H4 at *;refine au λN hN=>?_;rcases hv with hv|hv
   ·cases hv;exists JA (rfl:Str.ofString "jump"=Str.ofString "jump");refine⟨p,dq,(many:Int)+1,n+3,rfl,D4,by lia,by lia,by lia,λg H5 hg D5 k5=>⟨by decide,λt ht=>?_⟩⟩
    exact tell (.jump g) H5 _ (show g<=many by lia) D5 (by lia) (kk4.trans k5) t ht
   ·have nh:z≠"jump":=by rcases hv with hv|hv<;>cases hv<;>decide +kernel
    exists Jy nh;subst hN;refine au λN hN=>?_;rcases hv with hv|hv
    ·cases hv;exists JA (rfl:Str.ofString "zero"=Str.ofString "zero");refine⟨p,dq,(many:Int)+1,n+3,rfl,D4,by lia,by lia,by lia,λg H5 hg D5 k5=>⟨by decide,λt ht=>?_⟩⟩
     exact tell (.zero bn g) H5 _ ⟨hb8,(show g<=many by lia)⟩ D5 (by lia) (kk4.trans k5) t ht
    ·cases hv;have nz:Str.ofString "halt"≠Str.ofString "zero":=by decide +kernel
     exists Jy nz;subst hN;nofun;exact⟨by decide,λt ht=>tell .halt H4 _ trivial D4 (by lia) kk4 t ht⟩
def PA(H:Hp)(as:List Addr)(rs:List Row):Prop:=as.length=rs.length/\∀(i:Nat) (q:Addr) (r:Row),as[i]?=some q->rs[i]?=some r->H q=some (.tup r.vs)
def PA.snoc{rs:List Row}{q:Addr}{r:Row}(h:PA H as rs)(e:H q=some (.tup r.vs)):PA H (as++[q]) (rs++[r]):=by
 refine⟨by rw[Jv,Jv,h.1];rfl,λi q' r' e1 e2=>?_⟩
 rcases Ku i as.length with hi|hi
 ·rw[JX hi] at e1;rw[JX (by rw[<- h.1];exact hi)] at e2
  exact h.2 i q' r' e1 e2
 ·have h1:=h.1;rw[JP hi] at e1;rw[JP (by lia),<- h1] at e2
  obtain⟨hj,rfl⟩:=Ju.mp e1;obtain⟨hj2,rfl⟩:=Ju.mp e2;have:i-as.length=0:=by simp at hj;lia
  simp only[this,L_];exact e
def PA.keep{rs:List Row}(h:PA H as rs)(k:KB ex H H')(hx:NT ex H):PA H' as rs:=⟨h.1,λi q r e1 e2=>k _ _ (h.2 i q r e1 e2) λz=>hx q z _ (h.2 i q r e1 e2)⟩
def nN{D:Addr}(h:H D=some (.lst ys)):NT [D] H:=λb hb xs e=>by
 rw[JH.mp hb,h] at e;cases e
def jg(H:Hp)(a:Addr)(rs:List Row):Prop:=∃as:List Addr,H a=some (.tup (as.map V.ref))/\PA H as rs
def jg.keep{rs:List Row}(h:jg H a rs)(k:KB ex H H')(hx:NT ex H):jg H' a rs:=by
 obtain⟨as,h1,h2⟩:=h;exact⟨as,k _ _ h1 λz=>hx a z _ h1,h2.keep k hx⟩
def jg.kb{rs:List Row}(h:jg H a rs)(k:KB [] H H'):jg H' a rs:=h.keep k (NT.nil _)
noncomputable def aJ:Option Nat->V
 |none=>.aL
 |some t=>.int (t:Nat)
def no:wU:=λ_=>False
def t6{lo hi:Option Int}(h:H a=some (.tup xs))(q1:dC xs lo hi=xs->Q (.ref a) H)(q2:∀p,H p=none->Q (.ref p) (upd H p (.tup (dC xs lo hi)))):Y.Cb K (.ref a) lo hi H Q:=by
 by_cases z:HT.bB xs.length 0 lo=0/\HT.bB xs.length xs.length hi=xs.length
 ·exact .inr (.inr ⟨a,xs,rfl,bq.of h,z.1,z.2,q1 (by unfold dC;rw[z.1,z.2,Me,KD,Kb])⟩)
 ·exact .inr (.inl ⟨a,xs,rfl,bq.of h,z,q2⟩)
def p9(xs:List V)(n:Nat):dC xs none (some (n:Int))=xs.take n:=by
 unfold dC;rw[HT.cS,HT.eK,KD,Me];rcases OC n xs.length with c|c
 ·rw[NV c]
 ·rw[Nat.min_eq_right c,Kb,Kw c]
def kM(xs:List V)(v:V):bI (xs++[v]) (-1)=some v:=by
 have hl:(xs++[v]).length=xs.length+1:=by rw[Jv];rfl
 unfold bI iY;rw[Jy (by decide),hl,JA (by lia),show (-1+((xs.length+1:Nat):Int)).toNat=xs.length by lia]
 show (xs++[v])[xs.length]?=_;rw[JP (J8 _),KG];rfl
def ql(xs:List V)(k:Nat):dC xs (some (k:Int)) none=xs.drop k:=by
 unfold dC;rw[HT.cS,HT.eK];rcases OC k xs.length with h|h
 ·rw[NV h,Kw (by rw[Ka];exact J8 _)]
 ·rw[Nat.min_eq_right h,L5,List.drop_of_length_le h,List.take_nil]
def jg.cut{rs:List Row}(hp:PA H as rs)(k:Nat):PA H (as.take k) (rs.take k):=by
 refine⟨by rw[JG,JG,hp.1],λi q r e1 e2=>?_⟩
 rw[L9] at e1 e2
 split at e1
 ·rename_i c;rw[JA c] at e2;exact hp.2 i q r e1 e2
 ·cases e1
def zC{rs:List Row}(h:jg H a rs)(q:∀u G,KB [] H G->jg G u (rs.take k)->Q (.ref u) G):Y.Cb K (.ref a) none (some (k:Int)) H Q:=by
 obtain⟨as,ha,hp⟩:=h;refine t6 ha (λe=>q a H (KB.refl _ _) ⟨as.take k,?_,jg.cut hp k⟩) (λp hp'=>q p _ (KB.new hp') ⟨as.take k,?_,(jg.cut hp k).keep (KB.new hp') (NT.nil _)⟩)
 ·rw[p9] at e;rw[ha,Mo,e]
 ·rw[aa,p9,Mo]
def yy{X:Cx}{tk:Nat}{tp:Pos}{e1 e2:Expr}{ta:TA}{p pos:Pos}(K:W.Frag)(hK:X.K=K)(hg:Gl X "zip")(hm:X.mg "zip"=none)(ha:QA X [e1,e2] ta)(h1:autoParam (eG e1=true) ℜ0)(h2:autoParam (eG e2=true) ℜ0):QI X (.Tuple es tk tp) (.Call (.Name "zip" p) [e1,e2] [] pos) (Ae K ta):=by
 subst hK;exact⟨Ci hg hm ha.h h1 h2⟩
def lg(K:W.Frag)(ta:TA)(σ:L2.St)(H:Hp)(R:It->Hp->Prop):L2.Ae K ta σ H R=ta σ H λvs H1=>∃p q:Bool×Addr,vs=[V.ref p.2,V.ref q.2]/\(∃xs,iK K p.1 H1 p.2 xs)/\(∃ys,iK K q.1 H1 q.2 ys)/\∀n,R (Cz K (fu n [p,q])) H1:=rfl
def mO{g:TG}{tb:TS}{D:Ends}{k1 k2:Bool}{n:Nat}(hxy:xs.length=ys.length)(Pv:Nat->L2.St->Hp->Prop)(h0:Pv 0 σ H)(hl:∀i σ H,Pv i σ H->iK K k1 H a xs/\iK K k2 H b ys)
  (hs:∀i x y σ H p,xs[i]?=some x->ys[i]?=some y->Pv i σ H->H p=none->g (.ref p) σ (upd H p (.tup [x,y])) λσ2 H2=>tb {D with nx:=Pv (i+1),ct:=Pv (i+1),bk:=D.nx} σ2 H2) (hd:∀σ H,Pv xs.length σ H->D.nx σ H):rn (Cz K (fu n [(k1,a),(k2,b)])) g tb D σ H:=by
 refine⟨λi m σ H=>m=xs.length-i/\i<=xs.length/\Pv i σ H,⟨xs.length,by simp,JJ _,h0⟩,?_⟩
 rintro i m σ H ⟨rfl,hi,p⟩;obtain⟨q1,q2⟩:=hl i σ H p;by_cases hlt:i<xs.length
 ·have hl2:i<ys.length:=by lia
  refine .inr ⟨⟨[xs[i],ys[i]],.cons ⟨xs,q1,by simp[hlt]⟩ (.cons ⟨ys,q2,by simp[hl2]⟩ .nil)⟩,Pv (i+1),λσ' H' p'=>⟨xs.length-(i+1),by lia,rfl,hlt,p'⟩,λx H' z=>?_⟩
  obtain⟨c',vs,pr,fr,rfl,rfl⟩:=z;obtain⟨v1,vs,rfl,e1,pr⟩:=Paired.fV pr;obtain⟨v2,vs,rfl,e2,pr⟩:=Paired.fV pr;cases pr;exact hs i v1 v2 σ H c' (e1 xs q1) (e2 ys q2) p fr
 ·have e:i=xs.length:=by lia
  subst e;exact .inl ⟨⟨[],(k1,n,a),_,[],rfl,.nil,xs,q1,rfl⟩,hd σ H p⟩
noncomputable def vM:Option Nat->Nat->V
 |none,_=>.aL
 |some _,w=>.int (w:Nat)
def i8(gs:List (Option Nat))(ws:List Nat):List V:=List.zipWith vM gs ws
def zu(h:ws.length=gs.length):(i8 gs ws).length=gs.length:=by unfold i8;rw[List.length_zipWith];lia
def oz{w:Nat}(h1:gs[i]?=some g)(h2:ws[i]?=some w):(i8 gs ws)[i]?=some (vM g w):=by
 unfold i8;rw[List.getElem?_zipWith,h1,h2]
def CK:Sp:=λvs H Q _=>∃(g:Option Nat) (w:Nat),vs=[vM g w]/\w<3/\Q (.int (addW g w:Nat)) H
def Fo(T:Txt K mg)(F:HasFn K mg "own_part" ij ["width"]):ao P w K mg base aN 1 "own_part" ["width"] CK:=by
 obtain⟨ah,hg_HEADS,kt_HEADS⟩:=T.tM;obtain⟨aw,hg_WIDTHS,kt_WIDTHS⟩:=T.pV;have hr_HEADS:RelV (.ref ah) (.ref ah):=rfl;have hr_WIDTHS:RelV (.ref aw) (.ref aw):=rfl;refine F.eZ qW (λvs H Q E h=>?_) (λf cdv A outer s H vs Q E hr h=>?_)
 ·obtain⟨g,w,rfl,_⟩:=h;rfl
 ·have hu:=aI hr;obtain⟨g,k,rfl,hk,q⟩:=h;refine⟨_,(Z.ax (Z.ret (Z.FH (Z.aR fE (Z.v 0) Z.aL) Z.int (Z.op (Z.aE K rfl) (Z.cb (Z.bO K rfl) rfl T.bG (by decide +kernel) (Z.cons (Z.ix (Z.pQ K rfl) (Z.glob rfl hg_HEADS hr_HEADS) (Z.v 0)) Z.nil)) (Z.ix (Z.pQ K rfl) (Z.glob rfl hg_WIDTHS hr_WIDTHS) (Z.v 0)))))),?_⟩
  cases g with
  |none =>
   unfold vM;nofun;exact q
  |some t =>
   have p2:bI [V.str (Str.ofString "0"),.str (Str.ofString "10"),.str (Str.ofString "11")] (k:Int)=some (.str (wd (eA k))):=by
    rcases mD hk with rfl|rfl|rfl
    ·exact Km (λz=>some (V.str z)) (by decide +kernel)
    ·exact Km (λz=>some (V.str z)) (by decide +kernel)
    ·exact Km (λz=>some (V.str z)) (by decide +kernel)
   have p3:bI [V.int 4,.int 8,.int 16] (k:Int)=some (.int ((d6 k:Nat):Int)):=by rcases mD hk with rfl|rfl|rfl<;>rfl
   unfold vM;nofun;rw[Jy (show ¬ V.int (k:Nat)=V.aL from λz=>nomatch z)];refine⟨ah,_,_,_,rfl,rfl,kt_HEADS H,p2,?_⟩;nofun;rw[bu];refine⟨JC (show (eA k).length<=2 by rcases mD hk with rfl|rfl|rfl<;>decide) (by decide),aw,_,_,_,rfl,rfl,kt_WIDTHS H,p3,?_⟩
   nofun;rw[show ((eA k).length:Int)+(d6 k:Nat)=((addW (some t) k:Nat):Int) by rcases mD hk with rfl|rfl|rfl<;>rfl]
   exact q
def AQ{l:List Nat}{v:V}(h:(iV (nZ l))[i]?=some v):∃x:Nat,l[i]?=some x/\v=.int (x:Nat):=by
 unfold iV nZ at h;rw[KI,J6] at h;obtain⟨x,e,rfl⟩:=JS.mp h;exact⟨x,e,rfl⟩
def fH(l:List Nat):(iV (nZ l)).length=l.length:=by rw[bL,jX]
def zf{l:List Nat}(h:i<l.length):bI (iV (nZ l)) (i:Int)=some (.int ((l.getD i 0:Nat):Int)):=aU (by unfold iV nZ;rw[KI,J6,Jr h,Jz,Jr h];rfl)
def BH{l:List Nat}(h:i<l.length):bI (iV (nZ (l.take (i+1)))) (-1)=some (.int ((l.getD i 0:Nat):Int)):=by
 have hi2:(l.take (i+1)).length=i+1:=by rw[JG];lia
 unfold bI iY;rw[Jy (by decide),JA (by rw[fH,hi2];lia),fH,hi2,show -1+((i+1:Nat):Int)=(i:Int) by lia]
 show (iV (nZ (l.take (i+1))))[((i:Nat):Int).toNat]?=_;rw[JW];unfold iV nZ;rw[KI,J6,LM (Ly i),Jr h,Jz,Jr h];rfl
def lC(K:W.Frag):Sp:=λvs H Q _=>∃(a b:Addr) (k:Bool) (ss:List Nat) (gs:List (Option Nat)) (ws:List Nat),vs=[.ref a,.ref b]/\H a=some (.lst (iV (nZ ss)))/\iK K k H b (i8 gs ws)/\(∀H',KB [] H H'->iK K k H' b (i8 gs ws))/\gs.length=ss.length/\ws.length=ss.length/\ss.length<=64/\(∀w∈ws,w<3)/\∀d H',H d=none->KB [] H H'->H' d=some (.lst (iV (nZ (c_ 0 ss gs ws))))->Q (.ref d) H'
def vN(T:Txt K mg)(F:HasFn K mg "row_starts" fT ["sizes","widths"])(hown_part:ao P w K mg base aN 1 "own_part" ["width"] CK):ao P w K mg base aN 2 "row_starts" ["sizes","widths"] (lC K):=by
 refine F.eZ dn (λvs H Q E h=>?_) (λf cdv A outer s H vs Q E hr h=>?_)
 ·obtain⟨a,b,k,ss,gs,ws,rfl,_⟩:=h;rfl
 ·have hu:=aI hr;obtain⟨a,b,k,ss,gs,ws,rfl,ha,hb,hbk,h1,h2,h3,h4,q⟩:=h;have hl:=fG ss gs ws 0 h1 h2;have hat:=ic ss gs ws 0;obtain⟨l0,e0⟩:=nG 0 ss gs ws;refine⟨_,(Z.aq (Z.se (i:=2) dn.nd (Z.lst (Z.cons Z.int Z.nil)))
   (Z.aq (Z.fh JZ rfl (yy K rfl rfl T.uO (Z.cons (Z.v 0) (Z.cons (Z.v 1) Z.nil))) (Z.m8 (n:=2) K rfl rfl (Z.bw (Z.aH (i:=3) dn.nd rfl (by right)) (Z.bw (Z.aH (i:=4) dn.nd rfl (by right)) Z.gr))) (Z.ax (Z.expr (Z.app K (Z.v 2) (Z.cons (Z.op (Z.aE K rfl) (Z.op (Z.aE K rfl) (Z.ix (Z.aA K rfl hu) (Z.v 2) (Z.un bM Z.int)) (Z.v 3)) (Z.fc hown_part (Z.cons (Z.v 4) Z.nil))) Z.nil)))))
   (Z.ax (Z.ret (Z.v 2))))),?_⟩
  generalize mq:c_ 0 ss gs ws=sp at *;refine au λN hN=>?_;nofun;refine⟨by decide,λfd hfd=>?_⟩
  have k1:=KB.new (ex:=[]) (o:=.lst [.int 0]) hfd;have s1:upd H fd (.lst [.int 0]) fd=some (.lst (iV (nZ (sp.take 1)))):=by rw[aa,e0];rfl
  generalize upd H fd (.lst [.int 0])=H1 at *;subst hN;refine au λN hN=>?_;exists lg;refine⟨(true,a),(k,b),⟨rfl,rfl⟩,⟨_,bg.of (k1.n ha)⟩,⟨_,hbk _ k1⟩,λn=>?_⟩;refine mO (xs:=iV (nZ ss)) (ys:=i8 gs ws) (by rw[fH,zu (by lia),h1]) (λi σ H'=>∃o3 o4:Option V,i<=ss.length/\KB [] H H'/\H' fd=some (.lst (iV (nZ (sp.take (i+1)))))/\σ=[some (.ref a),some (.ref b),some (.ref fd),o3,o4]) ⟨none,none,JJ _,k1,s1,rfl⟩ (λi σ H' ⟨_,_,_,k,_⟩=>⟨bg.of (k.n ha),hbk _ k⟩) ?_ ?_
  ·rintro i x y σ H' p hx hy ⟨o3,o4,hi,hk,gf,rfl⟩ hp;obtain⟨s0,es,rfl⟩:=AQ hx;have hlt:i<ss.length:=(Ju.mp es).1;have eg:=Jr (show i<gs.length by lia)
   have ew:=Jr (show i<ws.length by lia)
   have lw:=h4 _ (JM (show i<ws.length by lia))
   generalize gs[i]'_=g at eg;generalize ws[i]'_=w0 at ew lw;have en:=hat i s0 g w0 es eg ew;rw[oz eg ew] at hy;cases hy;unfold aT;refine⟨p,_,rfl,bq.of aa,rfl,_,_,rfl,_,_,rfl,rfl,?_⟩;have k2:=hk.trans (KB.new (o:=.tup [.int (s0:Nat),vM g w0]) hp);have gf2:upd H' p (.tup [.int (s0:Nat),vM g w0]) fd=some (.lst (iV (nZ (sp.take (i+1))))):=by rw[ak (af gf hp)];exact gf
   generalize upd H' p (.tup [.int (s0:Nat),vM g w0])=H2 at *;have et:sp.take (i+1+1)=sp.take (i+1)++[sp.getD (i+1) 0]:=by
    rw[Kp,Jz,Jr (show i+1<sp.length by lia)];rfl
   have lst:=BH (l:=sp) (i:=i) (by lia)
   dsimp only;refine jS λM hM=>?_;exists ar gf2,lst;refine⟨.inl ⟨rfl,_,bg.of gf2⟩,g,w0,rfl,lw,?_⟩;nofun;refine⟨fd,_,_,rfl,rfl,gf2,Nat.lt_of_le_of_lt (show _<=1000 by rw[fH,List.length_take];lia) (by decide),?_⟩
   rw[hM];refine⟨_,_,hlt,λu o e _=>by rw[ak (af e hfd)];exact k2.n e,?_,rfl⟩
   rw[aa,et,en];unfold nZ;rw[JN,fM];rfl
  ·rintro σ H' ⟨o3,o4,hi,hk,gf,rfl⟩;show N _ _;subst hN;nofun;rw[Kw (by rw[hl,fH];exact J8 _)] at gf
   exact q fd H' hfd hk gf
def rS:Sp:=λvs H Q _=>∃(a b:Addr) (sp:List Nat) (gs:List (Option Nat)) (k t:Nat),vs=[.ref a,.ref b,.int (k:Nat)]/\H a=some (.lst (iV (nZ sp)))/\H b=some (.lst (gs.map aJ))/\gs[k]?=some (some t)/\t<sp.length/\k+1<sp.length/\Q (.int (bZ sp t k)) H
def AR(T:Txt K mg)(F:HasFn K mg "distance_of" ff ["starts","goals","row"]):ao P w K mg base aN 1 "distance_of" ["starts","goals","row"] rS:=by
 refine F.eZ lq (λvs H Q E h=>?_) (λf cdv A outer s H vs Q E hr h=>?_)
 ·obtain⟨a,b,sp,gs,k,t,rfl,_⟩:=h;rfl
 ·have hu:=aI hr;obtain⟨a,b,sp,gs,k,t,rfl,ha,hb,hg,ht,hk,q⟩:=h;refine⟨_,(Z.ax (Z.ret (Z.op cw (Z.ix (Z.aA K rfl hu) (Z.v 0) (Z.ix (Z.aA K rfl hu) (Z.v 1) (Z.v 2))) (Z.ix (Z.aA K rfl hu) (Z.v 0) (Z.op (Z.aE K rfl) (Z.v 2) Z.int))))),?_⟩;have ag:bI (gs.map aJ) (k:Int)=some (.int (t:Nat)):=aU (by rw[J6,hg];rfl)
  have as1:=zf ht;have as2:bI (iV (nZ sp)) ((k:Int)+1)=some (.int ((sp.getD (k+1) 0:Nat):Int)):=zf hk;exists ar hb,ag,ar ha,as1,as2;exact q
def zr:Sp:=λvs H Q _=>∃(a b c:Addr) (sp:List Nat) (gs:List (Option Nat)) (ws:List Nat) (k t w:Nat),vs=[.ref a,.ref b,.ref c,.int (k:Nat)]/\H a=some (.lst (iV (nZ sp)))/\H b=some (.lst (gs.map aJ))/\H c=some (.lst (i8 gs ws))/\gs[k]?=some (some t)/\ws[k]?=some w/\w<3/\t<sp.length/\k+1<sp.length/\Q (.bl (jn w (bZ sp t k))) H
def Az(T:Txt K mg)(F:HasFn K mg "fits" sE ["starts","goals","widths","row"])(hdistance_of:ao P w K mg base aN 1 "distance_of" ["starts","goals","row"] rS):ao P w K mg base aN 2 "fits" ["starts","goals","widths","row"] zr:=by
 obtain⟨ah,hg_HALVES,kt_HALVES⟩:=T.zS;have hr_HALVES:RelV (.ref ah) (.ref ah):=rfl;refine F.eZ uD (λvs H Q E h=>?_) (λf cdv A outer s H vs Q E hr h=>?_)
 ·obtain⟨a,b,c,sp,gs,ws,k,t,w,rfl,_⟩:=h;rfl
 ·have hu:=aI hr;obtain⟨a,b,c,sp,gs,ws,k,t,w0,rfl,ha,hb,hc,hg,hw,lw,ht,hk,q⟩:=h;refine⟨_,(Z.aq (Z.se (i:=4) uD.nd (Z.ix (Z.pQ K rfl) (Z.glob rfl hg_HALVES hr_HALVES) (Z.ix (Z.aA K rfl hu) (Z.v 2) (Z.v 3))))
   (Z.ax (Z.ret (Z.chain (CT) (fW) (Z.un bM (Z.v 4)) (Z.fc hdistance_of (Z.cons (Z.v 0) (Z.cons (Z.v 1) (Z.cons (Z.v 3) Z.nil)))) (Z.v 4))))),?_⟩
  have aw:bI (i8 gs ws) (k:Int)=some (.int (w0:Nat)):=aU (oz hg hw);have ah':bI [V.int 8,.int 128,.int 32768] (w0:Int)=some (.int (dF w0)):=by rcases mD lw with rfl|rfl|rfl<;>rfl
  refine au λN hN=>?_;exists ar hc,aw;refine⟨ah,_,_,_,rfl,rfl,kt_HALVES H,ah',?_⟩;subst hN;nofun;refine⟨a,b,sp,gs,k,t,rfl,ha,hb,hg,ht,hk,?_⟩;nofun;unfold jn at q;by_cases c1:-dF w0<=bZ sp t k
  ·rw[JA c1];rw[Kl c1,Bool.true_and] at q;exact q
  ·rw[Jy c1];rw[JV c1,Oi] at q;exact q
def jG(sp:List Nat)(gs:List (Option Nat))(ws:List Nat)(k:Nat):Bool:=match gs[k]?,ws[k]? with
 |some (some t),some w=>!jn w (bZ sp t k)
 |_,_=>false
def d8(ss:List Nat)(gs:List (Option Nat))(ws:List Nat):Option Nat:=(List.range' 0 gs.length).find? (jG (c_ 0 ss gs ws) gs ws)
def tR(K:W.Frag):Sp:=λvs H Q _=>∃(a b c:Addr) (ss:List Nat) (gs:List (Option Nat)) (ws:List Nat),vs=[.ref a,.ref b,.ref c]/\H a=some (.lst (iV (nZ ss)))/\H b=some (.lst (gs.map aJ))/\H c=some (.lst (i8 gs ws))/\gs.length=ss.length/\ws.length=ss.length/\ss.length<=64/\(∀t,some t∈gs->t<=ss.length)/\(∀w∈ws,w<3)/\∀H',KB [] H H'->Q (AB (d8 ss gs ws)) H'
theorem y9(T:Txt K mg)(F:HasFn K mg "first_too_narrow" cI ["sizes","goals","widths"])(hrow_starts:ao P w K mg base aN 2 "row_starts" ["sizes","widths"] (lC K))(hfits:ao P w K mg base aN 2 "fits" ["starts","goals","widths","row"] zr):ao P w K mg base aN 3 "first_too_narrow" ["sizes","goals","widths"] (tR K):=by
 refine F.eZ bH (λvs H Q E h=>?_) (λf cdv A outer s H vs Q E hr h=>?_)
 ·obtain⟨a,b,c,ss,gs,ws,rfl,_⟩:=h;rfl
 ·have hu:=aI hr;obtain⟨a,b,c,ss,gs,ws,rfl,ha,hb,hc,h1,h2,h3,h5,h4,q⟩:=h;refine⟨_,(Z.aq (Z.se (i:=3) bH.nd (Z.fc hrow_starts (Z.cons (Z.v 0) (Z.cons (Z.v 2) Z.nil))))
   (Z.aq (Z.fh JZ rfl (Z.CO K rfl rfl T.gj (Z.cons (Z.v 1) Z.nil)) (Z.m8 (n:=2) K rfl rfl (Z.bw (Z.aH (i:=4) bH.nd rfl (by right)) (Z.bw (Z.aH (i:=5) bH.nd rfl (by right)) Z.gr))) (Z.ax (Z.cZ (Z.tw (Z.qT (Z.aR eQ (Z.v 5) Z.aL) (Z.jw (Z.je (Z.gT K rfl (Z.fc hfits (Z.cons (Z.v 3) (Z.cons (Z.v 1) (Z.cons (Z.v 2) (Z.cons (Z.v 4) Z.nil)))))))))) (Z.ax (Z.ret (Z.v 4))) Z.b9)))
   (Z.ax (Z.ret Z.aL)))),?_⟩
  refine au λN hN=>?_;nofun;refine⟨a,c,true,ss,gs,ws,rfl,ha,bg.of hc,λH' k=>bg.of (k.n hc),h1,h2,h3,h4,λd H1 hd k1 g1=>?_⟩;subst hN;have sl:=fG ss gs ws 0 h1 h2;unfold d8 at q;generalize c_ 0 ss gs ws=sp at *;refine au λN hN=>?_;nofun;refine⟨⟨_,bg.of (k1.n hb)⟩,?_⟩;refine lR (xs:=gs.map aJ) (λi σ H'=>∃o4 o5:Option V,KB [] H H'/\H' d=some (.lst (iV (nZ sp)))/\i<=gs.length/\(List.range' i (gs.length-i)).find? (jG sp gs ws)=(List.range' 0 gs.length).find? (jG sp gs ws)/\σ=[some (.ref a),some (.ref b),some (.ref c),some (.ref d),o4,o5]) ⟨none,none,k1,g1,JJ _,rfl,rfl⟩ (λi σ H' _ h=>by obtain⟨_,_,k,_⟩:=h;exact bg.of (k.n hb)) ?_ ?_
  ·rintro i x σ H' p hx ⟨o4,o5,hk,gd,hi,ef,rfl⟩ hp;have hlt:i<gs.length:=by have:=(Ju.mp hx).1;rw[Jt] at this;exact this
   have eg:=Jr hlt;have gm:=JM hlt;have ew:=Jr (show i<ws.length by lia)
   have lw:=h4 _ (JM (show i<ws.length by lia))
   generalize gs[i]'_=g at eg gm;generalize ws[i]'_=w0 at ew lw;rw[J6,eg] at hx;cases hx;rw[show gs.length-i=(gs.length-(i+1))+1 by lia,L3,NO] at ef
   unfold aT;refine⟨p,_,rfl,bq.of aa,rfl,_,_,rfl,_,_,rfl,rfl,?_⟩;have kz:=KB.new (ex:=[]) (o:=.tup [.int i,aJ g]) hp;generalize upd H' p (.tup [.int i,aJ g])=H2 at *;have hk2:=hk.trans kz;have gd2:=kz.n gd;dsimp only;refine jS λM hM=>?_;refine gc λA B hA hB=>?_;nofun;have go:jG sp gs ws i=false->∀G:Hp,KB [] H G->G d=some (.lst (iV (nZ sp)))->B [some (.ref a),some (.ref b),some (.ref c),some (.ref d),some (.int (i:Int)),some (aJ g)] G:=λhf G kG gG=>by
    rw[hB];show M _ _;rw[hM];rw[hf] at ef;exact⟨_,_,kG,gG,hlt,ef,rfl⟩
   cases g with
   |none =>
    rw[Jy (show ¬ ¬ aJ none=V.aL from λz=>z rfl)];exact go (by unfold jG;rw[eg]) _ hk2 gd2
   |some t =>
    rw[JA (show ¬ aJ (some t)=V.aL from λz=>nomatch z)];have ht:t<=ss.length:=h5 t gm;refine⟨d,b,c,sp,gs,ws,i,t,w0,rfl,gd2,hk2.n hb,hk2.n hc,eg,ew,lw,by lia,by lia,?_⟩
    have et:jG sp gs ws i=!jn w0 (bZ sp t i):=by unfold jG;rw[eg,ew]
    refine⟨_,rfl,?_⟩
    cases co:jn w0 (bZ sp t i) with
    |true=>
     rw[Jy (by decide)]
     exact go (by rw[et,co];rfl) _ hk2 gd2
    |false =>
     rw[JA rfl,hA];rw[et,co] at ef;have ef':some i=(List.range' 0 gs.length).find? (jG sp gs ws):=ef;rw[<- ef'] at q;nofun;exact q _ hk2
  ·rintro σ H' ⟨o4,o5,hk,gd,hi,ef,rfl⟩;show N _ _;subst hN;rw[Jt,KG] at ef;have ef':none=(List.range' 0 gs.length).find? (jG sp gs ws):=ef;rw[<- ef'] at q;nofun;exact q _ hk
def qp:Sp:=λvs H Q _=>∃(b:Addr) (gs:List (Option Nat)),vs=[.ref b]/\H b=some (.lst (gs.map aJ))/\gs.length<=64/\∀d H',H d=none->KB [] H H'->H' d=some (.lst (i8 gs (List.replicate gs.length 0)))->Q (.ref d) H'
def BX(gs:List (Option Nat)):i8 gs (List.replicate gs.length 0)=gs.map λg=>vM g 0:=by
 induction gs with
 |nil=>rfl
 |cons g gs ih=>rw[JE,Kk,Ke,<- ih];rfl
theorem vO(T:Txt K mg)(F:HasFn K mg "narrowest" eX ["goals"]):ao P w K mg base aN 1 "narrowest" ["goals"] qp:=by
 refine F.eZ nV (λvs H Q E h=>?_) (λf cdv A outer s H vs Q E hr h=>?_)
 ·obtain⟨b,gs,rfl,_⟩:=h;rfl
 ·have hu:=aI hr;obtain⟨b,gs,rfl,hb,hl,q⟩:=h;refine⟨_,(Z.ax (Z.ret (Z.vy (osc:=ae eX) (ON:=["goals"]) (own:=["goal"]) (N:=["goal","goals"]) (az.of rfl (by decide +kernel)) (Z.any K rfl (Z.v 0)) (λnd _ _ _ _=>(Z.aH (i:=0) nd rfl (by right))) (λ_ _ _ _=>Z.pe) (λ_ _ _ _=>(Z.FH (Z.aR fE (Z.v 0) Z.aL) Z.aL Z.int))))),?_⟩
  exists ar hb;refine dU (xs:=gs.map aJ) (JC (show _<=64 by rw[Jt];exact hl) (by decide)) (λD i ys H'=>H D=none/\H' D=some (.lst ys)/\KB [] H H'/\ys=((gs.take i).map λg=>vM g 0)/\i<=gs.length) (λD hD=>⟨hD,aa,KB.new hD,rfl,JJ _⟩) (λD i ys H' h=>⟨h.2.1,by rw[h.2.2.2.1,Jt,JG];have:=h.2.2.2.2;lia⟩) (λD i ys H' h=>bg.of (h.2.2.1 _ _ hb (by simp))) ?_ ?_
  ·rintro D i ys H' x R hx ⟨g0,g1,gk,rfl,hi⟩ kk;have hlt:i<gs.length:=by have:=(Ju.mp hx).1;rw[Jt] at this;exact this
   have eg:=Jr hlt;have et:gs.take (i+1)=gs.take i++[gs[i]]:=by rw[Kp,eg];rfl
   rw[J6,eg] at hx;cases hx;have fin:R (vM gs[i] 0) H':=kk _ _ g1 ⟨g0,aa,λu o e _=>by rw[ak (af e g0)];exact gk.n e,by rw[et,JN];rfl,hlt⟩
   nofun
   cases hg:gs[i] with
   |none=>rw[hg] at fin;rw[JA (show aJ none=V.aL from rfl)];exact fin
   |some t=>rw[hg] at fin;rw[Jy (show ¬ aJ (some t)=V.aL from λz=>nomatch z)];exact fin
  ·rintro D ys H' ⟨g0,g1,gk,rfl,hi⟩;refine q D H' g0 gk ?_;rw[g1,Jt,Kb,BX]
def wZ:Sp:=λvs H Q _=>∃(n m:Int),vs=[.int n,.int m]/\-1<=m/\m<=40/\Q (.str (wd (bP n m.toNat []))) H
def Eh(T:Txt K mg)(F:HasFn K mg "last_figures" e8 ["number","many"]):ao P w K mg base aN 1 "last_figures" ["number","many"] wZ:=by
 refine F.eZ bC (λvs H Q E h=>?_) (λf cdv A outer s H vs Q E hr h=>?_)
 ·obtain⟨n,m,rfl,_⟩:=h;rfl
 ·have hu:=aI hr;obtain⟨n,m,rfl,hm0,hm,q⟩:=h;refine⟨_,(Z.aq (Z.se (i:=2) bC.nd Z.str)
   (Z.aq (Z.se (i:=3) bC.nd (Z.v 0))
   (Z.aq (Z.fh JZ rfl (Z.oW rfl T.dz (Z.cons (Z.v 1) Z.nil)) (Z.aH (i:=4) bC.nd rfl (by right)) (Z.aq (Z.se (i:=2) bC.nd (Z.op (Z.aE K rfl) (Z.ct vi rfl T.uL (by decide +kernel) (Z.cons (Z.op dA (Z.v 3) Z.int) Z.nil)) (Z.v 2)))
   (Z.ax (Z.se (i:=3) bC.nd (Z.op jP (Z.v 3) Z.int)))))
   (Z.ax (Z.ret (Z.v 2)))))),?_⟩
  refine au λN hN=>?_;nofun;rw[hN];clear hN N;refine au λN hN=>?_;nofun;rw[hN];clear hN N;refine au λN hN=>?_;nofun;refine⟨by lia,by lia,?_⟩
  have hk:m.toNat<=40:=by lia
  generalize m.toNat=k at *;refine bR (λi σ H'=>∃(l:Int) (acc:List Nat) (o:Option V),H'=H/\i<=k/\bP l (k-i) acc=bP n k []/\acc.length=i/\σ=[some (.int n),some (.int m),some (.str (wd acc)),some (.int l),o]) ⟨n,[],none,rfl,JJ _,rfl,rfl,by rw[kZ]⟩ ?_ ?_
  ·rintro i σ H' hi ⟨l,acc,o,rfl,_,e,hl,rfl⟩;unfold aT;refine au λM hM=>?_;exists EH;rw[dE,bu,bu];refine⟨by decide,by rcases Int.emod_two_eq l with h|h<;>rw[h]<;>decide,JC (show _<=50 by simp;lia) (by decide),?_⟩
   rw[hM];clear hM M;refine jS λM hM=>?_;nofun;refine⟨⟨by decide,by decide⟩,?_⟩
   rw[hM];refine⟨l / 2,dg l::acc,some _,rfl,hi,?_,by rw[JE,hl],rfl⟩
   rw[<- e,show k-i=(k-(i+1))+1 by lia]
   rfl
  ·rintro σ H' ⟨l,acc,o,rfl,_,e,_,rfl⟩;show N _ _;rw[hN];clear hN N;nofun;rw[KG] at e;rw[<- e] at q;exact q
def rm(n:Nat):bP (n:Int) (((cV n:Nat):Int)-1).toNat []=(jc n).tail:=by
 unfold jc
 cases e:cV n with
 |zero=>rfl
 |succ b =>
  obtain⟨d,ed⟩:=kP b (n:Int) [];rw[ed,show (((b+1:Nat):Int)-1).toNat=b by lia];rfl
def ny:Sp:=λvs H Q _=>∃(n:Nat),vs=[.int (n:Nat)]/\n<65536/\Q (.str (wd (jc n).tail)) H
def sL(T:Txt K mg)(F:HasFn K mg "figures_behind_first" bT ["number"])(hlast_figures:ao P w K mg base aN 1 "last_figures" ["number","many"] wZ):ao P w K mg base aN 2 "figures_behind_first" ["number"] ny:=by
 refine F.eZ fw (λvs H Q E h=>?_) (λf cdv A outer s H vs Q E hr h=>?_)
 ·obtain⟨n,rfl,_⟩:=h;rfl
 ·have hu:=aI hr;obtain⟨n,rfl,hn,q⟩:=h;have hb:=jQ hn;refine⟨_,(Z.ax (Z.ret (Z.fc hlast_figures (Z.cons (Z.v 0) (Z.cons (Z.op cw (Z.HY K rfl PySem.F.plainAttrs_int PySem.F.slot_int_bit_length PySem.F.type_int_bit_length Y.nO (Z.v 0)) Z.int) Z.nil))))),?_⟩;nofun;refine⟨rfl,?_⟩;refine⟨_,rfl,rfl,?_⟩;nofun;refine⟨_,_,rfl,?_,?_,?_⟩
  ·show (-1:Int)<=((cV n:Nat):Int)-1;lia
  ·show ((cV n:Nat):Int)-1<=40;lia
  ·show Q (.str (wd (bP (n:Int) (((cV n:Nat):Int)-1).toNat []))) H;rw[rm];exact q
def uu:Sp:=λvs H Q _=>∃(k:Nat) (d:Int),vs=[.int (k:Nat),.int d]/\k<3/\Q (.str (wd (gi k d))) H
def zD(T:Txt K mg)(F:HasFn K mg "jump_written" e9 ["width","distance"])(hlast_figures:ao P w K mg base aN 1 "last_figures" ["number","many"] wZ):ao P w K mg base aN 2 "jump_written" ["width","distance"] uu:=by
 obtain⟨ah,hg_HEADS,kt_HEADS⟩:=T.tM;obtain⟨aw,hg_WIDTHS,kt_WIDTHS⟩:=T.pV;have hr_HEADS:RelV (.ref ah) (.ref ah):=rfl;have hr_WIDTHS:RelV (.ref aw) (.ref aw):=rfl;refine F.eZ jH (λvs H Q E h=>?_) (λf cdv A outer s H vs Q E hr h=>?_)
 ·obtain⟨k,d,rfl,_⟩:=h;rfl
 ·have hu:=aI hr;obtain⟨k,d,rfl,hk,q⟩:=h;refine⟨_,(Z.ax (Z.ret (Z.op (Z.aE K rfl) (Z.ix (Z.pQ K rfl) (Z.glob rfl hg_HEADS hr_HEADS) (Z.v 0)) (Z.fc hlast_figures (Z.cons (Z.v 1) (Z.cons (Z.ix (Z.pQ K rfl) (Z.glob rfl hg_WIDTHS hr_WIDTHS) (Z.v 0)) Z.nil)))))),?_⟩;nofun;have p2:bI [V.str (Str.ofString "0"),.str (Str.ofString "10"),.str (Str.ofString "11")] (k:Int)=some (.str (wd (eA k))):=by
   rcases mD hk with rfl|rfl|rfl
   ·exact Km (λz=>some (V.str z)) (by decide +kernel)
   ·exact Km (λz=>some (V.str z)) (by decide +kernel)
   ·exact Km (λz=>some (V.str z)) (by decide +kernel)
  have p3:bI [V.int 4,.int 8,.int 16] (k:Int)=some (.int ((d6 k:Nat):Int)):=by rcases mD hk with rfl|rfl|rfl<;>rfl
  have p4:d6 k<=16/\(eA k).length<=2:=by rcases mD hk with rfl|rfl|rfl<;>decide
  refine⟨ah,_,_,_,rfl,rfl,kt_HEADS H,p2,aw,_,_,_,rfl,rfl,kt_WIDTHS H,p3,_,_,rfl,by lia,by lia,?_⟩
  rw[JW];nofun;rw[dE,bu,bu,dM];exact⟨JC (show _<=30 by simp;lia) (by decide),q⟩
def Aw(H:Hp)(ps:List Addr)(l:List (Nat×Nat)):Prop:=ps.length=l.length/\∀(j:Nat) (q:Addr) (x:Nat×Nat),ps[j]?=some q->l[j]?=some x->H q=some (.tup [.int (x.1:Nat),.int (x.2:Nat)])
def Aw.snoc{ps:List Addr}{l:List (Nat×Nat)}{q:Addr}{x:Nat×Nat}(h:Aw H ps l)(e:H q=some (.tup [.int (x.1:Nat),.int (x.2:Nat)])):Aw H (ps++[q]) (l++[x]):=by
 refine⟨by rw[Jv,Jv,h.1];rfl,λi q' r' e1 e2=>?_⟩
 rcases Ku i ps.length with hi|hi
 ·rw[JX hi] at e1;rw[JX (by rw[<- h.1];exact hi)] at e2
  exact h.2 i q' r' e1 e2
 ·have h1:=h.1;rw[JP hi] at e1;rw[JP (by lia),<- h1] at e2
  obtain⟨hj,rfl⟩:=Ju.mp e1;obtain⟨hj2,rfl⟩:=Ju.mp e2;have:i-ps.length=0:=by simp at hj;lia
  simp only[this,L_];exact e
def B0{D:Addr}(h:H D=some (.lst ys)):NT [D] H:=λb hb xs e=>by
 rw[JH.mp hb,h] at e;cases e
def Aw.keep{ps:List Addr}{l:List (Nat×Nat)}(h:Aw H ps l)(k:KB ex H H')(hx:NT ex H):Aw H' ps l:=⟨h.1,λi q r e1 e2=>k _ _ (h.2 i q r e1 e2) λz=>hx q z _ (h.2 i q r e1 e2)⟩
def Ib(x:V)(xs:List V):dC (x::xs) (some 1) none=xs:=by
 unfold dC;rw[HT.cS,show (some (1:Int))=some ((1:Nat):Int) from rfl,HT.eK];simp
def n_{x:V}(h:H a=some (.tup (x::xs)))(q:∀p,H p=none->Q (.ref p) (upd H p (.tup xs))):sM K (.ref a) (some 1) none H Q:=⟨a,x::xs,rfl,bq.of h,λz=>by
 have:=z.1;rw[show (some (1:Int))=some ((1:Nat):Int) from rfl,HT.eK] at this;simp at this,by rw[Ib];exact q⟩
def qd:Sp:=λvs H Q _=>∃(ra:Addr) (r:Row) (k:Nat),vs=[.ref ra]/\H ra=some (.tup r.vs)/\r.Ok k/\∀D ps H',H D=none->KB [] H H'->H' D=some (.lst (ps.map V.ref))->Aw H' ps (dI r)->Q (.ref D) H'
def v9(T:Txt K mg)(F:HasFn K mg "coded_things" e7 ["row"]):ao P w K mg base aN 1 "coded_things" ["row"] qd:=by
 obtain⟨u0,hg_OF_WORDS,hr_OF_WORDS⟩:=T.rp;obtain⟨u1,hg_OF_CLASSES,hr_OF_CLASSES⟩:=T.nX;obtain⟨u2,hg_OF_BOXES,hr_OF_BOXES⟩:=T.sO;obtain⟨aB,hg_BOXES,sB⟩:=T.Cc;have hr_BOXES:RelV (.ref aB) (.ref aB):=rfl;obtain⟨_,oB,hmB,hoB,hdB⟩:=T.Bs;rw[hg_BOXES] at hmB;cases hmB;have tyB:∀H,FL K "tuple" (.ref aB) H:=λH=>.inr (.inl ⟨rfl,oB,hoB,by
  rcases sB (λ_=>none) with h|⟨o,_,_,h1,h2,_⟩
  ·rcases h with h|⟨_,h⟩
   ·cases h
   ·cases h
  ·rw[hoB] at h1;cases h1;exact h2,hdB⟩)
 obtain⟨dS,hg_SHAPES,hd0⟩:=T.qO;have hd_SHAPES:mh K dS kW:=hd0;have hr_SHAPES:RelV (.ref dS) (.ref dS):=rfl;refine F.eZ cE (λvs H Q E h=>?_) (λf cdv A outer s H vs Q E hr h=>?_)
 ·obtain⟨ra,r,k,rfl,_⟩:=h;rfl
 ·have hu:=aI hr;obtain⟨ra,r,k,rfl,hra,aP,q⟩:=h;refine⟨_,(Z.aq (Z.se (i:=1) cE.nd (Z.lst (Z.cons (Z.tup (Z.cons (Z.glob rfl hg_OF_WORDS hr_OF_WORDS) (Z.cons (Z.bm K rfl PySem.F.plainAttrs_list PySem.F.slot_list_index PySem.F.type_list_index Y.uR (Z.ct (r_ (D:=kW) K rfl rfl) rfl T.xJ (by decide +kernel) (Z.cons (Z.glob rfl hg_SHAPES hr_SHAPES) Z.nil)) (Z.cons (Z.ix (Z.aA K rfl hu) (Z.v 0) Z.int) Z.nil)) Z.nil))) Z.nil)))
   (Z.aq (Z.fh JZ rfl (yy K rfl rfl T.uO (Z.cons (Z.Jb K rfl rfl hg_SHAPES hd_SHAPES (Z.ix (Z.aA K rfl hu) (Z.v 0) Z.int)) (Z.cons (Z.slice (Z.vX K rfl) (Z.v 0) (Z.oY Z.int) Z.nY) Z.nil))) (Z.m8 (n:=2) K rfl rfl (Z.bw (Z.aH (i:=2) cE.nd rfl (by right)) (Z.bw (Z.aH (i:=3) cE.nd rfl (by right)) Z.gr))) (Z.ax (Z.cZ (Z.aR aW (Z.v 2) Z.str) (Z.ax (Z.expr (Z.app K (Z.v 1) (Z.cons (Z.tup (Z.cons (Z.glob rfl hg_OF_BOXES hr_OF_BOXES) (Z.cons (Z.bm K rfl PySem.F.plainAttrs_tuple PySem.F.slot_tuple_index PySem.F.type_tuple_index (DS (X:=_)) (Z.glob rfl hg_BOXES hr_BOXES) (Z.cons (Z.v 3) Z.nil)) Z.nil))) Z.nil)))) (Z.ax (Z.cZ (Z.aR aW (Z.v 2) Z.str) (Z.ax (Z.expr (Z.app K (Z.v 1) (Z.cons (Z.tup (Z.cons (Z.glob rfl hg_OF_CLASSES hr_OF_CLASSES) (Z.cons (Z.HY K rfl PySem.F.plainAttrs_int PySem.F.slot_int_bit_length PySem.F.type_int_bit_length Y.nO (Z.v 3)) Z.nil))) Z.nil)))) Z.b9)))))
   (Z.ax (Z.ret (Z.v 1))))),?_⟩
  have a0:bI r.vs 0=some (.str r.wd):=by cases r<;>rfl
  refine au λN hN=>?_;exists aF hra,a0;refine⟨dS,rfl,hd_SHAPES,by decide,λl hl=>?_⟩
  obtain⟨k1,s1⟩:=cX hl (.lst (kW.map λp=>V.str p.1));generalize upd H l _=H1 at *;refine⟨.inl ⟨rfl,_,bg.of s1⟩,?_⟩;have hra1:=k1.n hra;exists aF hra1,a0;refine⟨l,df,r.wd,r.wi,rfl,s1,rfl,(tS r).1,(tS r).2,⟨by decide,λp1 hp1=>⟨by decide,λD hD=>?_⟩⟩⟩
  obtain⟨kp1,sp1⟩:=cX hp1 (.tup [.int 0,.int (r.wi:Nat)]);generalize upd H1 p1 _=H2 at *;obtain⟨kD,sD⟩:=cX hD (.lst [.ref p1]);generalize upd H2 D _=H3 at *;have hDH:H D=none:=(k1.trans kp1).free (by simp) hD
  have th3:Aw H3 [p1] [(0,r.wi)]:=⟨rfl,λj q x e1 e2=>by
   have hj:j<1:=(Ju.mp e1).1;obtain rfl:j=0:=by lia
   cases e1;cases e2
   exact kD.n sp1⟩
  have k03:=(k1.trans kp1).trans kD;subst hN;clear sp1 hp1 s1 hl hD hra1;refine au λN hN=>?_;have hra3:=k03.n hra;exists lg,aF hra3,a0;refine⟨_,_,rfl,vQ r,λpk kt=>?_⟩;rw[Row.CV] at hra3;refine n_ hra3 λtl htl=>?_;obtain⟨kt3,st3⟩:=cX htl (.tup (r.eI.map Pk.v));generalize upd H3 tl _=H4 at *;have k04:=k03.trans kt3;have ktq:∀G:Hp,bq K G pk ((r.eI.map Pk.kd).map V.str):=λG=>.inr kt;refine⟨(false,pk),(false,tl),⟨rfl,rfl⟩,⟨_,ktq _⟩,⟨_,bq.of st3⟩,λn=>?_⟩;refine mO (xs:=(r.eI.map Pk.kd).map V.str) (ys:=r.eI.map Pk.v) (by rw[Jt,Jt,Jt]) (λi σ H'=>∃(ps:List Addr) (o2 o3:Option V),i<=r.eI.length/\KB [] H H'/\H' tl=some (.tup (r.eI.map Pk.v))/\H' D=some (.lst (ps.map V.ref))/\Aw H' ps ((0,r.wi)::(r.eI.take i).flatMap Pk.z_)/\σ=[some (.ref ra),some (.ref D),o2,o3]) ⟨[p1],none,none,JJ _,k04,st3,kt3.n sD,th3.keep kt3 (NT.nil _),rfl⟩ (λi σ H' h=>by obtain⟨_,_,_,_,_,h1,_⟩:=h;exact⟨ktq _,bq.of h1⟩) ?_ ?_
  ·rintro i x y σ H' z hx hy ⟨ps,o2,o3,hi,hk,h1,h2,h3,rfl⟩ hz;have hlt:i<r.eI.length:=by have:=(Ju.mp hy).1;rw[Jt] at this;exact this
   have ep:=Jr hlt;have pok:=Row.rD aP _ (JM hlt);have et:(r.eI.take (i+1)).flatMap Pk.z_=(r.eI.take i).flatMap Pk.z_++(r.eI[i]).z_:=by rw[Kp,ep,List.flatMap_append];simp
   rw[J6,J6,ep] at hx;rw[J6,ep] at hy;generalize r.eI[i]=pt at *
   cases hx;cases hy
   unfold aT;refine⟨z,_,rfl,bq.of aa,rfl,_,_,rfl,_,_,rfl,rfl,?_⟩;have kz:=KB.new (ex:=[]) (o:=.tup [.str pt.kd,pt.v]) hz;generalize upd H' z (.tup [.str pt.kd,pt.v])=H5 at *;have hk5:=hk.trans kz;have h15:=kz.n h1;have h25:=kz.n h2;have h35:=h3.keep kz (NT.nil _);dsimp only;refine jS λM hM=>?_;have psl:ps.length<=4:=by
    have e:=h3.1;rw[e];have c:=oj r;unfold dI at c;rw[JE] at c ⊢;have:((r.eI.take i).flatMap Pk.z_).length<=(r.eI.flatMap Pk.z_).length:=by
     rw[<- KH i r.eI,List.flatMap_append,Jv,KH];exact Nat.le_add_right _ _
    lia
   have fin:∀(u v:Nat) (G:Hp) (t:Addr),pt.z_=[(u,v)]->KB [] H5 G->G t=none->M [some (.ref ra),some (.ref D),some (.str pt.kd),some pt.v] (upd (upd G t (.tup [.int (u:Nat),.int (v:Nat)])) D (.lst (ps.map V.ref++[.ref t]))):=λu v G t ec kG ht=>by
    rw[hM];obtain⟨kt',st'⟩:=cX ht (.tup [.int (u:Nat),.int (v:Nat)]);generalize upd G t _=G2 at *;have k52:=kG.trans kt';have hD2:=k52.n h25;have nt:=B0 hD2;refine⟨ps++[t],_,_,hlt,λb o e _=>by rw[ak (af e hDH)];exact k52.n (hk5.n e),by rw[ak (λz=>by rw[z] at h15;rw[h25] at h15;cases h15)];exact k52.n h15,by rw[aa,JN];rfl,?_,rfl⟩
    rw[et,ec,<- KN];exact ((h35.keep k52 (NT.nil _)).snoc (q:=t) (x:=(u,v)) st').keep (KB.set (ex:=[D]) (by simp)) nt
   cases pt with
   |box b =>
    obtain⟨e1,e2⟩:=E5 (b:=b) pok;nofun;rw[JA (show (Pk.box b).kd=Str.ofString "box" from rfl)];refine⟨.inl ⟨rfl,_,bg.of h25⟩,tyB _,aB,Gw,eF b,b,rfl,sB _,rfl,e1,e2,by decide,λt ht=>?_⟩
    have h26:upd H5 t (.tup [.int 2,.int (b:Nat)]) D=some (.lst (ps.map V.ref)):=by rw[ak (af h25 ht)];exact h25
    exact⟨D,_,_,rfl,rfl,h26,Kv (show _<=10 by rw[Jt];lia) (by decide),fin 2 b H5 t rfl (KB.refl _ _) ht⟩
   |num n =>
    nofun;rw[Jy (show ¬ (Pk.num n).kd=Str.ofString "box" from (by decide +kernel:¬ Str.ofString "number"=Str.ofString "box")),JA (show (Pk.num n).kd=Str.ofString "number" from rfl)]
    refine⟨.inl ⟨rfl,_,bg.of h25⟩,rfl,(n:Int),rfl,rfl,by decide,λt ht=>?_⟩
    have h26:upd H5 t (.tup [.int 1,.int (cV n:Nat)]) D=some (.lst (ps.map V.ref)):=by rw[ak (af h25 ht)];exact h25
    exact⟨D,_,_,rfl,rfl,h26,Kv (show _<=10 by rw[Jt];lia) (by decide),fin 1 (cV n) H5 t rfl (KB.refl _ _) ht⟩
   |goal g =>
    nofun;rw[Jy (show ¬ (Pk.goal g).kd=Str.ofString "box" from (by decide +kernel:¬ Str.ofString "goal"=Str.ofString "box")),Jy (show ¬ (Pk.goal g).kd=Str.ofString "number" from (by decide +kernel:¬ Str.ofString "goal"=Str.ofString "number"))]
    rw[hM];exact⟨ps,_,_,hlt,hk5,h15,h25,by rw[et];show Aw H5 ps ((0,r.wi)::((r.eI.take i).flatMap Pk.z_++[]));rw[Ks];exact h35,rfl⟩
  ·rintro σ H' ⟨ps,o2,o3,hi,hk,h1,h2,h3,rfl⟩;show N _ _;subst hN;nofun;refine q D ps H' hDH hk h2 ?_;rw[Jt,Jt,Kb] at h3;exact h3
def qc{te:TE}(hn:xs.length<=sizeLine)(Pv:Addr->Nat->List V->Hp->Prop)(h0:∀D,H D=none->Pv D 0 [] (upd H D (.lst [])))(hD:∀D i ys H',Pv D i ys H'->H' D=some (.lst ys)/\ys.length=i)
  (hl:∀D i ys H',Pv D i ys H'->bg K H' a xs)
  (hs:∀D i ys H' x,xs[i]?=some x->Pv D i ys H'->∃q u v,x=.ref q/\H' q=some (.tup [u,v])/\∀R:VK,(∀v H5,H5 D=some (.lst ys)->Pv D (i+1) (ys++[v]) (upd H5 D (.lst (ys++[v])))->R v H5)->te (some u::some v::σ) H' R) (hd:∀D ys H',Pv D xs.length ys H'->Q (.ref D) H') :
  kj (xW K a) 2 (nH K 2 (gZ (aT 0) (gZ (aT 1) vj))) gw te Q σ H:=by
 intro D hD0;refine⟨λi m ys σ' H'=>m=xs.length-i/\i<=xs.length/\Pv D i ys H'/\∃o1 o2,σ'=o1::o2::σ,⟨xs.length,by simp,JJ _,h0 D hD0,none,none,rfl⟩,?_⟩
 rintro i m ys σ' H' ⟨rfl,hi,p,o1,o2,rfl⟩;obtain⟨hDi,hly⟩:=hD _ _ _ _ p;have q:=hl _ _ _ _ p;refine⟨hDi,?_⟩;by_cases hlt:i<xs.length
 ·refine .inr ⟨⟨xs,xs[i],q,by simp[hlt]⟩,by lia,λx H2 y=>?_⟩
  obtain⟨rfl,y⟩:=y;obtain⟨t,u,v,rfl,ht,h⟩:=hs D i ys H2 x (y xs q) p;refine⟨t,[u,v],rfl,bq.of ht,rfl,u,[v],rfl,v,[],rfl,rfl,?_⟩;unfold gw;dsimp only;rw[if_pos rfl];exact h _ λv H5 q1 q2=>⟨q1,xs.length-(i+1),by lia,rfl,hlt,q2,_,_,rfl⟩
 ·have e:i=xs.length:=by lia
  subst e;exact .inl ⟨⟨xs,q,J8 _⟩,hd D ys H' p⟩
def uf(K:W.Frag):Sp:=λvs H Q _=>∃(ra ca:Addr) (r:Row) (k:Nat) (cd:List (List (List Nat))),vs=[.ref ra,.ref ca]/\H ra=some (.tup r.vs)/\r.Ok k/\Co H ca cd/\Cd cd/\∀H',KB [] H H'->Q (.str (wd (bj cd r))) H'
def xN(T:Txt K mg)(F:HasFn K mg "bits_ahead_of_goal" bD ["row","codes"])(hcoded_things:ao P w K mg base aN 1 "coded_things" ["row"] qd)(hfigures_behind_first:ao P w K mg base aN 2 "figures_behind_first" ["number"] ny):ao P w K mg base aN 3 "bits_ahead_of_goal" ["row","codes"] (uf K):=by
 refine F.eZ dc (λvs H Q E h=>?_) (λf cdv A outer s H vs Q E hr h=>?_)
 ·obtain⟨ra,ca,r,k,cd,rfl,_⟩:=h;rfl
 ·have hu:=aI hr;obtain⟨ra,ca,r,k,cd,rfl,hra,aP,gW,hC,q⟩:=h;refine⟨_,(Z.aq (Z.se (i:=2) dc.nd (Z.bm K rfl PySem.F.plainAttrs_str PySem.F.slot_str_join PySem.F.type_str_join (Z.yr K rfl) Z.str (Z.cons (Z.vy (osc:=ae bD) (ON:=["row","codes","bits"]) (own:=["which","thing"]) (N:=["which","thing","row","codes","bits"]) (az.of rfl (by decide +kernel)) (Z.any K rfl (Z.fc hcoded_things (Z.cons (Z.v 0) Z.nil))) (λnd _ _ _ _=>(Z.m8 (n:=2) K rfl rfl (Z.bw (Z.aH (i:=0) nd rfl (by right)) (Z.bw (Z.aH (i:=1) nd rfl (by right)) Z.gr)))) (λ_ _ _ _=>Z.pe) (λ_ _ _ _=>(Z.ix (Z.aA K rfl hu) (Z.ix (Z.aA K rfl hu) (Z.v 3) (Z.v 0)) (Z.v 1)))) Z.nil)))
   (Z.ax (Z.ret (Z.FH (Z.aR aW (Z.ix (Z.aA K rfl hu) (Z.v 0) Z.int) Z.str) (Z.op (Z.aE K rfl) (Z.v 2) (Z.fc hfigures_behind_first (Z.cons (Z.ix (Z.aA K rfl hu) (Z.v 0) (Z.un bM Z.int)) Z.nil))) (Z.v 2))))),?_⟩
  have a0:bI r.vs 0=some (.str r.wd):=by cases r<;>rfl
  refine au λN hN=>?_;nofun;refine⟨rfl,ra,r,k,rfl,hra,aP,λD ps H1 hD k1 hD1 th=>?_⟩;exists ar hD1;have hcd1:Co H1 ca cd:=gW.keep k1 (by simp) (λb hb=>nomatch hb)
  have thl:=th.1;have cl:=oj r;refine qc (xs:=ps.map V.ref) (JC (show _<=3 by rw[Jt];lia) (by decide)) (λL i ys H'=>H1 L=none/\H' L=some (.lst ys)/\KB [] H1 H'/\i<=(dI r).length/\ys=(((dI r).take i).map λp=>wd (fk cd p)).map V.str) (λL hL=>⟨hL,aa,KB.new hL,JJ _,rfl⟩) (λL i ys H' h=>⟨h.2.1,by rw[h.2.2.2.2,Jt,Jt,JG];have:=h.2.2.2.1;lia⟩) (λL i ys H' h=>bg.of (h.2.2.1 _ _ hD1 (by simp))) ?_ ?_
  ·rintro L i ys H' x hx ⟨g0,g1,gk,hi,rfl⟩;obtain⟨c,ec,rfl⟩:∃c,ps[i]?=some c/\x=.ref c:=by
    rw[J6] at hx;obtain⟨c,e,rfl⟩:=JS.mp hx;exact⟨c,e,rfl⟩
   have hlt:i<(dI r).length:=by have:=(Ju.mp ec).1;lia
   have er:=Jr hlt;have et:(dI r).take (i+1)=(dI r).take i++[(dI r)[i]]:=by rw[Kp,er];rfl
   have hc:=gk.n (th.2 i c _ ec er);have ck:=xO aP _ (JM hlt);generalize (dI r)[i]=pr at *;refine⟨c,_,_,rfl,hc,λR kk=>?_⟩;have g:=hC.at ck;obtain⟨a0',a1',a2',y1,y2,y3,y4⟩:=hcd1;have y1':=gk.n y1;obtain⟨ai,e1,e2⟩:∃ai,bI [V.ref a0',.ref a1',.ref a2'] (pr.1:Int)=some (.ref ai)/\H' ai=some (.tup (wV (cd.getD pr.1 []))):=by
    rcases ck with ⟨h,_⟩|⟨h,_⟩|⟨h,_⟩<;>rw[h]
    ·exact⟨a0',rfl,gk.n y2⟩
    ·exact⟨a1',rfl,gk.n y3⟩
    ·exact⟨a2',rfl,gk.n y4⟩
   have e3:bI (wV (cd.getD pr.1 [])) (pr.2:Int)=some (.str (wd (fk cd pr))):=aU (by unfold wV;rw[J6,g.2.1];rfl)
   exists ar y1',e1,aF e2,e3;exact kk _ _ g1 ⟨g0,aa,λu o e _=>by rw[ak (af e g0)];exact gk.n e,hlt,by rw[et,JN,JN];rfl⟩
  rintro L ys H2 ⟨_,gL,k2,_,rfl⟩;rw[Jt,thl,Kb] at gL;have k02:=k1.trans k2;have hl:=qf hC aP;have e1:((dI r).map λp=>wd (fk cd p))=((dI r).map (fk cd)).map wd:=by rw[KI];rfl
  have e2:(((dI r).map λp=>wd (fk cd p)).map λx=>x.length).sum=((dI r).flatMap (fk cd)).length:=by
   rw[List.length_flatMap,KI];rfl
  refine⟨_,L,_,rfl,rfl,bg.of gL,?_,?_⟩
  ·rw[e2,show (Str.ofString "").length=0 from by decide +kernel];lia
  rw[e1,oM,<- List.flatMap_def];subst hN;have hra2:=k02.n hra;exists aF hra2,a0;have hh:bj cd r=(dI r).flatMap (fk cd)++nq r:=rfl;have qq:=q H2 k02;rw[hh] at qq;generalize (dI r).flatMap (fk cd)=y at *;by_cases hp:r.wd=Str.ofString "put"
  ·obtain⟨b,n,rfl⟩:∃b n,r=.put b n:=by
    cases r with
    |put b n=>exact⟨b,n,rfl⟩
    |two u b c=>exact absurd hp ((by decide +kernel:∀u,¬ w2 u=Str.ofString "put") u)
    |one u b=>exact absurd hp ((by decide +kernel:∀u,¬ w1 u=Str.ofString "put") u)
    |jump g=>exact absurd hp (show ¬ Str.ofString "jump"=Str.ofString "put" from by decide +kernel)
    |zero b g=>exact absurd hp (show ¬ Str.ofString "zero"=Str.ofString "put" from by decide +kernel)
    |halt=>exact absurd hp (show ¬ Str.ofString "halt"=Str.ofString "put" from by decide +kernel)
   rw[JA hp];refine⟨n,rfl,aP.2,?_⟩;nofun;rw[dE,bu,bu];exact⟨JC (show _<=200 by have:=hl.2;show y.length+(nq (.put b n)).length<=200;lia) (by decide),qq⟩
  ·rw[Jy hp];have et:nq r=[]:=by cases r<;>first|rfl|exact absurd rfl hp
   rw[et,Ks] at qq;exact qq
noncomputable def sJ(ss:List Nat)(gs:List (Option Nat)):Nat->List Nat->List Nat
 |0,ws=>ws
 |m+1,ws=>match d8 ss gs ws with
  |none=>ws
  |some k=>sJ ss gs m (ws.set k (ws.getD k 0+1))
def wO(ss:List Nat)(gs:List (Option Nat)):List Nat:=sJ ss gs (2*ss.length+1) (List.replicate ss.length 0)
def Fu{gs:List (Option Nat)}{ws:List Nat}(hs:∀s∈ss,s<=150)(hn:ss.length<=64)(t k:Nat):jn 2 (bZ (c_ 0 ss gs ws) t k)=true:=by
 have h3:=t7 (gs:=gs) (ws:=ws) hs t;have h4:=t7 (gs:=gs) (ws:=ws) hs (k+1);unfold jn bZ;rw[Kl (show -dF 2<=_ by show -32768<=_;lia),Kl (show _<dF 2 by show _<32768;lia)]
 rfl
def jW(hs:∀s∈ss,s<=150)(hn:ss.length<=64)(hl:ws.length=ss.length)(hg:gs.length=ss.length)(hw:∀w∈ws,w<3)(h:d8 ss gs ws=some k):∃t w,gs[k]?=some (some t)/\ws[k]?=some w/\w<2:=by
 have h1:=NS h;have h2:=N5 h;unfold jG at h1;have hk:k<gs.length:=by have:=List.mem_range'.mp h2;obtain⟨i,hi,e⟩:=this;lia
 have eg:=Jr hk;have ew:=Jr (show k<ws.length by lia)
 have lw:=hw _ (JM (show k<ws.length by lia))
 rw[eg,ew] at h1;generalize gs[k]'_=g at *;generalize ws[k]'_=w at *
 cases g with
 |none=>cases h1
 |some t =>
  refine⟨t,w,eg,ew,?_⟩;rcases Ku w 2 with c|c
  ·exact c
  ·have:w=2:=by lia
   subst this
   replace h1:(!jn 2 (bZ (c_ 0 ss gs ws) t k))=true:=h1
   rw[Fu hs hn t k] at h1;cases h1
def r8(h:d8 ss gs ws=none):nU ss gs ws:=λk t w h1 h2=>by
 have hk:k<gs.length:=(Ju.mp h1).1;have:=List.find?_eq_none.mp h k (List.mem_range'.mpr ⟨k,hk,by lia⟩)
 unfold jG at this;rw[h1,h2] at this
 simpa using this
def AE{l:List Nat}{w:Nat}(h:l[k]?=some w):(l.set k (l.getD k 0+1)).sum=l.sum+1:=by
 induction l generalizing k with
 |nil=>cases h
 |cons x l ih =>
  cases k with
  |zero=>show ((x+1)::l).sum=_;rw[LW,LW];lia
  |succ k=>show (x::l.set k (l.getD k 0+1)).sum=_;rw[LW,LW,ih (by simpa using h)];lia
def EB{v:Nat}(h:gs[k]?=some (some t)):(i8 gs ws).set k (.int (v:Nat))=i8 gs (ws.set k v):=by
 induction gs generalizing ws k with
 |nil=>cases h
 |cons g gs ih =>
  cases ws with
  |nil=>rfl
  |cons w ws =>
   cases k with
   |zero=>cases h;rfl
   |succ k=>show vM g w::(i8 gs ws).set k _=vM g w::i8 gs (ws.set k v);rw[ih (by simpa using h)]
structure Wy (ss:List Nat) (gs:List (Option Nat)) (ws:List Nat):Prop where
 len:ws.length=ss.length
 lt:∀w∈ws,w<3
 to:sJ ss gs (2*ss.length+1-ws.sum) ws=wO ss gs
def Wy.zero(ss:List Nat)(gs:List (Option Nat)):Wy ss gs (List.replicate ss.length 0):=⟨JI ..,λw hw=>by rw[(K6.mp hw).2];decide,by rw[MC,OD];rfl⟩
def Wy.next(h:Wy ss gs ws)(hs:∀s∈ss,s<=150)(hn:ss.length<=64)(hg:gs.length=ss.length)(hf:d8 ss gs ws=some k):Wy ss gs (ws.set k (ws.getD k 0+1))/\(ws.set k (ws.getD k 0+1)).sum=ws.sum+1/\ws.sum<2*ss.length:=by
 obtain⟨t,w,e1,e2,e3⟩:=jW hs hn h.len hg h.lt hf;have es:=AE e2;have eg:ws.getD k 0=w:=by rw[Jz,e2];rfl
 have hlt:∀x∈ws.set k (ws.getD k 0+1),x<3:=λx hx=>by
  rcases Lk hx with z|z
  ·exact h.lt x z
  ·rw[z,eg];lia
 have hb:=iJ hlt;rw[Lm,h.len,es] at hb;refine⟨⟨by rw[Lm,h.len],hlt,?_⟩,es,by lia⟩
 rw[es,<- h.to,show 2*ss.length+1-ws.sum=(2*ss.length+1-(ws.sum+1))+1 by lia,sJ,hf]
def Wy.done(h:Wy ss gs ws)(hf:d8 ss gs ws=none):wO ss gs=ws:=by
 rw[<- h.to];have hb:=iJ h.lt;rw[h.len] at hb;rw[show 2*ss.length+1-ws.sum=(2*ss.length-ws.sum)+1 by lia,sJ,hf]
theorem Wy.fit(hs:∀s∈ss,s<=150)(hn:ss.length<=64)(hg:gs.length=ss.length):∀(m:Nat) (ws:List Nat),Wy ss gs ws->2*ss.length+1-ws.sum<=m->Wy ss gs (wO ss gs)/\nU ss gs (wO ss gs)
 |0,ws,h,hm=>by
  have hb:=iJ h.lt;rw[h.len] at hb;lia
 |m+1,ws,h,hm=>by
  cases hf:d8 ss gs ws with
  |none=>rw[h.done hf];exact⟨h,r8 hf⟩
  |some k =>
   obtain⟨h1,h2,h3⟩:=h.next hs hn hg hf;exact Wy.fit hs hn hg m _ h1 (by lia)
def CC(hs:∀s∈ss,s<=150)(hn:ss.length<=64)(hg:gs.length=ss.length):(wO ss gs).length=ss.length/\(∀w∈wO ss gs,w<3)/\nU ss gs (wO ss gs):=by
 obtain⟨h1,h2⟩:=Wy.fit hs hn hg _ _ (Wy.zero ss gs) (J8 _);exact⟨h1.len,h1.lt,h2⟩
def pW(K:W.Frag):Sp:=λvs H Q _=>∃(a b:Addr) (ss:List Nat) (gs:List (Option Nat)),vs=[.ref a,.ref b]/\H a=some (.lst (iV (nZ ss)))/\H b=some (.lst (gs.map aJ))/\gs.length=ss.length/\ss.length<=64/\(∀s∈ss,s<=150)/\(∀t,some t∈gs->t<=ss.length)/\∀t u v H',KB [] H H'->H' t=some (.tup [.ref u,v])->H' u=some (.tup (i8 gs (wO ss gs)))->Q (.ref t) H'
def vz(T:Txt K mg)(F:HasFn K mg "raised_till_good" cJ ["sizes","goals"])(hnarrowest:ao P w K mg base aN 1 "narrowest" ["goals"] qp)(hfirst_too_narrow:ao P w K mg base aN 3 "first_too_narrow" ["sizes","goals","widths"] (tR K)):ao P w K mg base aN 4 "raised_till_good" ["sizes","goals"] (pW K):=by
 obtain⟨uW,hg_WIDEST,hr_WIDEST⟩:=T.zG;refine F.eZ bt (λvs H Q E h=>?_) (λf cdv A outer s H vs Q E hr h=>?_)
 ·obtain⟨a,b,ss,gs,rfl,_⟩:=h;rfl
 ·have hu:=aI hr;obtain⟨a,b,ss,gs,rfl,ha,hb,hg,hn,hs,ht,q⟩:=h;refine⟨_,(Z.aq (Z.se (i:=2) bt.nd (Z.fc hnarrowest (Z.cons (Z.v 1) Z.nil)))
   (Z.aq (Z.se (i:=3) bt.nd (Z.lst Z.nil))
   (Z.aq (Z.se (i:=4) bt.nd (Z.fc hfirst_too_narrow (Z.cons (Z.v 0) (Z.cons (Z.v 1) (Z.cons (Z.v 2) Z.nil)))))
   (Z.aq (Z.yD JZ (Z.aR eQ (Z.v 4) Z.aL) (Z.aq (Z.cZ (Z.aR aW (Z.ix (Z.aA K rfl hu) (Z.v 2) (Z.v 4)) (Z.glob rfl hg_WIDEST hr_WIDEST)) (Z.ax Z.Ja) Z.b9)
   (Z.aq (Z.asg (Z.op (Z.aE K rfl) (Z.ix (Z.aA K rfl hu) (Z.v 2) (Z.v 4)) Z.int) (Z.mx (Z.v 2) (Z.v 4)))
   (Z.aq (Z.expr (Z.app K (Z.v 3) (Z.cons (Z.v 4) Z.nil)))
   (Z.ax (Z.se (i:=4) bt.nd (Z.fc hfirst_too_narrow (Z.cons (Z.v 0) (Z.cons (Z.v 1) (Z.cons (Z.v 2) Z.nil))))))))))
   (Z.ax (Z.ret (Z.tup (Z.cons (Z.ct (Z.dJ K rfl) rfl T.cW (by decide +kernel) (Z.cons (Z.v 2) Z.nil)) (Z.cons (Z.ct (Z.dJ K rfl) rfl T.cW (by decide +kernel) (Z.cons (Z.v 3) Z.nil)) Z.nil))))))))),?_⟩
  refine au λN hN=>?_;nofun;refine⟨b,gs,rfl,hb,by lia,λd H1 hd k1 g1=>?_⟩
  rw[hg] at g1;subst hN;refine au λN hN=>?_;nofun;refine⟨JJ _,λpp hpp=>?_⟩;obtain⟨k2,s2⟩:=cX hpp (.lst []);generalize upd H1 pp _=H2 at *;have g2:=k2.n g1;have k02:=k1.trans k2;have hppH:H pp=none:=k1.free (by simp) hpp
  have dpp:d≠pp:=λz=>by rw[z,hpp] at g1;cases g1
  subst hN;refine au λN hN=>?_;nofun;have wy0:=Wy.zero ss gs;refine⟨a,b,d,ss,gs,_,rfl,k02.n ha,k02.n hb,g2,hg,wy0.len,hn,ht,wy0.lt,λH3 k3=>?_⟩;subst hN;have k03:=k02.trans k3;have g3:=k3.n g2;have s3:=k3.n s2;refine au λN hN=>?_;refine⟨λm σ H'=>∃(ws pa:List Nat),m=2*ss.length-ws.sum/\Wy ss gs ws/\pa.length=ws.sum/\KB [] H H'/\H' d=some (.lst (i8 gs ws))/\H' pp=some (.lst (iV (nZ pa)))/\σ=[some (.ref a),some (.ref b),some (.ref d),some (.ref pp),some (AB (d8 ss gs ws))],⟨2*ss.length,_,[],by rw[MC,OD];rfl,wy0,by rw[MC,OD];rfl,k03,g3,s3,rfl⟩,?_⟩
  rintro m σ H' ⟨ws,pa,rfl,wy,hpa,hk,gd,gp,rfl⟩;nofun
  cases hf:d8 ss gs ws with
  |none =>
   rw[Jy (show ¬ ¬ AB none=V.aL from λz=>z rfl)];show N _ _;subst hN;rw[wy.done hf] at q;exists ar gd;intro u hu';obtain⟨k5,s5⟩:=cX hu' (.tup (i8 gs ws));have gp5:=k5.n gp;generalize upd H' u _=H5 at *;exists ar gp5;intro u2 hu2;have k6:=KB.new (ex:=[]) (o:=.tup (iV (nZ pa))) hu2;have s6:=k6.n s5;generalize upd H5 u2 (.tup (iV (nZ pa)))=H6 at *;refine⟨by decide,λt ht=>?_⟩
   have k7:=KB.new (ex:=[]) (o:=.tup [.ref u,.ref u2]) ht;exact q t u _ _ (hk.trans (k5.trans (k6.trans k7))) aa (k7.n s6)
  |some k =>
   rw[JA (show ¬ AB (some k)=V.aL from λz=>nomatch z)];obtain⟨t,w0,e1,e2,e3⟩:=jW hs hn wy.len hg wy.lt hf;obtain⟨wn,ws1,ws2⟩:=wy.next hs hn hg hf;refine⟨λσ' H'=>∃m',m'<2*ss.length-ws.sum/\∃(ws pa:List Nat),m'=2*ss.length-ws.sum/\Wy ss gs ws/\pa.length=ws.sum/\KB [] H H'/\H' d=some (.lst (i8 gs ws))/\H' pp=some (.lst (iV (nZ pa)))/\σ'=[some (.ref a),some (.ref b),some (.ref d),some (.ref pp),some (AB (d8 ss gs ws))],λ_ _ h=>h,?_⟩;have aw:bI (i8 gs ws) (k:Int)=some (.int (w0:Nat)):=aU (oz e1 e2);have eg:ws.getD k 0=w0:=by rw[Jz,e2];rfl
   rw[eg] at wn ws1;show Ax K (V.ref d) (.int (k:Nat)) H' _;exists ar gd,aw;have c2:¬ (w0:Int)=2:=by lia
   have c3:iY (i8 gs ws).length (k:Int)=some k:=by
    have hkl:=(Ju.mp e2).1;have:=wy.len;rw[zu (by lia)]
    unfold iY;rw[JA (by lia),JA (by lia),JW]
   rw[Jy c2];show Ax K (V.ref d) (.int (k:Nat)) H' _;exists ar gd,aw;show zg (V.ref d) (.int (k:Nat)) (.int ((w0:Int)+1)) H' _;exists gd,c3;rw[show ((w0:Int)+1)=((w0+1:Nat):Int) from rfl,EB e1];have hdd:H d=none:=hd;have kd:KB [] H (upd H' d (.lst (i8 gs (ws.set k (w0+1))))):=λu o e z=>by rw[ak (af e hdd)];exact hk _ _ e z
   have gd5:upd H' d (.lst (i8 gs (ws.set k (w0+1)))) d=_:=aa;have gp5:upd H' d (.lst (i8 gs (ws.set k (w0+1)))) pp=some (.lst (iV (nZ pa))):=by rw[ak dpp.symm];exact gp
   generalize upd H' d (.lst (i8 gs (ws.set k (w0+1))))=H5 at *;refine⟨.inl ⟨rfl,_,bg.of gp5⟩,pp,_,_,rfl,rfl,gp5,Kv (show _<=1000 by rw[fH,hpa];lia) (by decide),?_⟩
   have kp:KB [] H (upd H5 pp (.lst (iV (nZ pa)++[AB (some k)]))):=λu o e z=>by rw[ak (af e hppH)];exact kd _ _ e z
   have gd6:upd H5 pp (.lst (iV (nZ pa)++[AB (some k)])) d=some (.lst (i8 gs (ws.set k (w0+1)))):=by rw[ak dpp];exact gd5
   have gp6:upd H5 pp (.lst (iV (nZ pa)++[AB (some k)])) pp=some (.lst (iV (nZ (pa++[k])))):=by rw[aa];unfold nZ;rw[JN,fM];rfl
   generalize upd H5 pp (.lst (iV (nZ pa)++[AB (some k)]))=H6 at *;refine⟨a,b,d,ss,gs,_,rfl,kp.n ha,kp.n hb,gd6,hg,wn.len,hn,ht,wn.lt,λH7 k7=>?_⟩;exact⟨2*ss.length-(ws.sum+1),by lia,ws.set k (w0+1),pa++[k],by rw[ws1],wn,by rw[Jv,ws1,hpa];rfl,kp.trans k7,k7.n gd6,k7.n gp6,rfl⟩
def pq(K:W.Frag):Sp:=λvs H Q _=>∃(a b:Addr) (ss:List Nat) (gs:List (Option Nat)),vs=[.ref a,.ref b]/\H a=some (.lst (iV (nZ ss)))/\H b=some (.lst (gs.map aJ))/\gs.length=ss.length/\ss.length<=64/\(∀s∈ss,s<=150)/\(∀t,some t∈gs->t<=ss.length)/\∀u H',KB [] H H'->H' u=some (.tup (i8 gs (wO ss gs)))->Q (.ref u) H'
def vD(T:Txt K mg)(F:HasFn K mg "least_widths" dW ["sizes","goals"])(hraised_till_good:ao P w K mg base aN 4 "raised_till_good" ["sizes","goals"] (pW K)):ao P w K mg base aN 5 "least_widths" ["sizes","goals"] (pq K):=by
 refine F.eZ jJ (λvs H Q E h=>?_) (λf cdv A outer s H vs Q E hr h=>?_)
 ·obtain⟨a,b,ss,gs,rfl,_⟩:=h;rfl
 ·have hu:=aI hr;obtain⟨a,b,ss,gs,rfl,ha,hb,hg,hn,hs,ht,q⟩:=h;refine⟨_,(Z.ax (Z.ret (Z.ix (Z.aA K rfl hu) (Z.fc hraised_till_good (Z.cons (Z.v 0) (Z.cons (Z.v 1) Z.nil))) Z.int))),?_⟩;nofun;refine⟨a,b,ss,gs,rfl,ha,hb,hg,hn,hs,ht,λt u v H' k h1 h2=>?_⟩;exists aF h1,rf;exact q u H' k h2
def wR(cd:List (List (List Nat)))(rs:List Row):List V:=rs.map λr=>.str (wd (bj cd r))
def zp(r:Row):r.vs=(r.m (((ay r).getD 0:Nat):Int)).vs:=by cases r<;>rfl
def rL(r:Row):jd (r.m (((ay r).getD 0:Nat):Int))=aJ (ay r):=by cases r<;>rfl
def o_(bk:List (List Int))(rs:List Row):List Nat:=wO (eV (dD bk) rs) (rs.map ay)
def p7(bk:List (List Int))(rs:List Row):List Nat:=c_ 0 (eV (dD bk) rs) (rs.map ay) (o_ bk rs)
def fL(bk:List (List Int))(rs:List Row):List Nat:=ma (dD bk) (p7 bk rs) 0 rs (o_ bk rs)
def Cy{bk:List (List Int)}{rs:List Row}(hB:Bk bk)(h2:rs.length<=64)(h3:∀r∈rs,r.Ok rs.length):Laid (dD bk) rs (o_ bk rs) (p7 bk rs) (fL bk rs):=by
 have sl:(eV (dD bk) rs).length=rs.length:=Jt ..;have gl:(rs.map ay).length=rs.length:=Jt ..;obtain⟨l1,l2,l3⟩:=CC (ss:=eV (dD bk) rs) (gs:=rs.map ay) (λs hs=>by
  obtain⟨r,hr,rfl⟩:=Kg.mp hs;have:=d3 hB.cd (h3 r hr)
  lia) (by rw[sl];exact h2) (by rw[gl,sl])
 exact⟨(yx hB).1,by unfold o_;rw[l1,sl],h2,h3,l2,rfl,l3,rfl⟩
def uI(xs:List V):dC xs none (some (-1))=xs.dropLast:=by
 unfold dC;rw[HT.cS,KD,Me,Ox];congr 1;unfold HT.bB;simp only[show ((-1:Int)<0)=True from eq_true (by decide),LV]
 lia
def jR:Sp:=λvs H Q _=>∃(a b:Addr) (bk:List (List Int)) (rs:List Row),vs=[.ref a,.ref b]/\jg H a rs/\vC H b bk/\Bk bk/\rs.length<=64/\(∀r∈rs,r.Ok rs.length)/\∀t u H',KB [] H H'->H' t=some (.tup [.str (wd (fL bk rs)),.ref u])->H' u=some (.tup (iV (nZ (p7 bk rs)).dropLast))->Q (.ref t) H'
theorem Ck(T:Txt K mg)(F:HasFn K mg "pack_rows" cK ["program","book"])(hcodes_of:ao P w K mg base aN 6 "codes_of" ["book"] (t9 K))(hbits_ahead_of_goal:ao P w K mg base aN 3 "bits_ahead_of_goal" ["row","codes"] (uf K))(hgoal_of:ao P w K mg base aN 1 "goal_of" ["row"] iH)(hleast_widths:ao P w K mg base aN 5 "least_widths" ["sizes","goals"] (pq K))(hrow_starts:ao P w K mg base aN 2 "row_starts" ["sizes","widths"] (lC K))(hjump_written:ao P w K mg base aN 2 "jump_written" ["width","distance"] uu)(hdistance_of:ao P w K mg base aN 1 "distance_of" ["starts","goals","row"] rS):ao P w K mg base aN 7 "pack_rows" ["program","book"] jR:=by
 refine F.eZ ba (λvs H Q E h=>?_) (λf cdv A outer s H vs Q E hr h=>?_)
 ·obtain⟨a,b,bk,rs,rfl,_⟩:=h;rfl
 ·have hu:=aI hr;obtain⟨a,b,bk,rs,rfl,hp,hb,hB,h2,h3,q⟩:=h;have hC:=hB.cd;have L:=Cy hB h2 h3;unfold fL at q L;have ew:o_ bk rs=wO (eV (dD bk) rs) (rs.map ay):=rfl;have es:p7 bk rs=c_ 0 (eV (dD bk) rs) (rs.map ay) (o_ bk rs):=rfl;refine⟨_,(Z.aq (Z.se (i:=2) ba.nd (Z.fc hcodes_of (Z.cons (Z.v 1) Z.nil)))
   (Z.aq (Z.sec (j:=3) ba.nd (osc:=ae cK) (ON:=["program","book","codes","firsts","sizes","goals","widths","starts","bits","row","first"]) (own:=["row"]) (N:=["row","program","book","codes","firsts","sizes","goals","widths","starts","bits",".row","first"]) (az.of rfl (by decide +kernel)) (Z.any K rfl (Z.v 0)) (λnd _ _ _ _=>(Z.aH (i:=0) nd rfl (by right))) (λ_ _ _ _=>Z.pe) (λ_ _ _ _=>(Z.fc hbits_ahead_of_goal (Z.cons (Z.v 0) (Z.cons (Z.v 3) Z.nil)))))
   (Z.aq (Z.sec (j:=4) ba.nd (osc:=ae cK) (ON:=["program","book","codes","firsts","sizes","goals","widths","starts","bits","row","first"]) (own:=["first"]) (N:=["first","program","book","codes","firsts","sizes","goals","widths","starts","bits","row",".first"]) (az.of rfl (by decide +kernel)) (Z.any K rfl (Z.v 3)) (λnd _ _ _ _=>(Z.aH (i:=0) nd rfl (by right))) (λ_ _ _ _=>Z.pe) (λ_ _ _ _=>(Z.cb (Z.bO K rfl) rfl T.bG (by decide +kernel) (Z.cons (Z.v 0) Z.nil))))
   (Z.aq (Z.sec (j:=5) ba.nd (osc:=ae cK) (ON:=["program","book","codes","firsts","sizes","goals","widths","starts","bits","row","first"]) (own:=["row"]) (N:=["row","program","book","codes","firsts","sizes","goals","widths","starts","bits",".row","first"]) (az.of rfl (by decide +kernel)) (Z.any K rfl (Z.v 0)) (λnd _ _ _ _=>(Z.aH (i:=0) nd rfl (by right))) (λ_ _ _ _=>Z.pe) (λ_ _ _ _=>(Z.fc hgoal_of (Z.cons (Z.v 0) Z.nil))))
   (Z.aq (Z.se (i:=6) ba.nd (Z.fc hleast_widths (Z.cons (Z.v 4) (Z.cons (Z.v 5) Z.nil))))
   (Z.aq (Z.se (i:=7) ba.nd (Z.fc hrow_starts (Z.cons (Z.v 4) (Z.cons (Z.v 6) Z.nil))))
   (Z.aq (Z.se (i:=8) ba.nd (Z.lst Z.nil))
   (Z.aq (Z.fh JZ rfl (Z.CO K rfl rfl T.gj (Z.cons (Z.v 3) Z.nil)) (Z.m8 (n:=2) K rfl rfl (Z.bw (Z.aH (i:=9) ba.nd rfl (by right)) (Z.bw (Z.aH (i:=10) ba.nd rfl (by right)) Z.gr))) (Z.aq (Z.expr (Z.app K (Z.v 8) (Z.cons (Z.v 10) Z.nil)))
   (Z.ax (Z.cZ (Z.aR eQ (Z.ix (Z.aA K rfl hu) (Z.v 5) (Z.v 9)) Z.aL) (Z.ax (Z.expr (Z.app K (Z.v 8) (Z.cons (Z.fc hjump_written (Z.cons (Z.ix (Z.aA K rfl hu) (Z.v 6) (Z.v 9)) (Z.cons (Z.fc hdistance_of (Z.cons (Z.v 7) (Z.cons (Z.v 5) (Z.cons (Z.v 9) Z.nil)))) Z.nil))) Z.nil)))) Z.b9))))
   (Z.ax (Z.ret (Z.tup (Z.cons (Z.bm K rfl PySem.F.plainAttrs_str PySem.F.slot_str_join PySem.F.type_str_join (Z.yr K rfl) Z.str (Z.cons (Z.v 8) Z.nil)) (Z.cons (Z.ct (Z.dJ K rfl) rfl T.cW (by decide +kernel) (Z.cons (Z.slice (Z.vX K rfl) (Z.v 7) Z.nY (Z.oY (Z.un bM Z.int))) Z.nil)) Z.nil))))))))))))),?_⟩
  refine au λN hN=>?_;nofun;refine⟨b,bk,rfl,hb,hB,λca H1 hca k1 cdl=>?_⟩;subst hN;generalize dD bk=cd at *;generalize o_ bk rs=ws at *;generalize p7 bk rs=sp at *;have hp1:=hp.kb k1;refine au λN hN=>?_;obtain⟨ps,hps,hpa⟩:=hp1;have hpl:=hpa.1;exists aF hps;refine cm (xs:=ps.map V.ref) (JC (show _<=64 by rw[Jt];lia) (by decide)) (λD i ys H'=>H1 D=none/\H' D=some (.lst ys)/\KB [] H1 H'/\ys=wR cd (rs.take i)/\i<=rs.length) (λD hD=>⟨hD,aa,KB.new hD,rfl,JJ _⟩) (λD i ys H' h=>⟨h.2.1,by rw[h.2.2.2.1,wR,Jt,JG];have:=h.2.2.2.2;lia⟩) (λD i ys H' h=>bq.of (h.2.2.1 _ _ hps (by simp))) ?_ ?_
  ·rintro D i ys H' x R hx ⟨g0,g1,gk,rfl,hi⟩ kk;obtain⟨u,eu,rfl⟩:∃u,ps[i]?=some u/\x=.ref u:=by
    rw[J6] at hx;obtain⟨u,e,rfl⟩:=JS.mp hx;exact⟨u,e,rfl⟩
   have hlt:i<rs.length:=by have:=(Ju.mp eu).1;lia
   have er:=Jr hlt;have et:rs.take (i+1)=rs.take i++[rs[i]]:=by rw[Kp,er];rfl
   nofun;refine⟨u,ca,rs[i],rs.length,cd,rfl,gk.n (hpa.2 i u _ eu er),h3 _ (JM hlt),cdl.kb gk,hC,λH5 k5=>?_⟩;exact kk _ _ (k5.n g1) ⟨g0,aa,λu o e _=>by rw[ak (af e g0)];exact k5.n (gk.n e),by rw[et];unfold wR;rw[JN];rfl,hlt⟩
  rintro pl ys H2 ⟨_,gp,k2,rfl,_⟩;rw[Jt,hpl,Kb] at gp;show N _ _;subst hN;have k02:=k1.trans k2;clear cdl hps hpa hpl k2 k1 hca;refine au λN hN=>?_;exists ar gp;refine dU (xs:=wR cd rs) (JC (show _<=64 by rw[wR,Jt];exact h2) (by decide)) (λD i ys H'=>H2 D=none/\H' D=some (.lst ys)/\KB [] H2 H'/\ys=iV (nZ (eV cd (rs.take i)))/\i<=rs.length) (λD hD=>⟨hD,aa,KB.new hD,rfl,JJ _⟩) (λD i ys H' h=>⟨h.2.1,by rw[h.2.2.2.1,fH,eV,Jt,JG];have:=h.2.2.2.2;lia⟩) (λD i ys H' h=>bg.of (h.2.2.1 _ _ gp (by simp))) ?_ ?_
  ·rintro D i ys H' x R hx ⟨g0,g1,gk,rfl,hi⟩ kk;have hlt:i<rs.length:=by have:=(Ju.mp hx).1;rw[wR,Jt] at this;exact this
   have er:=Jr hlt;have et:rs.take (i+1)=rs.take i++[rs[i]]:=by rw[Kp,er];rfl
   have ex:x=.str (wd (bj cd rs[i])):=by
    unfold wR at hx;rw[J6,er] at hx;exact (Option.some.inj hx).symm
   subst ex;have h136:=d3 hC (h3 _ (JM hlt));exists bu;exact⟨JC h136 (by decide),kk _ _ g1 ⟨g0,aa,λu o e _=>by rw[ak (af e g0)];exact gk.n e,by rw[et];unfold eV nZ iV;rw[JN,JN,JN];rfl,hlt⟩⟩
  rintro sa ys H3 ⟨_,gsz,k3,rfl,_⟩;rw[show (wR cd rs).length=rs.length from Jt ..,Kb] at gsz;show N _ _;subst hN;have k03:=k02.trans k3;have gp3:=k3.n gp;refine au λN hN=>?_;obtain⟨ps,hps,hpa⟩:=hp.kb k03;have hpl:=hpa.1;exists aF hps;refine cm (xs:=ps.map V.ref) (JC (show _<=64 by rw[Jt];lia) (by decide)) (λD i ys H'=>H3 D=none/\H' D=some (.lst ys)/\KB [] H3 H'/\ys=((rs.take i).map ay).map aJ/\i<=rs.length) (λD hD=>⟨hD,aa,KB.new hD,rfl,JJ _⟩) (λD i ys H' h=>⟨h.2.1,by rw[h.2.2.2.1,Jt,Jt,JG];have:=h.2.2.2.2;lia⟩) (λD i ys H' h=>bq.of (h.2.2.1 _ _ hps (by simp))) ?_ ?_
  ·rintro D i ys H' x R hx ⟨g0,g1,gk,rfl,hi⟩ kk;obtain⟨u,eu,rfl⟩:∃u,ps[i]?=some u/\x=.ref u:=by
    rw[J6] at hx;obtain⟨u,e,rfl⟩:=JS.mp hx;exact⟨u,e,rfl⟩
   have hlt:i<rs.length:=by have:=(Ju.mp eu).1;lia
   have er:=Jr hlt;have et:rs.take (i+1)=rs.take i++[rs[i]]:=by rw[Kp,er];rfl
   have hu':=gk.n (hpa.2 i u _ eu er);rw[zp] at hu';nofun;refine⟨u,_,rfl,hu',?_⟩;rw[rL];exact kk _ _ g1 ⟨g0,aa,λu o e _=>by rw[ak (af e g0)];exact gk.n e,by rw[et,JN,JN];rfl,hlt⟩
  rintro ga ys H4 ⟨_,gg,k4,rfl,_⟩;rw[Jt,hpl,Kb] at gg;show N _ _;subst hN;clear hps hpa hpl;have k04:=k03.trans k4;have gp4:=k4.n gp3;have gsz4:=k4.n gsz;have n_:(eV cd rs).length=rs.length:=Jt ..;have gl1:(rs.map ay).length=rs.length:=Jt ..;have sb:∀s∈eV cd rs,s<=150:=λs hs=>by
   obtain⟨r,hr',rfl⟩:=Kg.mp hs;have:=d3 hC (h3 r hr');lia
  have gb:∀t,some t∈rs.map ay->t<=(eV cd rs).length:=λt ht=>by
   obtain⟨r,hr',e⟩:=Kg.mp ht;rw[n_];exact dw (h3 r hr') e
  clear gp gp3 gsz k02 k03 k3 k4;refine au λN hN=>?_;nofun;refine⟨sa,ga,eV cd rs,rs.map ay,rfl,gsz4,gg,by rw[gl1,n_],by rw[n_];exact h2,sb,gb,λwa H5 k5 g5=>?_⟩
  rw[<- ew] at g5;subst hN;have wl:=L.len;have wt:=L.lt;refine au λN hN=>?_;nofun;refine⟨sa,wa,false,eV cd rs,rs.map ay,ws,rfl,k5.n gsz4,bq.of g5,λH' k=>bq.of (k.n g5),by rw[gl1,n_],by rw[wl,n_],by rw[n_];exact h2,wt,λpa H6 _ k6 g6=>?_⟩
  rw[<- es] at g6;subst hN;have spl:=L.sl;have k56:=k5.trans k6;have k06:=k04.trans k56;have gp6:=k56.n gp4;have gg6:=k56.n gg;have gw6:=k6.n g5;clear k56 gp4 gg g5 k5 k6 gsz4 k04 sb gb;refine au λN hN=>?_;nofun;refine⟨JJ _,λbl hbl=>?_⟩;obtain⟨k7,s7⟩:=cX hbl (.lst []);generalize upd H6 bl _=H7 at *;have hblH:H bl=none:=k06.free (by simp) hbl
  subst hN;refine au λN hN=>?_;nofun;have gp7:=k7.n gp6;refine⟨⟨_,bg.of gp7⟩,?_⟩;have keepB:∀{G:Hp} {o:HO},KB [] H6 G->KB [] H6 (upd G bl o):=λk u o' e z=>by rw[ak (af e hbl)];exact k u o' e z
  refine lR (xs:=wR cd rs) (λi σ H'=>∃(acc:List (List Nat)) (o9 o10:Option V),i<=rs.length/\KB [] H6 H'/\H' bl=some (.lst ((acc.map wd).map V.str))/\acc.flatten++ma cd sp i (rs.drop i) (ws.drop i)=ma cd sp 0 rs ws/\acc.length<=2*i/\acc.flatten.length<=200*i/\σ=[some (.ref a),some (.ref b),some (.ref ca),some (.ref pl),some (.ref sa),some (.ref ga),some (.ref wa),some (.ref pa),some (.ref bl),o9,o10]) ⟨[],none,none,JJ _,k7,s7,rfl,JJ _,JJ _,rfl⟩ (λi σ H' _ h=>by obtain⟨_,_,_,_,k,_⟩:=h;exact bg.of (k.n gp6)) ?_ ?_
  ·rintro i x σ H' p hx ⟨acc,o9,o10,hi,hk,gb,ex,hx1,hx2,rfl⟩ hp';have hlt:i<rs.length:=by have:=(Ju.mp hx).1;rw[wR,Jt] at this;exact this
   have er:=Jr hlt;have ewi:=Jr (show i<ws.length by lia)
   have lw:=wt _ (JM (show i<ws.length by lia))
   have okr:=h3 _ (JM hlt);rw[Ko hlt,Ko (show i<ws.length by lia),ma] at ex
   unfold wR at hx;rw[J6,er] at hx;generalize rs[i]'_=r at *;generalize ws[i]'_=w0 at *;cases hx;have h136:=d3 hC okr;have ag:bI ((rs.map ay).map aJ) (i:Int)=some (aJ (ay r)):=aU (by rw[J6,J6,er];rfl)
   unfold aT;refine⟨p,_,rfl,bq.of aa,rfl,_,_,rfl,_,_,rfl,rfl,?_⟩;have kz:=KB.new (ex:=[]) (o:=.tup [.int i,.str (wd (bj cd r))]) hp';generalize upd H' p (.tup [.int i,.str (wd (bj cd r))])=G1 at *;have hk1:=hk.trans kz;have gb1:=kz.n gb;dsimp only;refine au λM hM=>?_;nofun;refine⟨.inl ⟨rfl,_,bg.of gb1⟩,bl,_,_,rfl,rfl,gb1,Nat.lt_of_le_of_lt (show _<=1000 by rw[List.length_map,List.length_map];lia) (by decide),?_⟩
   have gb2:upd G1 bl (.lst ((acc.map wd).map V.str++[.str (wd (bj cd r))])) bl=some (.lst (((acc++[bj cd r]).map wd).map V.str)):=by rw[aa,JN,JN];rfl
   have hk2:=keepB (o:=.lst ((acc.map wd).map V.str++[.str (wd (bj cd r))])) hk1;generalize upd G1 bl (.lst ((acc.map wd).map V.str++[.str (wd (bj cd r))]))=G2 at *;subst hM;dsimp only;refine jS λM hM=>?_;refine gc λA B hA hB'=>?_;exists ar (hk2.n gg6),ag;have f1:(acc++[bj cd r]).flatten=acc.flatten++bj cd r:=by simp
   cases eg:ay r with
   |none =>
    rw[Jy (show ¬ ¬ aJ none=V.aL from λz=>z rfl),hB'];show M _ _;rw[hM];refine⟨acc++[bj cd r],_,_,hlt,hk2,gb2,?_,by rw[Jv];simp;lia,by rw[f1,Jv];lia,rfl⟩
    rw[<- ex,eg,f1];simp[p8]
   |some g =>
    rw[eg] at ag;rw[JA (show ¬ aJ (some g)=V.aL from λz=>nomatch z),hA];clear hA hB';have hg:g<=rs.length:=dw okr eg;have egs:(rs.map ay)[i]?=some (some g):=by rw[J6,er];exact Km some eg
    have aw:bI (i8 (rs.map ay) ws) (i:Int)=some (.int (w0:Nat)):=aU (oz egs ewi);exists aF (hk2.n gw6),aw;refine⟨.inl ⟨rfl,_,bg.of gb2⟩,pa,ga,sp,rs.map ay,i,g,rfl,hk2.n g6,hk2.n gg6,egs,by lia,by lia,w0,bZ sp g i,rfl,lw,?_⟩
    refine⟨bl,_,_,rfl,rfl,gb2,Kv (show _<=1000 by rw[Jt,Jt,Jv];simp;lia) (by decide),?_⟩
    rw[hM];have jl:=uh lw (bZ sp g i);have f2:(acc++[bj cd r]++[gi w0 (bZ sp g i)]).flatten=acc.flatten++bj cd r++gi w0 (bZ sp g i):=by simp
    have jl2:BD w0<=18:=by rcases mD lw with rfl|rfl|rfl<;>decide
    refine⟨acc++[bj cd r]++[gi w0 (bZ sp g i)],_,_,hlt,keepB hk2,by rw[aa];simp only[JN,Ke,Mc],?_,by rw[Jv,Jv];simp;lia,by rw[f2,Jv,Jv,jl];lia,rfl⟩
    rw[<- ex,eg,f2];simp[p8]
  ·rintro σ H' ⟨acc,o9,o10,hi,hk,gb,ex,hx1,hx2,rfl⟩;show N _ _;subst hN;rw[show (wR cd rs).length=rs.length from Jt ..] at *;rw[L5] at ex;have ex':acc.flatten=ma cd sp 0 rs ws:=by rw[<- ex];unfold ma;exact (Ks _).symm
   nofun;have e2:((acc.map wd).map λx=>x.length).sum=acc.flatten.length:=by
    rw[List.length_flatten,KI];rfl
   refine⟨rfl,_,bl,_,rfl,rfl,bg.of gb,?_,?_⟩
   ·rw[e2,show (Str.ofString "").length=0 from by decide +kernel];lia
   rw[oM,ex'];exists ar (hk.n g6);rw[uI];intro q1 hq1 l2 hl2;have k8:=KB.new (ex:=[]) (o:=.lst (iV (nZ sp)).dropLast) hq1;generalize upd H' q1 (.lst (iV (nZ sp)).dropLast)=G1 at *;obtain⟨k9,s9⟩:=cX hl2 (.tup (iV (nZ sp)).dropLast);generalize upd G1 l2 _=G2 at *;refine⟨by decide,λt ht=>?_⟩
   have k10:=KB.new (ex:=[]) (o:=.tup [.str (wd (ma cd sp 0 rs ws)),.ref l2]) ht;refine q t l2 _ (k06.trans (hk.trans (k8.trans (k9.trans k10)))) aa ?_;rw[k10.n s9];unfold iV;rw[List.map_dropLast]
def wL(f:Nat)(by':Int)(r:Row):Row:=match ay r with
 |none=>r
 |some t=>if t<f then r else setG r ((t:Int)+by').toNat
def FY(f:Nat)(r:Row):wL f 1 r=vZ f r:=by
 unfold wL vZ
 cases ay r with
 |none=>rfl
 |some t=>dsimp only;rw[show ((t:Int)+1).toNat=t+1 by lia]
def Hs(f:Nat)(r:Row):wL f (-1) r=BS f r:=by
 unfold wL BS
 cases ay r with
 |none=>rfl
 |some t=>dsimp only;rw[show ((t:Int)+-1).toNat=t-1 by lia]
def PA.drop{rs:List Row}(hp:PA H as rs)(k:Nat):PA H (as.drop k) (rs.drop k):=by
 refine⟨by rw[Ka,Ka,hp.1],λi q r e1 e2=>?_⟩
 rw[K4] at e1 e2;exact hp.2 (k+i) q r e1 e2
def sQ{rs:List Row}(h:jg H a rs)(q:∀u G,KB [] H G->jg G u (rs.drop k)->Q (.ref u) G):Y.Cb K (.ref a) (some (k:Int)) none H Q:=by
 obtain⟨as,ha,hp⟩:=h;refine t6 ha (λe=>q a H (KB.refl _ _) ⟨as.drop k,?_,hp.drop k⟩) (λp hp'=>q p _ (KB.new hp') ⟨as.drop k,?_,(hp.drop k).keep (KB.new hp') (NT.nil _)⟩)
 ·rw[ql] at e;rw[ha,MH,e]
 ·rw[aa,ql,MH]
def PA.app{bs:List Addr}{rs ts:List Row}(h1:PA H as rs)(h2:PA H bs ts):PA H (as++bs) (rs++ts):=by
 have l1:=h1.1;refine⟨by rw[Jv,Jv,h1.1,h2.1],λi q r e1 e2=>?_⟩
 rcases Ku i as.length with hi|hi
 ·rw[JX hi] at e1;rw[JX (by lia)] at e2
  exact h1.2 i q r e1 e2
 ·rw[JP hi] at e1;rw[JP (by lia),<- l1] at e2
  exact h2.2 _ q r e1 e2
def B9(ha:H a=some (.tup xs))(hb:H b=some (.tup ys))(hl:xs.length+ys.length<=1000)(q:∀u G,KB [] H G->G u=some (.tup (xs++ys))->Q (.ref u) G):Y.zE K (.ref a) (.ref b) H Q:=
 .inr (.inr (.inr ⟨a,b,xs,ys,rfl,rfl,bq.of ha,bq.of hb,JC hl (by decide),λe=>q b H (KB.refl _ _) (by rw[hb,e];rfl),λ_ e=>q a H (KB.refl _ _) (by rw[ha,e,Ks]),λ_ _ p hp=>q p _ (KB.new hp) aa⟩))
def rK{rs ts:List Row}(h1:jg H a rs)(h2:jg H b ts)(hl:rs.length+ts.length<=1000)(q:∀u G,KB [] H G->jg G u (rs++ts)->Q (.ref u) G):Y.zE K (.ref a) (.ref b) H Q:=by
 obtain⟨as,ha,hp⟩:=h1;obtain⟨bs,hb,hp'⟩:=h2;refine B9 ha hb (by rw[Jt,Jt,hp.1,hp'.1];exact hl) λu G k e=>q u G k ⟨as++bs,by rw[e,JN],(hp.app hp').keep k (NT.nil _)⟩
def uq:Sp:=λvs H Q _=>∃(a:Addr) (r:Row) (f:Nat) (by':Int),vs=[.ref a,.int (f:Nat),.int by']/\H a=some (.tup r.vs)/\(∀t,ay r=some t->f<=t->0<=(t:Int)+by')/\∀p H',KB [] H H'->H' p=some (.tup (wL f by' r).vs)->Q (.ref p) H'
def Dt{r:Row}(h:ay r=some t):∃xs:List V,xs≠[]/\xs.length<=2/\r.vs=xs++[.int (t:Nat)]/\∀g:Nat,(setG r g).vs=xs++[.int (g:Nat)]:=by
 cases r with
 |jump _=>cases h;exact⟨[.str "jump"],by simp,by simp,rfl,λ_=>rfl⟩
 |zero b _=>cases h;exact⟨[.str "zero",.str (eF b)],by simp,by simp,rfl,λ_=>rfl⟩
 |put=>cases h
 |two=>cases h
 |one=>cases h
 |halt=>cases h
def wu(T:Txt K mg)(F:HasFn K mg "goal_moved" fO ["row","first","by"])(hgoal_of:ao P w K mg base aN 1 "goal_of" ["row"] iH)(hwith_goal:ao P w K mg base aN 1 "with_goal" ["row","goal"] zL):ao P w K mg base aN 2 "goal_moved" ["row","first","by"] uq:=by
 refine F.eZ g_ (λvs H Q E h=>?_) (λf cdv A outer s H vs Q E hr h=>?_)
 ·obtain⟨a,r,f,by',rfl,_⟩:=h;rfl
 ·have hu:=aI hr;obtain⟨a,r,fi,by',rfl,ha,hg,q⟩:=h
  refine⟨_,(Z.aq (Z.se (i:=3) g_.nd (Z.fc hgoal_of (Z.cons (Z.v 0) Z.nil)))
   (Z.ax (Z.ret (Z.FH (Z.tw (Z.Bp (Z.aR fE (Z.v 3) Z.aL) (Z.nE (Z.aR fW (Z.v 3) (Z.v 1))))) (Z.v 0) (Z.fc hwith_goal (Z.cons (Z.v 0) (Z.cons (Z.op (Z.aE K rfl) (Z.v 3) (Z.v 2)) Z.nil))))))),?_⟩
  refine au λN hN=>?_;nofun;have ha':=ha;rw[zp] at ha';refine⟨a,_,rfl,ha',?_⟩;rw[hN,rL];clear hN N
  cases c:ay r with
  |none =>
   nofun;exact q _ _ (KB.refl _ _) (by rw[ha];unfold wL;rw[c])
  |some t =>
   rw[show aJ (some t)=V.int (t:Nat) from rfl];have nn:¬ V.int (t:Nat)=V.aL:=V.noConfusion;by_cases h:(t:Int)<(fi:Int)
   ·exists if_neg nn,if_pos h;exact q _ _ (KB.refl _ _) (by rw[ha];unfold wL;rw[c];dsimp only;rw[if_pos (by lia)])
   ·exists Jy nn,Jy h;obtain⟨xs,x1,x2,x3,x4⟩:=Dt c;rw[x3] at ha;refine⟨a,xs,_,_,rfl,ha,x1,x2,λp H' k e=>q p H' k ?_⟩;have h0:=hg t c (by lia)
    rw[e];unfold wL;rw[c];dsimp only;rw[if_neg (by lia),x4,Int.toNat_of_nonneg h0]
def iC:Sp:=λvs H Q _=>∃(a:Addr) (rs:List Row) (f:Nat) (by':Int),vs=[.ref a,.int (f:Nat),.int by']/\jg H a rs/\rs.length<=64/\(∀t:Nat,f<=t->0<=(t:Int)+by')/\∀p H',KB [] H H'->jg H' p (rs.map (wL f by'))->Q (.ref p) H'
def xm(T:Txt K mg)(F:HasFn K mg "goals_moved" dm ["rows","first","by"])(hgoal_moved:ao P w K mg base aN 2 "goal_moved" ["row","first","by"] uq):ao P w K mg base aN 3 "goals_moved" ["rows","first","by"] iC:=by
 refine F.eZ lh (λvs H Q E h=>?_) (λf cdv A outer s H vs Q E hr h=>?_)
 ·obtain⟨a,rs,f,by',rfl,_⟩:=h;rfl
 ·have hu:=aI hr;obtain⟨a,rs,fi,by',rfl,⟨as,ha,hp⟩,hl,hg,q⟩:=h
  have hpl:=hp.1;refine⟨_,(Z.ax (Z.ret (Z.ct (Z.dJ K rfl) rfl T.cW (by decide +kernel) (Z.cons (Z.vy (osc:=ae dm) (ON:=["rows","first","by"]) (own:=["row"]) (N:=["row","rows","first","by"]) (az.of rfl (by decide +kernel)) (Z.any K rfl (Z.v 0)) (λnd _ _ _ _=>(Z.aH (i:=0) nd rfl (by right))) (λ_ _ _ _=>Z.pe) (λ_ _ _ _=>(Z.fc hgoal_moved (Z.cons (Z.v 0) (Z.cons (Z.v 2) (Z.cons (Z.v 3) Z.nil)))))) Z.nil)))),?_⟩
  exists aF ha;refine cm (xs:=as.map V.ref) (JC (show _<=64 by rw[Jt];lia) (by decide)) (λD i ys G=>H D=none/\G D=some (.lst ys)/\KB [] H G/\i<=rs.length/\∃ps:List Addr,ys=ps.map V.ref/\PA G ps ((rs.take i).map (wL fi by'))) (λD hD=>⟨hD,aa,KB.new hD,JJ _,[],rfl,rfl,λj p r e=>nomatch e⟩) (λD i ys G h=>⟨h.2.1,by obtain⟨_,_,_,hi,ps,rfl,e,_⟩:=h;rw[Jt,e,Jt,JG];lia⟩) (λD i ys G h=>bq.of (h.2.2.1 _ _ ha (by simp))) ?_ ?_
  ·rintro D i ys G x R hx ⟨g0,g1,gk,hi,ps,rfl,pa⟩ kk;obtain⟨u,eu,rfl⟩:∃u,as[i]?=some u/\x=.ref u:=by
    rw[J6] at hx;obtain⟨u,e,rfl⟩:=JS.mp hx;exact⟨u,e,rfl⟩
   have hlt:i<rs.length:=by have:=(Ju.mp eu).1;lia
   have er:=Jr hlt;nofun;refine⟨u,rs[i],fi,by',rfl,gk.n (hp.2 i u _ eu er),λt _ h=>hg t h,λc G2 kc hc=>?_⟩
   have g2:=kc.n g1;refine kk _ _ g2 ⟨g0,aa,λu o e _=>by rw[ak (af e g0)];exact kc.n (gk.n e),hlt,ps++[c],by rw[JN];rfl,?_⟩
   rw[show rs.take (i+1)=rs.take i++[rs[i]] by rw[Kp,er];rfl,JN]
   exact ((pa.keep kc (NT.nil _)).snoc hc).keep (KB.set (ex:=[D]) (by simp)) (nN g2)
  ·rintro D ys G ⟨g0,g1,gk,_,ps,rfl,pa⟩;rw[Jt,hpl,Kb] at pa;exists ar g1;intro t ht;have kt:=KB.new (ex:=[]) (o:=.tup (ps.map V.ref)) ht;exact q t _ (gk.trans kt) ⟨ps,aa,pa.keep kt (NT.nil _)⟩
structure iM (C:Addr) (H:Hp) (x dx b:Addr) (bk:List (List Int)) (rs:List Row):Prop where
 bk:vC H b bk
 od:H dx=some (.own x)
 ex:∃ra,H x=some (.ins C dx [("book",.ref b),("rows",.ref ra)])/\jg H ra rs
def iM.keep{bk:List (List Int)}{rs:List Row}(h:iM C H x dx b bk rs)(k:KB ex H H')(hx:NT ex H)(n1:x∉ex)(n2:dx∉ex):iM C H' x dx b bk rs:=by
 obtain⟨h1,h2,ra,h3,h4⟩:=h;exact⟨h1.keep k hx,k _ _ h2 n2,ra,k _ _ h3 n1,h4.keep k hx⟩
def iM.kb{bk:List (List Int)}{rs:List Row}(h:iM C H x dx b bk rs)(k:KB [] H H'):iM C H' x dx b bk rs:=h.keep k (NT.nil _) (by simp) (by simp)
def lU{fs:List (Str×V)}(h:H x=some (.ins C dx fs)):NT [x] H:=λb hb xs e=>by
 rw[JH.mp hb,h] at e;cases e
def sT(b r:V):([("book",b),("rows",r)]:List (Str×V)).lookup ("book":Str)=some b:=rfl
def cy(b r:V):([("book",b),("rows",r)]:List (Str×V)).lookup ("rows":Str)=some r:=rfl
def AW(C:Addr):Sp:=λvs H Q _=>∃(x dx b:Addr) (bk:List (List Int)),vs=[.ref x,.ref b]/\H x=some (.ins C dx [])/\H dx=some (.own x)/\vC H b bk/\∀H',iM C H' x dx b bk []->KB [x] H H'->Q .aL H'
def xD(T:Txt K mg)(cM:j8 K C)(na_book:bQ K C "book")(na_rows:bQ K C "rows")(F:lZ K "__init__" "Kept.__init__" aM f fd):bY P w K mg base aN 1 f fd ["self","book"] (AW C):=by
 refine F.ok iS (λvs H Q E h=>?_) (λcdv A outer s H vs Q E hr h=>?_)
 ·obtain⟨x,dx,b,bk,rfl,_⟩:=h;rfl
 ·obtain⟨x,dx,b,bk,rfl,ox,od,hb,q⟩:=h;have hu:=aI hr;have key:∃t,QB (fY aN P w K mg base ["self","book"] "Kept.__init__" (ae aM) f cdv A outer s H E).vK (aV aM) t/\t {nx:=λ_ H'=>Q .aL H',rt:=Q} (start ["self","book"] [.ref x,.ref b]) H:=by
   refine⟨_,(Z.aq (Z.vV K rfl (Z.v 0) (Z.v 1))
   (Z.ax (Z.vV K rfl (Z.v 0) (Z.tup Z.nil)))),?_⟩
   have ndx:dx≠x:=by rintro rfl;rw[ox] at od;cases od
   refine au λN hN=>?_;nofun;refine⟨x,C,dx,_,rfl,ox,cM,na_book,by decide,?_⟩
   subst hN;have k1:KB [x] H (upd H x (.ins C dx (dO "book" (.ref b) []))):=KB.set (by simp)
   have s1:upd H x (.ins C dx (dO "book" (.ref b) [])) x=some (.ins C dx [("book",.ref b)]):=aa;have hb1:=hb.keep k1 (lU ox);have od1:=k1 _ _ od (by simpa using ndx)
   generalize upd H x (.ins C dx (dO "book" (.ref b) []))=H1 at *;nofun;refine⟨JJ _,λe he=>?_⟩;obtain⟨k2,s2⟩:=cX he (.tup []);have s12:=k2.n s1;have hb2:=hb1.kb k2;have od2:=k2.n od1;generalize upd H1 e _=H2 at *;refine⟨x,C,dx,_,rfl,s12,cM,na_rows,(show 1<1000 by decide),?_⟩
   have k3:KB [x] H2 (upd H2 x (.ins C dx (dO "rows" (.ref e) [("book",.ref b)]))):=KB.set (by simp)
   have nt:=lU s12;refine q _ ⟨hb2.keep k3 nt,k3 _ _ od2 (by simpa using ndx),e,aa,⟨[],k3 _ _ s2 λz=>nt _ z _ s2,rfl,λi q r e=>nomatch e⟩⟩ (k1.trans (k2.all.trans k3))
  obtain⟨t,hb,ht⟩:=key;exact⟨t,hb.h,ht⟩
def sV(C:Addr):Sp:=λvs H Q _=>∃(x dx b:Addr) (bk:List (List Int)) (rs:List Row),vs=[.ref x]/\iM C H x dx b bk rs/\∀ra,jg H ra rs->Q (.ref ra) H
def y0(T:Txt K mg)(cM:j8 K C)(na_rows:bQ K C "rows")(F:lZ K "program" "Kept.program" aS f fd):bY P w K mg base aN 1 f fd ["self"] (sV C):=by
 refine F.ok jC (λvs H Q E h=>?_) (λcdv A outer s H vs Q E hr h=>?_)
 ·obtain⟨x,dx,b,bk,rs,rfl,_⟩:=h;rfl
 ·obtain⟨x,dx,b,bk,rs,rfl,⟨_,_,ra,ox,hp⟩,q⟩:=h;have hu:=aI hr;have key:∃t,QB (fY aN P w K mg base ["self"] "Kept.program" (ae aS) f cdv A outer s H E).vK (aV aS) t/\t {nx:=λ_ H'=>Q .aL H',rt:=Q} (start ["self"] [.ref x]) H:=by
   refine⟨_,(Z.ax (Z.ret (Z.fld K rfl (Z.v 0)))),?_⟩;nofun;exact⟨x,C,dx,_,_,rfl,ox,cM,na_rows,cy _ _,q ra hp⟩
  obtain⟨t,hb,ht⟩:=key;exact⟨t,hb.h,ht⟩
def tQ(C:Addr):Sp:=λvs H Q _=>∃(x dx b:Addr) (bk:List (List Int)) (rs:List Row),vs=[.ref x]/\iM C H x dx b bk rs/\Bk bk/\rs.length<=64/\(∀r∈rs,r.Ok rs.length)/\∀H',KB [] H H'->Q (.str (wd (fL bk rs))) H'
def zc(T:Txt K mg)(cM:j8 K C)(na_book:bQ K C "book")(na_rows:bQ K C "rows")(hpack_rows:ao P w K mg base aN 7 "pack_rows" ["program","book"] jR)(F:lZ K "bits" "Kept.bits" b8 f fd):bY P w K mg base aN 8 f fd ["self"] (tQ C):=by
 refine F.ok nK (λvs H Q E h=>?_) (λcdv A outer s H vs Q E hr h=>?_)
 ·obtain⟨x,dx,b,bk,rs,rfl,_⟩:=h;rfl
 ·obtain⟨x,dx,b,bk,rs,rfl,⟨hb,_,ra,ox,hp⟩,hB,hl,aP,q⟩:=h;have hu:=aI hr;have key:∃t,QB (fY aN P w K mg base ["self"] "Kept.bits" (ae b8) f cdv A outer s H E).vK (aV b8) t/\t {nx:=λ_ H'=>Q .aL H',rt:=Q} (start ["self"] [.ref x]) H:=by
   refine⟨_,(Z.ax (Z.ret (Z.ix (Z.aA K rfl hu) (Z.fc hpack_rows (Z.cons (Z.fld K rfl (Z.v 0)) (Z.cons (Z.fld K rfl (Z.v 0)) Z.nil))) Z.int))),?_⟩;nofun;refine⟨x,C,dx,_,_,rfl,ox,cM,na_rows,cy _ _,x,C,dx,_,_,rfl,ox,cM,na_book,sT _ _,ra,b,bk,rs,rfl,hp,hb,hB,hl,aP,λt u H' k e1 _=>?_⟩;exists aF e1;exact q H' k
  obtain⟨t,hb,ht⟩:=key;exact⟨t,hb.h,ht⟩
def n6(C:Addr):Sp:=λvs H Q _=>∃(x dx b:Addr) (bk:List (List Int)) (rs:List Row),vs=[.ref x]/\iM C H x dx b bk rs/\Bk bk/\rs.length<=64/\(∀r∈rs,r.Ok rs.length)/\∀u H',KB [] H H'->H' u=some (.tup (iV (nZ (p7 bk rs)).dropLast))->Q (.ref u) H'
def rB(T:Txt K mg)(cM:j8 K C)(na_book:bQ K C "book")(na_rows:bQ K C "rows")(hpack_rows:ao P w K mg base aN 7 "pack_rows" ["program","book"] jR)(F:lZ K "places" "Kept.places" aY f fd):bY P w K mg base aN 8 f fd ["self"] (n6 C):=by
 refine F.ok lL (λvs H Q E h=>?_) (λcdv A outer s H vs Q E hr h=>?_)
 ·obtain⟨x,dx,b,bk,rs,rfl,_⟩:=h;rfl
 ·obtain⟨x,dx,b,bk,rs,rfl,⟨hb,_,ra,ox,hp⟩,hB,hl,aP,q⟩:=h;have hu:=aI hr;have key:∃t,QB (fY aN P w K mg base ["self"] "Kept.places" (ae aY) f cdv A outer s H E).vK (aV aY) t/\t {nx:=λ_ H'=>Q .aL H',rt:=Q} (start ["self"] [.ref x]) H:=by
   refine⟨_,(Z.ax (Z.ret (Z.ix (Z.aA K rfl hu) (Z.fc hpack_rows (Z.cons (Z.fld K rfl (Z.v 0)) (Z.cons (Z.fld K rfl (Z.v 0)) Z.nil))) Z.int))),?_⟩;nofun;refine⟨x,C,dx,_,_,rfl,ox,cM,na_rows,cy _ _,x,C,dx,_,_,rfl,ox,cM,na_book,sT _ _,ra,b,bk,rs,rfl,hp,hb,hB,hl,aP,λt u H' k e1 e2=>?_⟩;exists aF e1;exact q u H' k e2
  obtain⟨t,hb,ht⟩:=key;exact⟨t,hb.h,ht⟩
def ve:Row->List V
 |.jump _=>[.str "jump"]
 |.zero b _=>[.str "zero",.str (eF b)]
 |r=>r.vs
def dQ(th:List Int)(r:Row):Int:=match ay r with
 |none=>0
 |some t=>th.getD t 0
def uy{r:Row}(h:ay r=none):r.vs=ve r:=by cases r<;>first|rfl|cases h
def uN{r:Row}(h:ay r=some t):r.vs=ve r++[.int (t:Nat)]/\ve r≠[]/\(ve r).length<=2:=by cases r<;>first | (cases h;exact⟨rfl,List.cons_ne_nil _ _,by simp[ve]⟩)|cases h
def yS{r:Row}(g:Nat)(h:ay r=some t):ve (setG r g)=ve r:=by cases r<;>first|rfl|cases h
def getD_mem{th:List Int}{n:Nat}(h:n<th.length):th.getD n 0=th[n]:=by rw[Jz,Jr h];rfl
def rH{l:List α}{x:α}{p:Nat}(hp:p<=l.length)(h:j<p):(l.take p++[x]++l.drop p)[j]?=l[j]?:=by
 rw[JQ,JX (by rw[JG];lia),LM h]
def oE{l:List α}{x:α}{p:Nat}(hp:p<=l.length):(l.take p++[x]++l.drop p)[p]?=some x:=by
 have t1:(l.take p).length=p:=by rw[JG];lia
 rw[JQ,JP (by lia),t1,KG];rfl
def sm{l:List α}{x:α}{p:Nat}(hp:p<=l.length)(h:p<=j):(l.take p++[x]++l.drop p)[j+1]?=l[j]?:=by
 have t1:(l.take p).length=p:=by rw[JG];lia
 rw[JQ,JP (by lia),t1,show j+1-p=(j-p)+1 by lia,MN,M7,K4,show p+(j-p)=j by lia]
def uM{l:List α}{x:α}{p:Nat}(hp:p<=l.length){a:α}(h:(l.take p++[x]++l.drop p)[j]?=some a):(j=p/\a=x)\/∃m:Nat,l[m]?=some a/\∀{β:Type} (l2:List β) (y:β),p<=l2.length->(l2.take p++[y]++l2.drop p)[j]?=l2[m]?:=by
 rcases Ny j p with c|c|c
 ·rw[rH hp c] at h;exact .inr ⟨j,h,λl2 y hl=>rH hl c⟩
 ·subst c;rw[oE hp] at h;exact .inl ⟨rfl,(Option.some.inj h).symm⟩
 ·obtain⟨m,rfl⟩:∃m,j=m+1:=⟨j-1,by lia⟩
  rw[sm hp (by lia)] at h
  exact .inr ⟨m,h,λl2 y hl=>sm hl (by lia)⟩
def f6{l:List α}{x:α}{p:Nat}(hp:p<=l.length):(l.take p++[x]++l.drop p).length=l.length+1:=by
 rw[Jv,Jv,JG,Ka];simp;lia
def AZ{l:List α}{x y:α}{p:Nat}(hp:p<=l.length):(l.take p++[x]++l.drop p).set p y=l.take p++[y]++l.drop p:=by
 have t1:(l.take p).length=p:=by rw[JG];lia
 rw[JQ,Mg _ _ (by lia),t1,KG,JQ];rfl
def Eo{th:List Int}{r:Row}{p:Nat}(c:Int)(hp:p<=th.length)(hg:∀t,ay r=some t->t<th.length):dQ (th.take p++[c]++th.drop p) (vZ p r)=dQ th r/\ve (vZ p r)=ve r:=by
 unfold vZ
 cases e:ay r with
 |none=>unfold dQ;dsimp only;rw[e];exact⟨rfl,rfl⟩
 |some t =>
  have ht:=hg t e;dsimp only;by_cases k:t<p
  ·rw[if_pos k];unfold dQ;rw[e];dsimp only;rw[List.getD_eq_getElem?_getD,rH hp k,<- List.getD_eq_getElem?_getD];exact⟨rfl,rfl⟩
  ·rw[if_neg k];unfold dQ;rw[qL _ e,e];dsimp only;rw[List.getD_eq_getElem?_getD,sm hp (by lia),<- List.getD_eq_getElem?_getD]
   exact⟨rfl,yS _ e⟩
def AY{th:List Int}{r:Row}{p:Nat}{c:Int}(nd:th.Nodup)(h0:(0:Int)∉th)(hc:th[p]?=some c)(hd:th[p+1]?=some d)(hg:∀t,ay r=some t->t<th.length):dQ (th.eraseIdx p) (BS (p+1) r)=(if dQ th r=c then d else dQ th r)/\ve (BS (p+1) r)=ve r:=by
 have hp:p+1<th.length:=(Ju.mp hd).1;have ec:th[p]=c:=(Ju.mp hc).2;unfold BS
 cases e:ay r with
 |none =>
  dsimp only;have z:∀th,dQ th r=0:=λth=>by unfold dQ;rw[e]
  rw[z,z,Jy (λz=>h0 (by rw[z,<- ec];exact JM _))]
  exact⟨rfl,rfl⟩
 |some n =>
  have hn:=hg n e;have eg:dQ th r=th[n]:=by unfold dQ;rw[e];exact getD_mem hn
  dsimp only;rw[eg];have un:n≠p->th[n]≠c:=λh z=>h (by rw[<- nd.idxOf_getElem n hn,z,<- ec,nd.idxOf_getElem])
  by_cases k:n<p+1
  ·rw[if_pos k];refine⟨?_,rfl⟩;unfold dQ;rw[e];dsimp only;rw[List.getD_eq_getElem?_getD,List.getElem?_eraseIdx];by_cases k2:n=p
   ·subst k2;rw[Jy (La _),hd,JA ec];rfl
   ·rw[JA (by lia),Jr hn,Jy (un k2)];rfl
  ·rw[Jy k,Jy (un (by lia))]
   refine⟨?_,yS _ e⟩;unfold dQ;rw[qL _ e];dsimp only;rw[List.getD_eq_getElem?_getD,List.getElem?_eraseIdx,if_neg (by lia),show n-1+1=n by lia,List.getElem?_eq_getElem hn];rfl
structure Md (ids:List Int) (rs:List Row):Prop where
 len:ids.length=rs.length
 nd:(ids++[-1]).Nodup
 HU:(0:Int)∉ids++[-1]
 ok:∀r∈rs,r.Ok rs.length
def Md.H_{rs:List Row}(h:Md ids rs){r:Row}(hr:r∈rs)(e:ay r=some t):t<(ids++[-1]).length:=by
 rw[Jv,h.len];exact Nat.lt_succ_of_le (dw (h.ok r hr) e)
def Md.put{rs:List Row}{p:Nat}{c:Int}{r:Row}(h:Md ids rs)(hp:p<=rs.length)(hc:c∉ids)(c0:0<c)(hr:r.Ok (rs.length+1)):Md (ids.take p++[c]++ids.drop p) (ki p r rs):=by
 have hl:=h.len;have pm:(ids.take p++[c]++ids.drop p++[-1]).Perm (c::(ids++[-1])):=by
  have:(ids.take p++[c]++ids.drop p).Perm (c::ids):=by
   rw[JQ];refine Ml.trans ?_;exact List.Perm.of_eq (Km (c::·) (KH p ids))
  exact this.append_right [-1]
 have nc:c∉ids++[-1]:=λz=>by
  rcases Ki.mp z with z|z
  ·exact hc z
  ·have:=JH.mp z;lia
 refine⟨by rw[f6 (by lia),jK hp,hl],pm.nodup_iff.mpr (Ky.mpr ⟨nc,h.nd⟩),λz=>?_,E1 hp hr h.ok⟩
 rcases Jw.mp (pm.mem_iff.mp z) with z|z
 ·lia
 ·exact h.HU z
def Md.take{rs:List Row}{p:Nat}(h:Md ids rs)(hp:p<rs.length):Md (ids.eraseIdx p) (oU p rs):=by
 have hl:=h.len;have sl:(ids.eraseIdx p++[-1]).Sublist (ids++[-1]):=(Li ..).append (List.Sublist.refl _);exact⟨by rw[Lh (by lia),jN hp,hl],h.nd.sublist sl,λz=>h.HU (sl.subset z),Es hp h.ok⟩
def idx_int{g:Int}{l:List Int}(h:g∈l):l[l.idxOf g]?=some g/\∀m,m<l.idxOf g->l[m]?≠some g:=by
 induction l with
 |nil=>cases h
 |cons a l ih =>
  by_cases c:a=g
  ·subst c;rw[List.idxOf_cons_self];exact⟨rfl,λm hm=>absurd hm (Ln _)⟩
  ·rw[List.idxOf_cons,show (a == g)=false from Kz.mpr c,cond_false];have:=ih ((Jw.mp h).resolve_left λe=>c e.symm);refine⟨this.1,λm hm=>?_⟩
   cases m with
   |zero=>exactλe=>c (Option.some.inj e)
   |succ m=>exact this.2 m (MB hm)
def t5(H:Hp)(a:Addr)(i g:Int)(r:Row):Prop:=∃u,H a=some (.lst [.int i,.ref u,.int g])/\H u=some (.tup (ve r))
structure lY (H:Hp) (mo:Addr) (pl:List Addr) (ids:List Int) (rs:List Row):Prop where
 at':H mo=some (.lst (pl.map V.ref))
 len:pl.length=rs.length
 nd:(mo::pl).Nodup
 it:∀(j:Nat) (a:Addr) (i:Int) (r:Row),pl[j]?=some a->ids[j]?=some i->rs[j]?=some r->t5 H a i (dQ (ids++[-1]) r) r
def t5.keep{i g:Int}{r:Row}(h:t5 H a i g r)(k:KB ex H H')(hx:NT ex H)(n:a∉ex):t5 H' a i g r:=by
 obtain⟨u,h1,h2⟩:=h;exact⟨u,k _ _ h1 n,k _ _ h2 λz=>hx u z _ h2⟩
def lY.keep{rs:List Row}(h:lY H mo pl ids rs)(k:KB ex H H')(hx:NT ex H)(n:∀a∈mo::pl,a∉ex):lY H' mo pl ids rs:=⟨k _ _ h.at' (n mo J7),h.len,h.nd,λj a i r e1 e2 e3=>(h.it j a i r e1 e2 e3).keep k hx (n a (Jx _ (JY e1)))⟩
def lY.kb{rs:List Row}(h:lY H mo pl ids rs)(k:KB [] H H'):lY H' mo pl ids rs:=h.keep k (NT.nil _) λ_ _ z=>nomatch z
def lY.lst{rs:List Row}(h:lY H mo pl ids rs)(m:Md ids rs):∀a∈mo::pl,∃xs,H a=some (.lst xs):=λa ha=>by
 rcases Jw.mp ha with rfl|ha
 ·exact⟨_,h.at'⟩
 ·obtain⟨n,e⟩:=List.getElem?_of_mem ha;have hn:=(Ju.mp e).1;have hl:=h.len;have hm:=m.len;obtain⟨u,h1,_⟩:=h.it n a _ _ e (Jr (show n<ids.length by lia)) (Jr (show n<rs.length by lia))
  exact⟨_,h1⟩
theorem lE(hm:H mo=some (.lst (pl.map V.ref)))(hl:pl.length<=1000)(hi:∀(j:Nat) (a:Addr),pl[j]?=some a->∃(i:Int) (rest:List V),ids[j]?=some i/\H a=some (.lst (.int i::rest)))(hn:ids.length=pl.length)(q:∀D,H D=none->Q (.ref D) (upd H D (.lst (iV ids)))):kj (xW K mo) 1 (aT 0) gw (wQ (Ax K) (sP 0) (tC (V.int 0))) Q σ H:=by
 refine dU (xs:=pl.map V.ref) (JC (show _<=1000 by rw[Jt];exact hl) (by decide)) (λD i ys H'=>H D=none/\H'=upd H D (.lst ys)/\ys=iV (ids.take i)/\i<=ids.length) (λD hD=>⟨hD,rfl,rfl,JJ _⟩) ?_ ?_ ?_ ?_
 ·rintro D i ys H' ⟨h1,rfl,rfl,h2⟩;exact⟨aa,by rw[bL,JG];lia⟩
 ·rintro D i ys H' ⟨h1,rfl,rfl,h2⟩;exact bg.of (by rw[ak (λz=>by rw[z,h1] at hm;cases hm)];exact hm)
 ·rintro D i ys H' x R ex ⟨h1,rfl,rfl,h2⟩ kk;rw[J6] at ex
  cases ea:pl[i]? with
  |none=>rw[ea] at ex;cases ex
  |some a =>
  rw[ea] at ex;cases ex;obtain⟨i0,rest,e1,e2⟩:=hi i a ea;have e3:upd H D (.lst (iV (ids.take i))) a=some (.lst (.int i0::rest)):=by rw[ak (λz=>by rw[z,h1] at e2;cases e2)];exact e2
  exists ar e3,rf;have e4:iV (ids.take i)++[V.int i0]=iV (ids.take (i+1)):=by rw[Nv,e1,fM];rfl
  refine kk _ _ aa ⟨h1,oK,e4,(Ju.mp e1).1⟩
 ·rintro D ys H' ⟨h1,rfl,rfl,h2⟩;rw[Jt,<- hn,Kb];exact q D h1
def yX:Sp:=λvs H Q _=>∃(mo:Addr) (pl:List Addr) (ids:List Int) (rs:List Row),vs=[.ref mo]/\lY H mo pl ids rs/\Md ids rs/\rs.length<=60/\∀t H',KB [] H H'->jg H' t rs->Q (.ref t) H'
def DO(T:Txt K mg)(F:HasFn K mg "_law_due" fD ["model"]):ao P w K mg base aN 1 "_law_due" ["model"] yX:=by
 refine F.eZ b_ (λvs H Q E h=>?_) (λf cdv A outer s H vs Q E hr h=>?_)
 ·obtain⟨mo,pl,ids,rs,rfl,_⟩:=h;rfl
 ·have hu:=aI hr;obtain⟨mo,pl,ids,rs,rfl,hm,m,hl,q⟩:=h;refine⟨_,(Z.aq (Z.se (i:=1) b_.nd (Z.op (Z.aE K rfl) (Z.vy (osc:=ae fD) (ON:=["model","there","found","own","row","goal"]) (own:=["one"]) (N:=["one","model","there","found","own","row","goal"]) (az.of rfl (by decide +kernel)) (Z.any K rfl (Z.v 0)) (λnd _ _ _ _=>(Z.aH (i:=0) nd rfl (by right))) (λ_ _ _ _=>Z.pe) (λ_ _ _ _=>(Z.ix (Z.aA K rfl hu) (Z.v 0) Z.int))) (Z.lst (Z.cons (Z.un bM Z.int) Z.nil))))
   (Z.aq (Z.se (i:=2) b_.nd (Z.lst Z.nil))
   (Z.aq (Z.fh JZ rfl (Z.any K rfl (Z.v 0)) ⟨Y.AO (n:=3) rfl (Z.bw (Z.aH (i:=3) b_.nd rfl (by right)) (Z.bw (Z.aH (i:=4) b_.nd rfl (by right)) (Z.bw (Z.aH (i:=5) b_.nd rfl (by right)) Z.gr))).h⟩ (Z.aq (Z.cZ (Z.aR wY (Z.v 5) Z.int) (Z.ax (Z.se (i:=4) b_.nd (Z.op (Z.aE K rfl) (Z.v 4) (Z.tup (Z.cons (Z.bm K rfl PySem.F.plainAttrs_list PySem.F.slot_list_index PySem.F.type_list_index Y.BP (Z.v 1) (Z.cons (Z.v 5) Z.nil)) Z.nil))))) Z.b9)
   (Z.ax (Z.expr (Z.app K (Z.v 2) (Z.cons (Z.v 4) Z.nil))))))
   (Z.ax (Z.ret (Z.ct (Z.dJ K rfl) rfl T.cW (by decide +kernel) (Z.cons (Z.v 2) Z.nil))))))),?_⟩
  have l1:=hm.len;have l2:=m.len;refine au λN hN=>?_;exists ar hm.at';refine lE (pl:=pl) (ids:=ids) hm.at' (by lia) (λj a ha=>?_) (by lia) λD hD=>?_
  ·have hj:=(Ju.mp ha).1;have e1:=Jr (show j<ids.length by lia)
   obtain⟨u,h1,_⟩:=hm.it j a _ _ ha e1 (Jr (show j<rs.length by lia))
   exact⟨_,_,e1,h1⟩
  obtain⟨u2,s2⟩:=cX hD (.lst (iV ids));generalize upd H D _=H2 at *;refine⟨by decide,λe1 he1=>?_⟩
  obtain⟨u3,s3⟩:=cX he1 (.lst [V.int (-1)]);generalize upd H2 e1 _=H3 at *;simp only[L2.Ap.addRef,s3,u3.n s2];refine⟨JC (show _<=100 by rw[bL];simp;lia) (by decide),λth hth=>?_⟩
  rw[show iV ids++[V.int (-1)]=iV (ids++[-1]) from (fM ids [-1]).symm];obtain⟨u4,s4⟩:=cX hth (.lst (iV (ids++[-1])));generalize upd H3 th _=H4 at *;have k04:=u2.trans (u3.trans u4);rw[hN];clear hN N u2 u3 u4 s2 s3;have hm4:=hm.kb k04;refine au λN hN=>?_;nofun;refine⟨JJ _,λfd hfd=>?_⟩;obtain⟨k5,s5⟩:=cX hfd (.lst []);have hm5:=hm4.kb k5;have s45:=k5.n s4;have k05:=k04.trans k5;have nfd:∀b∈mo::pl,b≠fd:=λb hb z=>by
   obtain⟨xs,e⟩:=hm4.lst m b hb;rw[z,hfd] at e;cases e
  have tfd:th≠fd:=λz=>by rw[z,hfd] at s4;cases s4
  have hfd0:H fd=none:=k04.free (by simp) hfd
  generalize upd H4 fd _=H5 at *;rw[hN];clear hN N s4 hm4 k5 k04;refine au λN hN=>?_;exists ar hm5.at';refine dN (xs:=pl.map V.ref) (λi σ G=>∃(ps:List Addr) (o3 o4 o5:Option V),i<=rs.length/\KB [fd] H5 G/\KB [] H G/\G fd=some (.lst (ps.map V.ref))/\PA G ps (rs.take i)/\σ=[some (.ref mo),some (.ref th),some (.ref fd),o3,o4,o5]) ⟨[],none,none,none,JJ _,KB.refl _ _,k05,s5,⟨rfl,λi q r e=>nomatch e⟩,rfl⟩ (λi σ G _ h=>by
   obtain⟨_,_,_,_,_,kG,_⟩:=h;exact bg.of (kG _ _ hm5.at' (by simpa using nfd mo J7))) ?_ ?_
  ·rintro i x σ G ex ⟨ps,o3,o4,o5,hi,kG,kG',gf,pa,rfl⟩;obtain⟨a,ea,rfl⟩:∃a,pl[i]?=some a/\x=.ref a:=by
    rw[J6] at ex;obtain⟨a,e,rfl⟩:=JS.mp ex;exact⟨a,e,rfl⟩
   have hlt:i<rs.length:=by have:=(Ju.mp ea).1;lia
   have er:=Jr hlt;have ei:=Jr (show i<ids.length by lia)
   obtain⟨u,h1,h2⟩:=hm5.it i a _ _ ea ei er;have hmr:=JM hlt;have h1G:=kG _ _ h1 (by simpa using nfd a (Jx _ (JY ea)))
   have h2G:=kG _ _ h2 (by simpa using λz=>by rw[z,s5] at h2;cases h2)
   have thG:=kG _ _ s45 (by simpa using tfd)
   have ta:rs.take (i+1)=rs.take i++[rs[i]]:=by rw[Kp,er];rfl
   generalize hr0:rs[i]=r at *;generalize ids[i]=i0 at *;unfold aT;refine⟨a,_,rfl,.inr (bg.of h1G),rfl,_,_,rfl,_,_,rfl,_,_,rfl,rfl,?_⟩;dsimp only;have pl':=pa.1;refine au λM hM=>?_;have fin:∀v G6,KB [] G G6->G6 v=some (.tup r.vs)->M [some (.ref mo),some (.ref th),some (.ref fd),some (.int i0),some (.ref v),some (.int (dQ (ids++[-1]) r))] G6:=λv G6 k6 hv=>by
    subst hM;have gf6:=k6.n gf;refine jS λM hM=>?_;nofun;refine⟨.inl ⟨rfl,_,bg.of gf6⟩,fd,_,_,rfl,rfl,gf6,Kv (show _<=60 by rw[Jt,pl',JG];lia) (by decide),?_⟩
    rw[hM,show ps.map V.ref++[V.ref v]=(ps++[v]).map V.ref by rw[JN];rfl]
    refine⟨ps++[v],_,_,_,hlt,λb o e z=>?_,λb o e _=>?_,aa,?_,rfl⟩
    ·rw[ak (by simpa using z)];exact k6.n (kG _ _ e z)
    ·rw[ak (af e hfd0)];exact k6.n (kG'.n e)
    ·rw[ta];exact ((pa.keep k6 (NT.nil _)).snoc hv).keep (KB.set (ex:=[fd]) (by simp)) (nN gf6)
   cases e:ay r with
   |none =>
    have g0:dQ (ids++[-1]) r=0:=by unfold dQ;rw[e]
    rw[g0] at fin ⊢;nofun;exact fin u G (KB.refl _ _) (by rw[h2G,uy e])
   |some t =>
    have ht:=m.H_ hmr e;have gm:dQ (ids++[-1]) r∈ids++[-1]:=by unfold dQ;rw[e];dsimp only;rw[getD_mem ht];exact List.getElem_mem ht
    have gx:(ids++[-1]).idxOf (dQ (ids++[-1]) r)=t:=by unfold dQ;rw[e];dsimp only;rw[getD_mem ht];exact m.nd.idxOf_getElem t ht
    have gn:¬ dQ (ids++[-1]) r=0:=λz=>m.HU (z ▸ gm);obtain⟨j1,j2⟩:=idx_int gm;rw[gx] at j1 j2;obtain⟨y1,y2,y3⟩:=uN e;exists JA gn,Jy gn;refine⟨.inl ⟨rfl,_,bg.of thG⟩,th,ids++[-1],_,t,rfl,thG,rfl,j1,j2,by decide,λp2 hp2=>?_⟩
    obtain⟨k7,s7⟩:=cX hp2 (.tup [.int (t:Nat)]);have hu7:=k7.n h2G;generalize upd G p2 _=G7 at *;simp only[hu7];refine⟨y2,by simp,JC (show _<=3 by simp;lia) (by decide),λp3 hp3=>?_⟩
    exact fin p3 _ (k7.trans (KB.new hp3)) (by rw[aa,y1])
  ·rintro σ G ⟨ps,o3,o4,o5,_,kG,kG',gf,pa,rfl⟩;rw[Jt,l1,Kb] at pa;show N _ _;subst hN;exists ar gf;intro t ht;have kt:=KB.new (ex:=[]) (o:=.tup (ps.map V.ref)) ht;exact q t _ (kG'.trans kt) ⟨ps,aa,pa.keep kt (NT.nil _)⟩
def Exc(H H':Hp)(N e:Addr):Prop:=KB [] H H'/\H e=none/\H' e=some (.ext (iN e (.ref N) none))
def kA(C N:Addr):Sp:=λvs H Q E=>∃(x dx b qr:Addr) (bk:List (List Int)) (rs:List Row),iM C H x dx b bk rs/\rs.length<=60 /\
 ((∃(k:Nat) (r:Row),vs=[.ref x,.int (k:Nat),.ref qr]/\k<=rs.length/\H qr=some (.tup r.vs)/\r.Ok (rs.length+1)/\∀H',iM C H' x dx b bk (ki k r rs)->KB [x] H H'->Q .aL H') \/
 ∃(k:Int) (r:gU),vs=[.ref x,.int k,.ref qr]/\H qr=some (.tup r.vs)/\k.natAbs<10000000/\(∀g,pZ r=some g->g.natAbs<10000000)/\(k<0\/(rs.length:Int)<k\/∃g,pZ r=some g/\(g<0\/(rs.length:Int)+1<g))/\∀e H',Exc H H' N e->E (.ref N) (some e) H')
def A1(T:Txt K mg)(hC_NoRow:mg "NoRow"=some (.ref C_NoRow))(kC_NoRow:gE K C_NoRow)(cM:j8 K C)(na_rows:bQ K C "rows")(hgoal_of:ao P w K mg base aN 1 "goal_of" ["row"] iH)(hgoals_moved:ao P w K mg base aN 3 "goals_moved" ["rows","first","by"] iC)(F:lZ K "put_in" "Kept.put_in" bc f fd):bY P w K mg base (wN P w) 4 f fd ["self","place","row"] (kA C C_NoRow):=by
 refine F.IW bA (λvs H Q E h=>?_) (λcdv A outer s H vs Q E hr h=>?_)
 ·obtain⟨x,dx,b,qr,bk,rs,_,_,h⟩:=h;rcases h with ⟨k,r,rfl,_⟩|⟨k,r,rfl,_⟩<;>rfl
 ·obtain⟨x,dx,b,qr,bk,rs,⟨hb,od,ra,ox,hp⟩,hl,h⟩:=h;have hu:=aI hr;have ndx:dx≠x:=by rintro rfl;rw[ox] at od;cases od
  have hp':=hp;obtain⟨as,ha,hpl,_⟩:=hp';rcases h with ⟨k,r,rfl,hk,hq,hro,q⟩|⟨k,r,rfl,hq,hk,hgb,hno,q⟩
  ·refine⟨_,(Z.aq (Z.se (i:=3) bA.nd (Z.cb (Z.bO K rfl) rfl T.bG (by decide +kernel) (Z.cons (Z.fld K rfl (Z.v 0)) Z.nil)))
   (Z.aq (Z.cZ (Z.tw (Z.Bp (Z.aR fW (Z.v 1) Z.int) (Z.nE (Z.aR sR (Z.v 1) (Z.v 3))))) (Z.ax (Z.ji rfl hC_NoRow kC_NoRow (Z.cons (Z.wj (Z.fZ (Z.jE (Z.v 1) (Z.fZ (Z.jE (Z.v 3) (Z.fZ Z.vG)))))) Z.nil))) Z.b9)
   (Z.aq (Z.se (i:=4) bA.nd (Z.fc hgoal_of (Z.cons (Z.v 2) Z.nil)))
   (Z.aq (Z.cZ (Z.tw (Z.qT (Z.aR eQ (Z.v 4) Z.aL) (Z.jw (Z.tw (Z.Bp (Z.aR fW (Z.v 4) Z.int) (Z.nE (Z.aR sR (Z.v 4) (Z.op (Y.cG K rfl) (Z.v 3) Z.int)))))))) (Z.ax (Z.ji rfl hC_NoRow kC_NoRow (Z.cons (Z.wj (Z.fZ (Z.jE (Z.v 4) (Z.fZ (Z.jE (Z.v 3) (Z.fZ Z.vG)))))) Z.nil))) Z.b9)
   (Z.aq (Z.se (i:=5) bA.nd (Z.fc hgoals_moved (Z.cons (Z.fld K rfl (Z.v 0)) (Z.cons (Z.v 1) (Z.cons Z.int Z.nil)))))
   (Z.ax (Z.vV K rfl (Z.v 0) (Z.op (Y.cG K rfl) (Z.op (Y.cG K rfl) (Z.slice (Y.pL K rfl) (Z.v 5) Z.nY (Z.oY (Z.v 1))) (Z.tup (Z.cons (Z.v 2) Z.nil))) (Z.slice (Y.pL K rfl) (Z.v 5) (Z.oY (Z.v 1)) Z.nY))))))))),?_⟩
   refine au λN hN=>?_;nofun;refine⟨x,C,dx,_,_,rfl,ox,cM,na_rows,cy _ _,?_⟩;exists aF ha,Jt,hpl;subst hN;refine au λN hN=>?_;refine gc λA B hA hB=>?_;exists Jy (show ¬ ((k:Nat):Int)<0 by lia),Jy (show ¬ ((rs.length:Nat):Int)<((k:Nat):Int) by lia)
   rw[hB];show N _ _;rw[hN];clear hN N hA hB A B;refine au λN hN=>?_;nofun;have hq':=hq;rw[zp] at hq';refine⟨qr,_,rfl,hq',?_⟩;rw[hN,rL];clear hN N;refine au λN hN=>?_;have step:N [some (.ref x),some (.int (k:Nat)),some (.ref qr),some (.int (rs.length:Nat)),some (aJ (ay r)),none] H:=by
    subst hN;refine au λN hN=>?_;nofun;refine⟨x,C,dx,_,_,rfl,ox,cM,na_rows,cy _ _,ra,rs,k,1,rfl,hp,by lia,λt _=>by lia,λmo H1 k1 hm=>?_⟩
    subst hN;rw[show wL k 1=vZ k from funext λr=>FY k r] at hm;have hml:(rs.map (vZ k)).length=rs.length:=Jt ..;nofun;refine zC (k:=k) hm λu2 H2 k2 h2=>⟨by decide,λc hc=>?_⟩
    have k3:=KB.new (ex:=[]) (o:=.tup [.ref qr]) hc;have k03:=k1.trans (k2.trans k3);have h3:jg (upd H2 c (.tup [.ref qr])) c [r]:=⟨[qr],aa,rfl,λi q' r' e1 e2=>by
     cases i with
     |zero=>cases e1;cases e2;exact k03.n hq
     |succ i=>cases e1⟩
    have h23:=h2.kb k3;have hm3:=hm.kb (k2.trans k3);generalize upd H2 c (.tup [.ref qr])=H3 at *;refine rK h23 h3 (by rw[JG];simp;lia) λu4 H4 k4 h4=>?_
    refine sQ (k:=k) (hm3.kb k4) λu5 H5 k5 h5=>?_;refine rK (h4.kb k5) h5 (by rw[Jv,JG,Ka];simp;lia) λu6 H6 k6 h6=>?_
    have k06:=k03.trans (k4.trans (k5.trans k6));have ox6:=k06.n ox;refine⟨x,C,dx,_,rfl,ox6,cM,na_rows,(show 2<1000 by decide),?_⟩
    have k7:KB [x] H6 (upd H6 x (.ins C dx (dO "rows" (.ref u6) [("book",.ref b),("rows",.ref ra)]))):=KB.set (by simp)
    have nt:=lU ox6;exact q _ ⟨(hb.kb k06).keep k7 nt,k7 _ _ (k06.n od) (by simpa using ndx),u6,aa,h6.keep k7 nt⟩ (k06.all.trans k7)
   refine gc λA B hA hB=>?_
   cases c:ay r with
   |none =>
    rw[c] at step;exists Jy (show ¬ ¬ aJ none=V.aL from λz=>z rfl);rw[hB];exact step
   |some t =>
    rw[c] at step;have ht:=dw hro c;rw[show aJ (some t)=V.int (t:Nat) from rfl] at step ⊢;exists JA (show ¬ V.int (t:Nat)=V.aL from V.noConfusion),Jy (show ¬ ((t:Nat):Int)<0 by lia)
    refine .inl ⟨_,_,rfl,rfl,?_⟩;exists Jy (show ¬ ((rs.length:Nat):Int)+1<((t:Nat):Int) by lia)
    rw[hB];exact step
  ·refine⟨_,(Z.aq (Z.se (i:=3) bA.nd (Z.cb (Z.bO K rfl) rfl T.bG (by decide +kernel) (Z.cons (Z.fld K rfl (Z.v 0)) Z.nil)))
   (Z.aq (Z.cZ (Z.tw (Z.Bp (Z.aR fW (Z.v 1) Z.int) (Z.nE (Z.aR sR (Z.v 1) (Z.v 3))))) (Z.ax (Z.ji rfl hC_NoRow kC_NoRow (Z.cons (Z.wj (Z.fZ (Z.jE (Z.v 1) (Z.fZ (Z.jE (Z.v 3) (Z.fZ Z.vG)))))) Z.nil))) Z.b9)
   (Z.aq (Z.se (i:=4) bA.nd (Z.fc hgoal_of (Z.cons (Z.v 2) Z.nil)))
   (Z.aq (Z.cZ (Z.tw (Z.qT (Z.aR eQ (Z.v 4) Z.aL) (Z.jw (Z.tw (Z.Bp (Z.aR fW (Z.v 4) Z.int) (Z.nE (Z.aR sR (Z.v 4) (Z.op (Y.cG K rfl) (Z.v 3) Z.int)))))))) (Z.ax (Z.ji rfl hC_NoRow kC_NoRow (Z.cons (Z.wj (Z.fZ (Z.jE (Z.v 4) (Z.fZ (Z.jE (Z.v 3) (Z.fZ Z.vG)))))) Z.nil))) Z.b9)
   (Z.aq (Z.se (i:=5) bA.nd (Z.fc hgoals_moved (Z.cons (Z.fld K rfl (Z.v 0)) (Z.cons (Z.v 1) (Z.cons Z.int Z.nil)))))
   (Z.ax (Z.vV K rfl (Z.v 0) (Z.op (Y.cG K rfl) (Z.op (Y.cG K rfl) (Z.slice (Y.pL K rfl) (Z.v 5) Z.nY (Z.oY (Z.v 1))) (Z.tup (Z.cons (Z.v 2) Z.nil))) (Z.slice (Y.pL K rfl) (Z.v 5) (Z.oY (Z.v 1)) Z.nY))))))))),?_⟩
   have big:∀{i:Int},i.natAbs<10000000->i.natAbs<2^1900:=λh=>ND h (JT (show 10000000<2^24 by decide) (Lp (by decide) (by decide)))
   have fin:∀e σ,H e=none->qZ (fY (wN P w) P w K mg base ["self","place","row","many","goal","moved"] "Kept.put_in" (ae bc) f cdv A outer s H E) (.ref C_NoRow) none e σ (upd H e (.ext (iN e (.ref C_NoRow) none))):=λe σ he=>qJ (q e _ ⟨KB.new he,he,aa⟩);refine au λN hN=>?_;nofun;refine⟨x,C,dx,_,_,rfl,ox,cM,na_rows,cy _ _,?_⟩;exists aF ha,Jt,hpl;subst hN;refine au λN hN=>?_;refine gc λA B hA hB=>?_;by_cases c1:k<0\/(rs.length:Int)<k
   ·have hA':A [some (.ref x),some (.int k),some (.ref qr),some (.int (rs.length:Nat)),none,none] H:=by
     rw[hA];nofun;exact⟨big hk,big (by lia),λz hz=>⟨by decide,λe he=>fin e _ he⟩⟩
    by_cases c2:k<0
    ·exists JA c2;exact hA'
    ·exists Jy c2,JA (show (rs.length:Int)<k by lia)
     exact hA'
   ·exists Jy (show ¬ k<0 by lia),Jy (show ¬ (rs.length:Int)<k by lia)
    rw[hB];show N _ _;rw[hN];clear hN N hA hB A B;refine au λN hN=>?_;nofun;refine⟨qr,_,rfl,hq,?_⟩;subst hN;obtain⟨g,eg,hg⟩:∃g,pZ r=some g/\(g<0\/(rs.length:Int)+1<g):=by
     rcases hno with h|h|h
     ·exact absurd (.inl h) c1
     ·exact absurd (.inr h) c1
     ·exact h
    have ev:jd r=.int g:=by unfold jd;rw[eg]
    rw[ev];refine au λN hN=>?_;refine gc λA B hA hB=>?_;have hA':A [some (.ref x),some (.int k),some (.ref qr),some (.int (rs.length:Nat)),some (.int g),none] H:=by
     rw[hA];nofun;exact⟨big (hgb g eg),big (by lia),λz hz=>⟨by decide,λe he=>fin e _ he⟩⟩
    by_cases c2:g<0
    ·exists JA (show ¬ V.int g=V.aL from V.noConfusion),JA c2;exact hA'
    ·exists JA (show ¬ V.int g=V.aL from V.noConfusion),Jy c2;refine .inl ⟨_,_,rfl,rfl,?_⟩;exists JA (show (rs.length:Int)+1<g by lia)
     exact hA'
def jO(C N:Addr):Sp:=λvs H Q E=>∃(x dx b:Addr) (bk:List (List Int)) (rs:List Row),iM C H x dx b bk rs/\rs.length<=64 /\
 ((∃k:Nat,vs=[.ref x,.int (k:Nat)]/\k<rs.length/\∀H',iM C H' x dx b bk (oU k rs)->KB [x] H H'->Q .aL H') \/
 ∃k:Int,vs=[.ref x,.int k]/\k.natAbs<10000000/\(k<0\/(rs.length:Int)<=k)/\∀e H',Exc H H' N e->E (.ref N) (some e) H')
def yQ(T:Txt K mg)(hC_NoRow:mg "NoRow"=some (.ref C_NoRow))(kC_NoRow:gE K C_NoRow)(cM:j8 K C)(na_rows:bQ K C "rows")(hgoals_moved:ao P w K mg base aN 3 "goals_moved" ["rows","first","by"] iC)(F:lZ K "take_out" "Kept.take_out" a_ f fd):bY P w K mg base (wN P w) 4 f fd ["self","place"] (jO C C_NoRow):=by
 refine F.IW dh (λvs H Q E h=>?_) (λcdv A outer s H vs Q E hr h=>?_)
 ·obtain⟨x,dx,b,bk,rs,_,_,h⟩:=h;rcases h with ⟨k,rfl,_⟩|⟨k,rfl,_⟩<;>rfl
 ·obtain⟨x,dx,b,bk,rs,⟨hb,od,ra,ox,hp⟩,hl,h⟩:=h;have hu:=aI hr;have ndx:dx≠x:=by rintro rfl;rw[ox] at od;cases od
  have hp':=hp;obtain⟨as,ha,hpl,_⟩:=hp';rcases h with ⟨k,rfl,hk,q⟩|⟨k,rfl,hk,hno,q⟩
  ·refine⟨_,(Z.aq (Z.se (i:=2) dh.nd (Z.cb (Z.bO K rfl) rfl T.bG (by decide +kernel) (Z.cons (Z.fld K rfl (Z.v 0)) Z.nil)))
   (Z.aq (Z.cZ (Z.tw (Z.Bp (Z.aR fW (Z.v 1) Z.int) (Z.nE (Z.aR xq (Z.v 1) (Z.v 2))))) (Z.ax (Z.ji rfl hC_NoRow kC_NoRow (Z.cons (Z.wj (Z.fZ (Z.jE (Z.v 1) (Z.fZ (Z.jE (Z.v 2) (Z.fZ Z.vG)))))) Z.nil))) Z.b9)
   (Z.ax (Z.vV K rfl (Z.v 0) (Z.fc hgoals_moved (Z.cons (Z.op (Y.cG K rfl) (Z.slice (Y.pL K rfl) (Z.fld K rfl (Z.v 0)) Z.nY (Z.oY (Z.v 1))) (Z.slice (Y.pL K rfl) (Z.fld K rfl (Z.v 0)) (Z.oY (Z.op (Y.cG K rfl) (Z.v 1) Z.int)) Z.nY)) (Z.cons (Z.op (Y.cG K rfl) (Z.v 1) Z.int) (Z.cons (Z.un bM Z.int) Z.nil)))))))),?_⟩
   refine au λN hN=>?_;nofun;refine⟨x,C,dx,_,_,rfl,ox,cM,na_rows,cy _ _,?_⟩;exists aF ha,Jt,hpl;subst hN;refine au λN hN=>?_;refine gc λA B hA hB=>?_;exists Jy (show ¬ ((k:Nat):Int)<0 by lia),Jy (show ¬ ((rs.length:Nat):Int)<=((k:Nat):Int) by lia)
   rw[hB];show N _ _;rw[hN];clear hN N hA hB A B;nofun;refine⟨x,C,dx,_,_,rfl,ox,cM,na_rows,cy _ _,?_⟩;refine zC (k:=k) hp λu1 H1 k1 h1=>?_;have ox1:=k1.n ox;refine⟨x,C,dx,_,_,rfl,ox1,cM,na_rows,cy _ _,?_⟩;refine .inl ⟨_,_,rfl,rfl,_,rfl,?_⟩;rw[show ((k:Nat):Int)+1=((k+1:Nat):Int) from rfl];refine sQ (k:=k+1) (hp.kb k1) λu2 H2 k2 h2=>?_;refine rK (h1.kb k2) h2 (by rw[JG,Ka];lia) λu3 H3 k3 h3=>?_
   refine .inl ⟨_,_,rfl,rfl,?_⟩;refine⟨u3,_,k+1,-1,rfl,h3,by rw[Jv,JG,Ka];lia,λt _=>by lia,λu4 H4 k4 h4=>?_⟩
   rw[show wL (k+1) (-1)=BS (k+1) from funext λr=>Hs (k+1) r] at h4;have k04:=k1.trans (k2.trans (k3.trans k4));have ox4:=k04.n ox;refine⟨x,C,dx,_,rfl,ox4,cM,na_rows,(show 2<1000 by decide),?_⟩
   have k7:KB [x] H4 (upd H4 x (.ins C dx (dO "rows" (.ref u4) [("book",.ref b),("rows",.ref ra)]))):=KB.set (by simp)
   have nt:=lU ox4;exact q _ ⟨(hb.kb k04).keep k7 nt,k7 _ _ (k04.n od) (by simpa using ndx),u4,aa,h4.keep k7 nt⟩ (k04.all.trans k7)
  ·refine⟨_,(Z.aq (Z.se (i:=2) dh.nd (Z.cb (Z.bO K rfl) rfl T.bG (by decide +kernel) (Z.cons (Z.fld K rfl (Z.v 0)) Z.nil)))
   (Z.aq (Z.cZ (Z.tw (Z.Bp (Z.aR fW (Z.v 1) Z.int) (Z.nE (Z.aR xq (Z.v 1) (Z.v 2))))) (Z.ax (Z.ji rfl hC_NoRow kC_NoRow (Z.cons (Z.wj (Z.fZ (Z.jE (Z.v 1) (Z.fZ (Z.jE (Z.v 2) (Z.fZ Z.vG)))))) Z.nil))) Z.b9)
   (Z.ax (Z.vV K rfl (Z.v 0) (Z.fc hgoals_moved (Z.cons (Z.op (Y.cG K rfl) (Z.slice (Y.pL K rfl) (Z.fld K rfl (Z.v 0)) Z.nY (Z.oY (Z.v 1))) (Z.slice (Y.pL K rfl) (Z.fld K rfl (Z.v 0)) (Z.oY (Z.op (Y.cG K rfl) (Z.v 1) Z.int)) Z.nY)) (Z.cons (Z.op (Y.cG K rfl) (Z.v 1) Z.int) (Z.cons (Z.un bM Z.int) Z.nil)))))))),?_⟩
   have big:∀{i:Int},i.natAbs<10000000->i.natAbs<2^1900:=λh=>ND h (JT (show 10000000<2^24 by decide) (Lp (by decide) (by decide)))
   refine au λN hN=>?_;nofun;refine⟨x,C,dx,_,_,rfl,ox,cM,na_rows,cy _ _,?_⟩;exists aF ha,Jt,hpl;subst hN;refine au λN hN=>?_;refine gc λA B hA hB=>?_;have hA':A [some (.ref x),some (.int k),some (.int (rs.length:Nat))] H:=by
    rw[hA];nofun;exact⟨big hk,big (by lia),λz hz=>⟨by decide,λe he=>qJ (q e _ ⟨KB.new he,he,aa⟩)⟩⟩
   by_cases c2:k<0
   ·exists JA c2;exact hA'
   ·exists Jy c2,JA (show (rs.length:Int)<=k by lia)
    exact hA'
def aX.IC{n:Nat}{o:HO}(D:aX H p dq n)(hx:H x=some o)(ho:∀ys,o≠.lst ys):x∉[p,dq]:=λz=>by
 obtain⟨ys,e⟩:=D.lst x z;rw[hx] at e;exact ho ys (Option.some.inj e)
def iM.deck{bk:List (List Int)}{rs:List Row}{n:Nat}(h:iM C H x dx b bk rs)(D:aX H p dq n)(k:KB [p,dq] H H'):iM C H' x dx b bk rs:=by
 obtain⟨ra,ox,_⟩:=h.ex;exact h.keep k D.nt (D.IC ox λ_=>by simp) (D.IC h.od λ_=>by simp)
def iM.dk{bk:List (List Int)}{rs:List Row}{n:Nat}(h:iM C H x dx b bk rs)(D:aX H p dq n)(k:KB [x] H H'):aX H' p dq n:=by
 obtain⟨ra,ox,_⟩:=h.ex;have:=D.IC ox λ_=>by simp
 simp only[Jw,JO,Kn,M4] at this;exact D.keep k (by simpa using λz=>this.1 z.symm) (by simpa using λz=>this.2 z.symm)
def iM.nt{bk:List (List Int)}{rs:List Row}(h:iM C H x dx b bk rs):NT [x] H:=by
 obtain⟨ra,ox,_⟩:=h.ex;exact lU ox
def lY.put{n:Addr}{rs:List Row}{p:Nat}{c:Int}{r:Row}(h:lY H mo pl ids rs)(m:Md ids rs)(hp:p<=rs.length)(hm:H' mo=some (.lst ((pl.take p++[n]++pl.drop p).map V.ref)))(hn:n∉mo::pl)(hk:∀a i g r,a∈pl->t5 H a i g r->t5 H' a i g r)(hi:t5 H' n c (dQ (ids.take p++[c]++ids.drop p++[-1]) r) r):lY H' mo (pl.take p++[n]++pl.drop p) (ids.take p++[c]++ids.drop p) (ki p r rs):=by
 have l1:=h.len;have l2:=m.len;have et:(ids++[-1]).take p++[c]++(ids++[-1]).drop p=ids.take p++[c]++ids.drop p++[-1]:=by
  rw[MX (by lia),MY (by lia)];simp
 have pm:(mo::(pl.take p++[n]++pl.drop p)).Perm (n::mo::pl):=by
  refine List.Perm.trans (List.Perm.cons _ ?_) (List.Perm.swap ..);rw[JQ];exact Ml.trans (List.Perm.of_eq (Km (n::·) (KH p pl)))
 refine⟨hm,by rw[f6 (by lia),jK hp,l1],pm.nodup_iff.mpr (Ky.mpr ⟨hn,h.nd⟩),λj a i r' e1 e2 e3=>?_⟩
 rcases uM (by lia) e1 with ⟨rfl,rfl⟩|⟨k,ek,f⟩
 ·rw[oE (by lia)] at e2
  unfold ki at e3;rw[oE (by rw[Jt];exact hp)] at e3
  cases e2;cases e3
  exact hi
 ·rw[f ids c (by lia)] at e2
  unfold ki at e3;rw[f (rs.map (vZ p)) r (by rw[Jt];exact hp),J6] at e3
  obtain⟨r0,e0,rfl⟩:=JS.mp e3;have x:=hk a i _ _ (JY ek) (h.it k a i r0 ek e2 e0);have y:=Eo (th:=ids++[-1]) (p:=p) c (by rw[Jv];lia) λt e=>m.H_ (JY e0) e
  rw[et] at y;rw[y.1];obtain⟨u,x1,x2⟩:=x;exact⟨u,x1,by rw[y.2];exact x2⟩
def nums(c:Nat):List Int:=(List.range c).map λi:Nat=>(i:Int)+1
def pM(c:Nat):(iV (nums c)).length=c:=by rw[bL];unfold nums;rw[Jt,Kh]
def mG(c:Nat):iV (nums c)++[V.int ((c:Int)+1)]=iV (nums (c+1)):=by
 unfold nums;rw[Ms,JN,fM];rfl
def mM(c:Nat):bI (iV (nums (c+1))) (-1)=some (V.int ((c:Int)+1)):=by
 rw[<- mG];exact kM _ _
structure rj (C:Addr) (H:Hp) (p dq x dx b:Addr) (bk:List (List Int)) (mo ia:Addr) (pl:List Addr) (ids:List Int) (rs:List Row) (n c:Nat):Prop where
 deck:aX H p dq n
 hn:n<2^30
 ks:iM C H x dx b bk rs
 md:lY H mo pl ids rs
 mm:Md ids rs
 at':H ia=some (.lst (iV (nums c)))
 hc:c<1000
 le:∀i∈ids,i<=c
 di:ia∉[p,dq]
 sep:∀a∈mo::pl,a∉[p,dq]/\a≠ia
def wA(C:Addr)(H:Hp)(p dq x dx b:Addr)(bk:List (List Int))(mo ia:Addr)(pl:List Addr)(n c M:Nat)(Q:VK):Prop:=∀H' c' pl' ids' rs',aX H' p dq (n+20)->iM C H' x dx b bk rs'->lY H' mo pl' ids' rs'->Md ids' rs'->rs'.length<=M->H' ia=some (.lst (iV (nums c')))->c<=c'->c'<=c+1->(∀i∈ids',i<=c')->(∀a∈pl',a∈pl\/H a=none)->KB (p::dq::x::mo::ia::pl) H H'->Q (.bl true) H'
def FC(r:Row):∃z rest,r.vs=V.str z::rest/\iL (.str z) [V.str "jump",V.str "zero"]=(ay r).isSome:=by
 cases r with
 |put b n=>refine⟨_,_,rfl,?_⟩;show iL _ _=false;decide +kernel
 |two u a b=>rcases yv u with rfl|rfl|rfl<;>(refine⟨_,_,rfl,?_⟩;show iL _ _=false;decide +kernel)
 |one u b=>rcases IJ u with rfl|rfl<;>(refine⟨_,_,rfl,?_⟩;show iL _ _=false;decide +kernel)
 |jump g=>refine⟨_,_,rfl,?_⟩;show iL _ _=true;decide +kernel
 |zero b g=>refine⟨_,_,rfl,?_⟩;show iL _ _=true;decide +kernel
 |halt=>refine⟨_,_,rfl,?_⟩;show iL _ _=false;decide +kernel
def AI(xs:List V)(v:V):¬ (HT.bB (xs++[v]).length 0 none=0/\HT.bB (xs++[v]).length (xs++[v]).length (some (-1))=(xs++[v]).length):=λz=>by
 have h1:=z.2;have:HT.bB (xs++[v]).length (xs++[v]).length (some (-1))=xs.length:=by
  unfold HT.bB;simp only[show ((-1:Int)<0)=True from eq_true (by decide),LV,Jv,JE,KW]
  lia
 rw[this,Jv] at h1;simp at h1
def yn(C:Addr):Sp:=λvs H Q _=>∃p dq x dx b bk mo ia pl ids rs n c,vs=[.ref p,.ref x,.ref mo,.ref ia]/\rj C H p dq x dx b bk mo ia pl ids rs n c/\rs.length<=59/\wA C H p dq x dx b bk mo ia pl n c (rs.length+1) Q
def Bv{fq N:Addr}(T:Txt K mg)(F:HasFn K mg "_law_put" eB ["deck","kept","model","ids"])(h_law_draw:ao P w K mg base aN 2 "_law_draw" ["deck","most"] d9)(h_law_row:ao P w K mg base aN 4 "_law_row" ["deck","goals"] (tL K))(cM:j8 K C)(mm_put_in:Meth K C "put_in" fq)(bm_put_in:Binds K d_put_in ["self","place","row"] [])(FO_put_in:bY P w K mg base (wN P w) 4 fq d_put_in ["self","place","row"] (kA C N)):ao P w K mg base aN 5 "_law_put" ["deck","kept","model","ids"] (yn C):=by
 refine F.eZ eN (λvs H Q E h=>?_) (λf cdv A outer s H vs Q E hr h=>?_)
 ·obtain⟨p,dq,x,dx,b,bk,mo,ia,pl,ids,rs,n,c,rfl,_⟩:=h;rfl
 ·obtain⟨p,dq,x,dx,b,bk,mo,ia,pl,ids,rs,n,c,rfl,pre,h59,q⟩:=h;have hu:=aI hr;refine⟨_,(Z.aq (Z.se (i:=4) eN.nd (Z.fc h_law_draw (Z.cons (Z.v 0) (Z.cons (Z.op (Z.aE K rfl) (Z.cb (Z.bO K rfl) rfl T.bG (by decide +kernel) (Z.cons (Z.v 2) Z.nil)) Z.int) Z.nil))))
   (Z.aq (Z.se (i:=5) eN.nd (Z.fc h_law_row (Z.cons (Z.v 0) (Z.cons (Z.op (Z.aE K rfl) (Z.cb (Z.bO K rfl) rfl T.bG (by decide +kernel) (Z.cons (Z.v 2) Z.nil)) Z.int) Z.nil))))
   (Z.aq (Z.se (i:=6) eN.nd (Z.h9 K rfl (Z.v 1) cM mm_put_in FO_put_in bm_put_in (Z.cons (Z.v 4) (Z.cons (Z.v 5) Z.nil))))
   (Z.aq (Z.expr (Z.app K (Z.v 3) (Z.cons (Z.op (Z.aE K rfl) (Z.cb (Z.bO K rfl) rfl T.bG (by decide +kernel) (Z.cons (Z.v 3) Z.nil)) Z.int) Z.nil)))
   (Z.aq (Z.expr (Z.bm K rfl PySem.F.plainAttrs_list PySem.F.slot_list_insert PySem.F.type_list_insert iQ (Z.v 2) (Z.cons (Z.v 4) (Z.cons (Z.lst (Z.cons (Z.ix (Z.aA K rfl hu) (Z.v 3) (Z.un bM Z.int)) (Z.cons (Z.v 5) (Z.cons Z.int Z.nil)))) Z.nil))))
   (Z.aq (Z.cZ (Z.aR (Z.Bg K rfl hu) (Z.ix (Z.aA K rfl hu) (Z.v 5) Z.int) (Z.tup (Z.consts rfl))) (Z.ax (Z.asg (Z.lst (Z.cons (Z.ix (Z.aA K rfl hu) (Z.v 3) (Z.un bM Z.int)) (Z.cons (Z.slice (Z.vX K rfl) (Z.v 5) Z.nY (Z.oY (Z.un bM Z.int))) (Z.cons (Z.ix (Z.aA K rfl hu) (Z.op (Z.aE K rfl) (Z.vy (osc:=ae eB) (ON:=["deck","kept","model","ids","place","row","told"]) (own:=["one"]) (N:=["one","deck","kept","model","ids","place","row","told"]) (az.of rfl (by decide +kernel)) (Z.any K rfl (Z.v 2)) (λnd _ _ _ _=>(Z.aH (i:=0) nd rfl (by right))) (λ_ _ _ _=>Z.pe) (λ_ _ _ _=>(Z.ix (Z.aA K rfl hu) (Z.v 0) Z.int))) (Z.lst (Z.cons (Z.un bM Z.int) Z.nil))) (Z.ix (Z.aA K rfl hu) (Z.v 5) (Z.un bM Z.int))) Z.nil)))) (Z.mx (Z.v 2) (Z.v 4)))) Z.b9)
   (Z.ax (Z.ret (Z.cmp fE (Z.v 6) Z.aL))))))))),?_⟩
  have l1:=pre.md.len;have l2:=pre.mm.len;have hn:=pre.hn;have hc:=pre.hc;have nmo:=(pre.sep mo J7).1;have moia:=(pre.sep mo J7).2;refine au λN hN=>?_;exists ar pre.md.at',Jt,l1;refine⟨p,dq,_,n,rfl,pre.deck,by lia,by lia,by lia,λk H1 hk D1 k1=>?_⟩
  subst hN;have mo1:=k1 _ _ pre.md.at' nmo;refine au λN hN=>?_;exists ar mo1,Jt,l1;refine⟨p,dq,rs.length+1,_,rfl,D1,by lia,by lia,λr qr H2 hro hqr D2 k2=>?_⟩
  subst hN;have k12:=k1.trans k2;have ks2:=(pre.ks.deck pre.deck k1).deck D1 k2;have md2:=pre.md.keep k12 pre.deck.nt λa ha=>(pre.sep a ha).1;have ia2:=k12 _ _ pre.at' pre.di;obtain⟨rx,ox2,_⟩:=ks2.ex;refine au λN hN=>?_;nofun;refine⟨x,dx,_,rfl,ox2,rfl,x,dx,b,qr,bk,rs,ks2,by lia,.inl ⟨k,r,rfl,by lia,hqr,hro,λH3 ks3 k3=>?_⟩⟩
  subst hN;have nx:∀a∈mo::pl,a≠x:=λa ha z=>by
   obtain⟨xs,e⟩:=md2.lst pre.mm a ha;rw[z,ox2] at e;cases e
  have iax:ia≠x:=λz=>by rw[z,ox2] at ia2;cases ia2
  have md3:=md2.keep k3 ks2.nt λa ha=>by simpa using nx a ha
  have ia3:=k3 _ _ ia2 (by simpa using iax)
  have D3:=ks2.dk D2 k3;have hqr3:=k3 _ _ hqr λz=>ks2.nt _ z _ hqr;refine au λN hN=>?_;exists ar ia3;refine⟨.inl ⟨rfl,_,bg.of ia3⟩,ia,_,_,rfl,rfl,ia3,by rw[pM];exact JT hc (by decide),?_⟩
  rw[pM,mG];have k34:KB [ia] H3 (upd H3 ia (.lst (iV (nums (c+1))))):=KB.set (by simp)
  have ia4:upd H3 ia (.lst (iV (nums (c+1)))) ia=some (.lst (iV (nums (c+1)))):=aa;generalize upd H3 ia (.lst (iV (nums (c+1))))=H4 at *;have nt3:=nN ia3;have md4:=md3.keep k34 nt3 λa ha=>by simpa using (pre.sep a ha).2
  have hqr4:=k34 _ _ hqr3 λz=>nt3 _ z _ hqr3;subst hN;refine au λN hN=>?_;exists ar ia4,mM;refine⟨.inl ⟨rfl,_,bg.of md4.at'⟩,by decide,λnw hnw=>?_⟩
  obtain⟨k45,nw5⟩:=cX hnw (.lst [.int ((c:Int)+1),.ref qr,.int 0]);have nwm:nw∉mo::pl:=λz=>by
   obtain⟨xs,e⟩:=md4.lst pre.mm nw z;rw[hnw] at e;cases e
  have md5:=md4.kb k45;have ia5:=k45.n ia4;have hqr5:=k45.n hqr4;generalize upd H4 nw _=H5 at *;refine⟨mo,_,k,.ref nw,rfl,rfl,md5.at',by lia,by lia,by rw[Jt];exact Kv (show _<=60 by lia) (by decide),?_⟩
  subst hN;rw[JW,Jt,NV (by lia)]
  have ei:hU (pl.map V.ref) k (.ref nw)=(pl.take k++[nw]++pl.drop k).map V.ref:=by unfold hU;simp
  rw[ei];have nwmo:nw≠mo:=λz=>nwm (by simp[z])
  have k56:KB [mo] H5 (upd H5 mo (.lst ((pl.take k++[nw]++pl.drop k).map V.ref))):=KB.set (by simp)
  have mo6:upd H5 mo (.lst ((pl.take k++[nw]++pl.drop k).map V.ref)) mo=some (.lst ((pl.take k++[nw]++pl.drop k).map V.ref)):=aa;have ntm:=nN md5.at';have nw6:=k56 _ _ nw5 (by simpa using nwmo)
  have ia6:=k56 _ _ ia5 (by simpa using moia.symm)
  have hqr6:=k56 _ _ hqr5 λz=>ntm _ z _ hqr5;generalize upd H5 mo (.lst ((pl.take k++[nw]++pl.drop k).map V.ref))=H6 at *;have pia:p≠ia/\dq≠ia:=by have:=pre.di;simp only[Jw,JO,Kn,M4] at this;exact⟨λz=>this.1 z.symm,λz=>this.2 z.symm⟩
  have pmo:p≠mo/\dq≠mo:=by have:=nmo;simp only[Jw,JO,Kn,M4] at this;exact⟨λz=>this.1 z.symm,λz=>this.2 z.symm⟩
  have k36:KB [ia,mo] H3 H6:=(k34.mono (by simp)).trans ((k45.mono (by simp)).trans (k56.mono (by simp)))
  have k03:KB [p,dq,x,ia,mo] H H3:=(k12.mono (by simp)).trans (k3.mono (by simp))
  have nt3':NT [ia,mo] H3:=λu hu xs e=>by
   simp only[Jw,JO,Kn] at hu;rcases hu with rfl|rfl
   ·rw[ia3] at e;cases e
   ·rw[md3.at'] at e;cases e
  have dx3:dx∉[ia,mo]:=λz=>by
   have:=ks3.od;simp only[Jw,JO,Kn] at z;rcases z with rfl|rfl
   ·rw[ia3] at this;cases this
   ·rw[md3.at'] at this;cases this
  have x3:x∉[ia,mo]:=by simpa using⟨iax.symm,(nx mo J7).symm⟩
  have ox0:∃fs,H x=some (.ins C dx fs):=by obtain⟨_,e,_⟩:=pre.ks.ex;exact⟨_,e⟩
  have nt0:NT [p,dq,x,ia,mo] H:=λu hu xs e=>by
   simp only[Jw,JO,Kn] at hu;rcases hu with rfl|rfl|rfl|rfl|rfl
   ·exact pre.deck.nt _ (by simp) _ e
   ·exact pre.deck.nt _ (by simp) _ e
   ·obtain⟨_,e'⟩:=ox0;rw[e'] at e;cases e
   ·rw[pre.at'] at e;cases e
   ·rw[pre.md.at'] at e;cases e
  have pl0:∀a∈pl,a∉[p,dq,x,ia,mo]:=λa ha=>by
   have h1:=pre.sep a (Jx _ ha);have h2:=nx a (Jx _ ha);have h3:a≠mo:=λz=>(Ky.mp pre.md.nd).1 (z ▸ ha);simp only[Jw,JO,Kn,M4] at h1 ⊢;exact⟨h1.1.1,h1.1.2,h2,h1.2,h3⟩
  have fr:∀{G:Hp} {u:Addr},KB [ia,mo] H3 G->G ia≠none->G mo≠none->G u=none->H u=none:=λ{G u} k a1 a2 e=>by
   have n0:H3 u=none:=k.free (λz=>by
    simp only[Jw,JO,Kn] at z;rcases z with rfl|rfl
    ·exact a1 e
    ·exact a2 e) e
   refine k03.free (λz=>?_) n0;simp only[Jw,JO,Kn] at z;rcases z with rfl|rfl|rfl|rfl|rfl
   ·obtain⟨_,e'⟩:=D3.lst u (by simp);rw[e'] at n0;cases n0
   ·obtain⟨_,e'⟩:=D3.lst u (by simp);rw[e'] at n0;cases n0
   ·obtain⟨_,e',_⟩:=ks3.ex;rw[e'] at n0;cases n0
   ·rw[ia3] at n0;cases n0
   ·rw[md3.at'] at n0;cases n0
  refine au λM hM=>?_;have fin:∀(G:Hp) (n9:Addr),KB [mo] H6 G->H n9=none->G mo=some (.lst ((pl.take k++[n9]++pl.drop k).map V.ref))->t5 G n9 ((c:Int)+1) (dQ (ids.take k++[(c:Int)+1]++ids.drop k++[-1]) r) r->M [some (.ref p),some (.ref x),some (.ref mo),some (.ref ia),some (.int (k:Nat)),some (.ref qr),some .aL] G:=λG n9 kG hn9 mo9 it9=>by
   subst hM;nofun;have k3G:KB [ia,mo] H3 G:=k36.trans (kG.mono (by simp))
   have k0G:=k03.trans (k3G.mono (by simp))
   refine q G (c+1) (pl.take k++[n9]++pl.drop k) (ids.take k++[(c:Int)+1]++ids.drop k) (ki k r rs) ((D3.keep k3G (by simpa using⟨pia.1,pmo.1⟩) (by simpa using⟨pia.2,pmo.2⟩)).mono (by lia)) (ks3.keep k3G nt3' x3 dx3) (pre.md.put pre.mm (by lia) mo9 (λz=>?_) (λa i g r ha h=>h.keep k0G nt0 (pl0 a ha)) it9) (pre.mm.put (by lia) (λz=>?_) (by lia) hro) (by rw[jK (by lia)];exact J8 _) (kG _ _ ia6 (by simpa using moia.symm)) (by lia) (by lia) (λi hi=>?_) (λa ha=>?_) (k0G.mono (by simp))
   ·obtain⟨xs,e⟩:=pre.md.lst pre.mm n9 z;rw[hn9] at e;cases e
   ·have:=pre.le _ z;lia
   ·simp only[Ki,JH] at hi;rcases hi with (hi|hi)|hi
    ·have:=pre.le _ (Lo hi);lia
    ·lia
    ·have:=pre.le _ (LL hi);lia
   ·simp only[Ki,JH] at ha;rcases ha with (ha|ha)|ha
    ·exact .inl (Lo ha)
    ·rw[ha];exact .inr hn9
    ·exact .inl (LL ha)
  clear hM;have hnw0:H nw=none:=fr (k34.mono (by simp)) (by rw[ia4];simp) (by rw[md4.at'];simp) hnw
  obtain⟨z,rest,ez,hz⟩:=FC r;have s6:=hqr6;rw[ez] at s6;refine gc λA B hA hB=>?_;exists aF s6,rf;refine⟨by decide,λtt htt=>⟨rfl,rfl,?_⟩⟩
  have k67:=KB.new (ex:=[]) (o:=.tup [.str "jump",.str "zero"]) htt;have mo7:=k67.n mo6;have nw7:=k67.n nw6;have ia7:=k67.n ia6;have hqr7:=k67.n hqr6;generalize upd H6 tt (.tup [.str "jump",.str "zero"])=H7 at *
  cases e:ay r with
  |none =>
   rw[e] at hz;exists hz;have g0:dQ (ids.take k++[(c:Int)+1]++ids.drop k++[-1]) r=0:=by unfold dQ;rw[e]
   show B _ _;rw[hB];exact fin H7 nw k67.all hnw0 mo7 ⟨qr,by rw[g0];exact nw7,by rw[hqr7,uy e]⟩
  |some t =>
   rw[e] at hz;exists hz;show A _ _;rw[hA];clear hA hB A B;obtain⟨y1,y2,y3⟩:=uN e;rw[y1] at hqr7;exists ar ia7,mM,aF hqr7;refine⟨qr,_,rfl,bq.of hqr7,AI _ _,λsl hsl=>?_⟩;rw[pK];obtain⟨k78,s8⟩:=cX hsl (.tup (ve r));have mo8:=k78.n mo7;have nw8:=k78.n nw7;have ia8:=k78.n ia7;have hqr8:=k78.n hqr7;have k68:=k67.trans k78;generalize upd H7 sl _=H8 at *;have il:(ids.take k++[(c:Int)+1]++ids.drop k).length=rs.length+1:=by rw[f6 (by lia)];lia
   exists ar mo8;refine lE (pl:=pl.take k++[nw]++pl.drop k) (ids:=ids.take k++[(c:Int)+1]++ids.drop k) mo8 (by rw[f6 (by lia)];lia) (λj a ha=>?_) (by rw[il,f6 (by lia)];lia) λD hD=>?_
   ·rcases uM (by lia) ha with ⟨rfl,rfl⟩|⟨m,em,ef⟩
    ·exact⟨_,_,oE (by lia),nw8⟩
    ·have hm:=(Ju.mp em).1;have e1:=Jr (show m<ids.length by lia)
     obtain⟨u,h1,_⟩:=(pre.md.it m a _ _ em e1 (Jr (show m<rs.length by lia))).keep (k03.trans ((k36.mono (by simp)).trans k68.all)) nt0 (pl0 a (JY em))
     exact⟨_,_,(ef ids _ (by lia)).trans e1,h1⟩
   obtain⟨u8,s9⟩:=cX hD (.lst (iV (ids.take k++[(c:Int)+1]++ids.drop k)));generalize upd H8 D _=H9 at *;refine⟨by decide,λe1 he1=>?_⟩
   obtain⟨u9,s10⟩:=cX he1 (.lst [V.int (-1)]);generalize upd H9 e1 _=H10 at *;simp only[L2.Ap.addRef,s10,u9.n s9];refine⟨JC (show _<=100 by rw[bL,il];simp;lia) (by decide),λe2 he2=>?_⟩
   rw[show iV (ids.take k++[(c:Int)+1]++ids.drop k)++[V.int (-1)]=iV (ids.take k++[(c:Int)+1]++ids.drop k++[-1]) from (fM _ [-1]).symm];obtain⟨u10,s11⟩:=cX he2 (.lst (iV (ids.take k++[(c:Int)+1]++ids.drop k++[-1])));generalize upd H10 e2 _=H11 at *;have k811:=u8.trans (u9.trans u10);have ht:=dw hro e;exists aF (k811.n hqr8),kM;have el:t<(ids.take k++[(c:Int)+1]++ids.drop k++[-1]).length:=by rw[Jv,il,LD];lia
   have eg:bI (iV (ids.take k++[(c:Int)+1]++ids.drop k++[-1])) (t:Int)=some (.int (dQ (ids.take k++[(c:Int)+1]++ids.drop k++[-1]) r)):=by
    unfold dQ;rw[e];refine aU ?_;unfold iV;rw[List.getElem?_map,List.getElem?_eq_getElem el];dsimp only;rw[getD_mem el];rfl
   exists ar s11,eg;refine⟨by decide,λn2 hn2=>?_⟩
   have mo11:=k811.n mo8;have n2m:n2≠mo:=λz=>by rw[z,mo11] at hn2;cases hn2
   rw[ak n2m.symm,mo11];have lp:((pl.take k++[nw]++pl.drop k).map V.ref).length=rs.length+1:=by rw[Jt,f6 (by lia)];lia
   simp only[ke (show (0:Int)<=(k:Nat) by lia) (show ((k:Nat):Int)<((pl.take k++[nw]++pl.drop k).map V.ref).length by lia),JW]
   rw[<- LP,AZ (by lia)]
   have k611:=k68.trans k811;have n20:H n2=none:=fr (k36.trans (k611.mono (by simp))) (by rw[k611.n ia6];simp) (by rw[mo11];simp) hn2
   refine fin _ n2 (k611.all.trans ((KB.new hn2).all.trans (KB.set (ex:=[mo]) (by simp)))) n20 aa ⟨sl,by rw[ak n2m];exact aa,?_⟩
   have s811:=k811.n s8;rw[ak (λz=>by rw[z,mo11] at s811;cases s811),ak (af s811 hn2)]
   exact s811
def lY.take{rs:List Row}{p:Nat}{c:Int}(h:lY H mo pl ids rs)(m:Md ids rs)(hp:p<rs.length)(hc:ids[p]?=some c)(hd:(ids++[-1])[p+1]?=some d)(hm:H' mo=some (.lst ((pl.eraseIdx p).map V.ref)))
  (it:∀(j:Nat) (a:Addr) (i:Int) (r:Row),(pl.eraseIdx p)[j]?=some a->(ids.eraseIdx p)[j]?=some i->(rs.eraseIdx p)[j]?=some r->t5 H' a i (if dQ (ids++[-1]) r=c then d else dQ (ids++[-1]) r) r):lY H' mo (pl.eraseIdx p) (ids.eraseIdx p) (oU p rs):=by
 have l1:=h.len;have l2:=m.len;refine⟨hm,by rw[Lh (by lia),jN hp,l1],h.nd.sublist ((Li ..).cons_cons mo),λj a i r e1 e2 e3=>?_⟩
 unfold oU at e3;rw[<- KP,J6] at e3;obtain⟨r0,e0,rfl⟩:=JS.mp e3;obtain⟨u,x1,x2⟩:=it j a i r0 e1 e2 e0;have hr0:r0∈rs:=(Li ..).subset (JY e0);have y:=AY m.nd m.HU (by rw[JX (by lia)];exact hc) hd λt e=>m.H_ hr0 e
 rw[List.eraseIdx_append_of_lt_length (by lia)] at y
 exact⟨u,by rw[y.1];exact x1,by rw[y.2];exact x2⟩
def w4(f:α->β)(l:List α)(i:Nat):(l.map f).eraseIdx i=(l.eraseIdx i).map f:=by
 rw[KP,KP,JN,Mo,MH]
def rX{l:List Addr}(nd:l.Nodup)(hi:l[i]?=some a)(hj:l[j]?=some a):i=j:=by
 obtain⟨h1,e1⟩:=Ju.mp hi;obtain⟨h2,e2⟩:=Ju.mp hj;rw[<- nd.idxOf_getElem i h1,e1,<- e2,nd.idxOf_getElem]
def tE(C:Addr):Sp:=λvs H Q _=>∃p dq x dx b bk mo ia pl ids rs n c,vs=[.ref p,.ref x,.ref mo]/\rj C H p dq x dx b bk mo ia pl ids rs n c/\1<=rs.length/\rs.length<=60/\wA C H p dq x dx b bk mo ia pl n c rs.length Q
def Af{fq N:Addr}(T:Txt K mg)(F:HasFn K mg "_law_take" d5 ["deck","kept","model"])(h_law_draw:ao P w K mg base aN 2 "_law_draw" ["deck","most"] d9)(cM:j8 K C)(mm_take_out:Meth K C "take_out" fq)(bm_take_out:Binds K d_take_out ["self","place"] [])(FO_take_out:bY P w K mg base (wN P w) 4 fq d_take_out ["self","place"] (jO C N)):ao P w K mg base aN 5 "_law_take" ["deck","kept","model"] (tE C):=by
 refine F.eZ cu (λvs H Q E h=>?_) (λf cdv A outer s H vs Q E hr h=>?_)
 ·obtain⟨p,dq,x,dx,b,bk,mo,ia,pl,ids,rs,n,c,rfl,_⟩:=h;rfl
 ·obtain⟨p,dq,x,dx,b,bk,mo,ia,pl,ids,rs,n,c,rfl,pre,h1r,h60,q⟩:=h;have hu:=aI hr;refine⟨_,(Z.aq (Z.se (i:=3) cu.nd (Z.fc h_law_draw (Z.cons (Z.v 0) (Z.cons (Z.cb (Z.bO K rfl) rfl T.bG (by decide +kernel) (Z.cons (Z.v 2) Z.nil)) Z.nil))))
   (Z.aq (Z.se (i:=4) cu.nd (Z.op (Z.aE K rfl) (Z.vy (osc:=ae d5) (ON:=["deck","kept","model","at","there","told","gone","one"]) (own:=["one"]) (N:=["one","deck","kept","model","at","there","told","gone",".one"]) (az.of rfl (by decide +kernel)) (Z.any K rfl (Z.v 2)) (λnd _ _ _ _=>(Z.aH (i:=0) nd rfl (by right))) (λ_ _ _ _=>Z.pe) (λ_ _ _ _=>(Z.ix (Z.aA K rfl hu) (Z.v 0) Z.int))) (Z.lst (Z.cons (Z.un bM Z.int) Z.nil))))
   (Z.aq (Z.se (i:=5) cu.nd (Z.h9 K rfl (Z.v 1) cM mm_take_out FO_take_out bm_take_out (Z.cons (Z.v 3) Z.nil)))
   (Z.aq (Z.se (i:=6) cu.nd (Z.bm K rfl PySem.F.plainAttrs_list PySem.F.slot_list_pop PySem.F.type_list_pop pj (Z.v 2) (Z.cons (Z.v 3) Z.nil)))
   (Z.aq (Z.fh JZ rfl (Z.any K rfl (Z.v 2)) (Z.aH (i:=7) cu.nd rfl (by right)) (Z.ax (Z.cZ (Z.aR aW (Z.ix (Z.aA K rfl hu) (Z.v 7) Z.int) (Z.ix (Z.aA K rfl hu) (Z.v 6) Z.int)) (Z.ax (Z.asg (Z.ix (Z.aA K rfl hu) (Z.v 4) (Z.op (Z.aE K rfl) (Z.v 3) Z.int)) (Z.mx (Z.v 7) Z.int))) Z.b9)))
   (Z.ax (Z.ret (Z.cmp fE (Z.v 5) Z.aL)))))))),?_⟩
  have l1:=pre.md.len;have l2:=pre.mm.len;have hn:=pre.hn;have nmo:=(pre.sep mo J7).1;refine au λN hN=>?_;exists ar pre.md.at',Jt,l1;refine⟨p,dq,_,n,rfl,pre.deck,by lia,by lia,by lia,λk H1 hk D1 k1=>?_⟩
  subst hN;have md1:=pre.md.keep k1 pre.deck.nt λa ha=>(pre.sep a ha).1;have ks1:=pre.ks.deck pre.deck k1;refine au λN hN=>?_;exists ar md1.at';refine lE (pl:=pl) (ids:=ids) md1.at' (by lia) (λj a ha=>?_) (by lia) λD hD=>?_
  ·have hj:=(Ju.mp ha).1;have e1:=Jr (show j<ids.length by lia)
   obtain⟨u,h1,_⟩:=md1.it j a _ _ ha e1 (Jr (show j<rs.length by lia))
   exact⟨_,_,e1,h1⟩
  obtain⟨u2,s2⟩:=cX hD (.lst (iV ids));generalize upd H1 D _=H2 at *;refine⟨by decide,λe1 he1=>?_⟩
  obtain⟨u3,s3⟩:=cX he1 (.lst [V.int (-1)]);generalize upd H2 e1 _=H3 at *;simp only[L2.Ap.addRef,s3,u3.n s2];refine⟨JC (show _<=100 by rw[bL];simp;lia) (by decide),λth hth=>?_⟩
  rw[show iV ids++[V.int (-1)]=iV (ids++[-1]) from (fM ids [-1]).symm];obtain⟨u4,s4⟩:=cX hth (.lst (iV (ids++[-1])));generalize upd H3 th _=H4 at *;have k14:=u2.trans (u3.trans u4);have th1:H1 th=none:=(u2.trans u3).free (by simp) hth
  rw[hN];clear hN N u2 u3 u4 s2 s3;have md4:=md1.kb k14;have ks4:=ks1.kb k14;have D4:=D1.kb k14;obtain⟨rx,ox4,_⟩:=ks4.ex;refine au λN hN=>?_;nofun;refine⟨x,dx,_,rfl,ox4,rfl,x,dx,b,bk,rs,ks4,by lia,.inl ⟨k,rfl,by lia,λH5 ks5 k5=>?_⟩⟩
  subst hN;have nx:∀a∈mo::pl,a≠x:=λa ha z=>by
   obtain⟨xs,e⟩:=md4.lst pre.mm a ha;rw[z,ox4] at e;cases e
  have md5:=md4.keep k5 ks4.nt λa ha=>by simpa using nx a ha
  have th5:=k5 _ _ s4 (by simpa using λz=>by rw[z,ox4] at s4;cases s4)
  have D5:=ks4.dk D4 k5;have hpl:k<pl.length:=by lia
  refine au λN hN=>?_;nofun;refine⟨.inl ⟨rfl,_,bg.of md5.at'⟩,mo,_,k,k,.ref pl[k],rfl,rfl,md5.at',by lia,by lia,?_,?_,?_⟩
  ·rw[Jt];unfold seqIndex?;simp;lia
  ·rw[J6,Jr hpl];rfl
  subst hN;rw[w4];have mo6:upd H5 mo (.lst ((pl.eraseIdx k).map V.ref)) mo=some (.lst ((pl.eraseIdx k).map V.ref)):=aa;have k56:KB [mo] H5 (upd H5 mo (.lst ((pl.eraseIdx k).map V.ref))):=KB.set (by simp)
  generalize upd H5 mo (.lst ((pl.eraseIdx k).map V.ref))=H6 at *;have mnd:=Ky.mp pre.md.nd;have ox0:∃fs,H x=some (.ins C dx fs):=by obtain⟨_,e,_⟩:=pre.ks.ex;exact⟨_,e⟩
  have iax:ia≠x:=λz=>by
   obtain⟨_,e⟩:=ox0;have:=pre.at';rw[z,e] at this;cases this
  have nt0:NT [p,dq,x,mo] H:=λu hu xs e=>by
   simp only[Jw,JO,Kn] at hu;rcases hu with rfl|rfl|rfl|rfl
   ·exact pre.deck.nt _ (by simp) _ e
   ·exact pre.deck.nt _ (by simp) _ e
   ·obtain⟨_,e'⟩:=ox0;rw[e'] at e;cases e
   ·rw[pre.md.at'] at e;cases e
  have k06:KB [p,dq,x,mo] H H6:=(k1.mono (by simp)).trans (k14.all.trans ((k5.mono (by simp)).trans (k56.mono (by simp))))
  have pl0:∀a∈pl,a∉[p,dq,x,mo]:=λa ha=>by
   have h1:=pre.sep a (Jx _ ha);have h2:=nx a (Jx _ ha);have h3:a≠mo:=λz=>mnd.1 (z ▸ ha);simp only[Jw,JO,Kn,M4] at h1 ⊢;exact⟨h1.1.1,h1.1.2,h2,h3⟩
  have thm:th≠mo:=λz=>by
   rw[z,md1.at'] at th1;cases th1
  have th6:=k56 _ _ th5 (by simpa using thm)
  have ekp:=Jr hpl;have eki:=Jr (show k<ids.length by lia)
  obtain⟨ug,og,_⟩:=(pre.md.it k _ _ _ ekp eki (Jr (show k<rs.length by lia))).keep k06 nt0 (pl0 _ (JM hpl))
  generalize hpk:pl[k]=pk at *;generalize ids[k]=cc at *;obtain⟨d,ed⟩:∃d,(ids++[-1])[k+1]?=some d:=⟨_,Jr (by rw[Jv,LD];lia)⟩
  have ath:bI (iV (ids++[-1])) ((k:Int)+1)=some (.int d):=by
   rw[show (k:Int)+1=((k+1:Nat):Int) from rfl];refine aU ?_;unfold iV;rw[J6,ed];rfl
  have sub:∀a∈pl.eraseIdx k,a∈pl:=λa ha=>(Li ..).subset ha;have nd':(pl.eraseIdx k).Nodup:=mnd.2.sublist (Li ..);have npk:pk∉pl.eraseIdx k:=λz=>by
   obtain⟨m,hm⟩:=List.getElem?_of_mem z;rw[Oh] at hm
   split at hm
   ·have:=rX mnd.2 hm ekp;lia
   ·have:=rX mnd.2 hm ekp;lia
  have it6:∀(j:Nat) (a:Addr) (i:Int) (r:Row),(pl.eraseIdx k)[j]?=some a->(ids.eraseIdx k)[j]?=some i->(rs.eraseIdx k)[j]?=some r->t5 H6 a i (dQ (ids++[-1]) r) r:=λj a i r e1 e2 e3=>by
   refine t5.keep ?_ k06 nt0 (pl0 a (sub a (JY e1)));rw[Oh] at e1 e2 e3;by_cases c:j<k
   ·rw[JA c] at e1 e2 e3;exact pre.md.it j a i r e1 e2 e3
   ·rw[Jy c] at e1 e2 e3;exact pre.md.it _ a i r e1 e2 e3
  have tu6:NT (pl.eraseIdx k) H6:=λa ha vs e=>by
   obtain⟨xs,e'⟩:=pre.md.lst pre.mm a (Jx _ (sub a ha));rw[k06 _ _ e' (pl0 a (sub a ha))] at e;cases e
  have thp:th∉pl.eraseIdx k:=λz=>by
   obtain⟨xs,e⟩:=md1.lst pre.mm th (Jx _ (sub _ z));rw[th1] at e;cases e
  have mop:mo∉pl.eraseIdx k:=λz=>mnd.1 (sub _ z);have le':(pl.eraseIdx k).length=(rs.eraseIdx k).length/\(ids.eraseIdx k).length=(rs.eraseIdx k).length:=by
   rw[Lh (by lia),Lh (by lia),Lh (by lia)];lia
  refine au λN hN=>?_;exists ar mo6;refine dN (xs:=(pl.eraseIdx k).map V.ref) (λi σ G=>∃o8:Option V,σ=[some (.ref p),some (.ref x),some (.ref mo),some (.int (k:Nat)),some (.ref th),some .aL,some (.ref pk),o8]/\KB (pl.eraseIdx k) H6 G/\∀(j:Nat) (a:Addr) (i0:Int) (r:Row),(pl.eraseIdx k)[j]?=some a->(ids.eraseIdx k)[j]?=some i0->(rs.eraseIdx k)[j]?=some r->t5 G a i0 (if j<i then if dQ (ids++[-1]) r=cc then d else dQ (ids++[-1]) r else dQ (ids++[-1]) r) r) ⟨none,rfl,KB.refl _ _,λj a i0 r e1 e2 e3=>by rw[Jy (Ln _)];exact it6 j a i0 r e1 e2 e3⟩ (λi σ G _ h=>by obtain⟨_,_,kk,_⟩:=h;exact bg.of (kk _ _ mo6 mop)) ?_ ?_
  ·rintro i y σ G ey ⟨o8,rfl,kk,it⟩;obtain⟨a,ea,rfl⟩:∃a,(pl.eraseIdx k)[i]?=some a/\y=.ref a:=by
    rw[J6] at ey;obtain⟨a,e,rfl⟩:=JS.mp ey;exact⟨a,e,rfl⟩
   have hlt:=(Ju.mp ea).1;have er:=Jr (show i<(rs.eraseIdx k).length by lia)
   have ei:=Jr (show i<(ids.eraseIdx k).length by lia)
   obtain⟨u,h1,h2⟩:=it i a _ _ ea ei er;rw[Jy (La _)] at h1;generalize (rs.eraseIdx k)[i]=r at *;generalize (ids.eraseIdx k)[i]=i0 at *;have ogG:=kk _ _ og npk;have thG:=kk _ _ th6 thp;have go:∀G':Hp,(∀b,b≠a->G' b=G b)->G' a=some (.lst [.int i0,.ref u,.int (if dQ (ids++[-1]) r=cc then d else dQ (ids++[-1]) r)])->KB (pl.eraseIdx k) H6 G'/\∀(j:Nat) (a:Addr) (i0:Int) (r:Row),(pl.eraseIdx k)[j]?=some a->(ids.eraseIdx k)[j]?=some i0->(rs.eraseIdx k)[j]?=some r->t5 G' a i0 (if j<i+1 then if dQ (ids++[-1]) r=cc then d else dQ (ids++[-1]) r else dQ (ids++[-1]) r) r:=λG' g1 g2=>by
    have up:∀{b:Addr} {vs:List V},G b=some (.tup vs)->G' b=some (.tup vs):=λ{b vs} e=>by
     rw[g1 b λz=>by rw[z,h1] at e;cases e];exact e
    refine⟨λb o e n=>?_,λj a' i0' r' e1 e2 e3=>?_⟩
    ·rw[g1 b λz=>n (z ▸ JY ea)];exact kk b o e n
    ·by_cases c:j=i
     ·subst c;rw[ea] at e1;rw[ei] at e2;rw[er] at e3
      cases e1;cases e2;cases e3
      rw[JA (Ly _)];exact⟨u,g2,up h2⟩
     ·obtain⟨u',x1,x2⟩:=it j a' i0' r' e1 e2 e3;have ec:(if j<i+1 then if dQ (ids++[-1]) r'=cc then d else dQ (ids++[-1]) r' else dQ (ids++[-1]) r')=if j<i then if dQ (ids++[-1]) r'=cc then d else dQ (ids++[-1]) r' else dQ (ids++[-1]) r':=by
       by_cases h:j<i
       ·rw[JA h,JA (by lia)]
       ·rw[Jy h,Jy (by lia)]
      rw[ec];exact⟨u',by rw[g1 a' λz=>c (rX nd' e1 (z ▸ ea))];exact x1,up x2⟩
   unfold aT;dsimp only;refine jS λM hM=>?_;exists ar h1,ar ogG,GL,rf;by_cases cg:dQ (ids++[-1]) r=cc
   ·exists JA cg,ar thG,ath,h1;show M _ (upd G a (.lst [.int i0,.ref u,.int d]));rw[hM];exact⟨some _,rfl,go _ (λb n=>ak n) (by rw[JA cg];exact aa)⟩
   ·exists Jy cg;rw[hM];exact⟨some _,rfl,go G (λb _=>rfl) (by rw[Jy cg];exact h1)⟩
  ·rintro σ G ⟨o8,rfl,kk,it⟩;rw[Jt] at it;show N _ _;subst hN;nofun;have k0G:KB (p::dq::x::mo::ia::pl) H G:=(k06.mono (by simp)).trans (kk.mono λb hb=>by simp[sub b hb])
   have k5G:KB (mo::pl.eraseIdx k) H5 G:=(k56.mono (by simp)).trans (kk.mono λb hb=>Jx _ hb)
   have ls5:∀a∈mo::pl.eraseIdx k,∃xs,H5 a=some (.lst xs):=λa ha=>md5.lst pre.mm a (by
    rcases Jw.mp ha with rfl|ha
    ·exact J7
    ·exact Jx _ (sub a ha))
   have nt5:NT (mo::pl.eraseIdx k) H5:=λa ha vs e=>by
    obtain⟨xs,e'⟩:=ls5 a ha;rw[e'] at e;cases e
   have sep':∀a∈mo::pl.eraseIdx k,a∈mo::pl:=λa ha=>by
    rcases Jw.mp ha with rfl|ha
    ·exact J7
    ·exact Jx _ (sub a ha)
   have pn:p∉mo::pl.eraseIdx k/\dq∉mo::pl.eraseIdx k:=⟨λz=>(pre.sep p (sep' p z)).1 (by simp),λz=>(pre.sep dq (sep' dq z)).1 (by simp)⟩
   refine q G c (pl.eraseIdx k) (ids.eraseIdx k) (oU k rs) ((D5.keep k5G pn.1 pn.2).mono (by lia)) (ks5.keep k5G nt5 (λz=>nx x (sep' x z) rfl) λz=>?_) (pre.md.take pre.mm (by lia) eki ed (kk _ _ mo6 mop) λj a i r e1 e2 e3=>?_) (pre.mm.take (by lia)) (by rw[jN (by lia)];lia) ?_ (J8 _) (by lia) (λi hi=>pre.le i ((Li ..).subset hi)) (λa ha=>.inl (sub a ha)) k0G
   ·obtain⟨xs,e⟩:=ls5 dx z;rw[ks5.od] at e;cases e
   ·have:=it j a i r e1 e2 e3
    rwa [JA (by have:=(Ju.mp e1).1;lia)] at this
   ·refine kk _ _ (k06 _ _ pre.at' ?_) λz=>(pre.sep ia (Jx _ (sub _ z))).2 rfl;have h1:=pre.di;have h2:=(pre.sep mo J7).2;simp only[Jw,JO,Kn,M4] at h1 ⊢;exact⟨h1.1,h1.2,iax,h2.symm⟩
def uw:Sp:=λvs H Q _=>∃(a:Addr) (rs:List Row),vs=[.ref a]/\jg H a rs/\rs.length<=64/\∀b H',H b=none->KB [] H H'->H' b=some (.lst ((rs.map ay).map aJ))->Q (.ref b) H'
def yY(T:Txt K mg)(F:HasFn K mg "_law_goals" dH ["program"]):ao P w K mg base aN 1 "_law_goals" ["program"] uw:=by
 refine F.eZ m4 (λvs H Q E h=>?_) (λf cdv A outer s H vs Q E hr h=>?_)
 ·obtain⟨a,rs,rfl,_⟩:=h;rfl
 ·have hu:=aI hr;obtain⟨a,rs,rfl,⟨as,ha,hp⟩,hl,q⟩:=h;have hp1:=hp.1;refine⟨_,(Z.ax (Z.ret (Z.vy (osc:=ae dH) (ON:=["program"]) (own:=["row"]) (N:=["row","program"]) (az.of rfl (by decide +kernel)) (Z.any K rfl (Z.v 0)) (λnd _ _ _ _=>(Z.aH (i:=0) nd rfl (by right))) (λ_ _ _ _=>Z.pe) (λ_ _ _ _=>(Z.FH (Z.aR (Z.Bg K rfl hu) (Z.ix (Z.aA K rfl hu) (Z.v 0) Z.int) (Z.tup (Z.consts rfl))) (Z.ix (Z.aA K rfl hu) (Z.v 0) (Z.un bM Z.int)) Z.aL))))),?_⟩
  exists aF ha;refine cm (xs:=as.map V.ref) (JC (show _<=64 by rw[Jt];lia) (by decide)) (λD i ys H'=>H D=none/\H' D=some (.lst ys)/\KB [] H H'/\ys=((rs.take i).map ay).map aJ/\i<=rs.length) (λD hD=>⟨hD,aa,KB.new hD,rfl,JJ _⟩) (λD i ys H' h=>⟨h.2.1,by rw[h.2.2.2.1,Jt,Jt,JG];have:=h.2.2.2.2;lia⟩) (λD i ys H' h=>bq.of (h.2.2.1 _ _ ha (by simp))) ?_ ?_
  ·rintro D i ys H' x R hx ⟨g0,g1,gk,rfl,hi⟩ kk;obtain⟨c,ec,rfl⟩:∃c,as[i]?=some c/\x=.ref c:=by
    rw[J6] at hx;obtain⟨c,e,rfl⟩:=JS.mp hx;exact⟨c,e,rfl⟩
   have hlt:i<rs.length:=by have:=(Ju.mp ec).1;lia
   have er:=Jr hlt;have hc:=gk.n (hp.2 i c _ ec er);have et:rs.take (i+1)=rs.take i++[rs[i]]:=by rw[Kp,er];rfl
   have fin:∀G:Hp,KB [] H' G->R (aJ (ay rs[i])) G:=λG kG=>by
    have g1':=kG.n g1;refine kk _ _ g1' ⟨g0,aa,λu o e _=>by rw[ak (af e g0)];exact kG.n (gk.n e),by rw[et,JN,JN];rfl,hlt⟩
   generalize rs[i]=r at *;have sc:=aF hc;obtain⟨z,e0,h⟩:∃z:Str,bI r.vs 0=some (.str z)/\(iL (.str z) [.str "jump",.str "zero"]=true/\bI r.vs (-1)=some (aJ (ay r))\/iL (.str z) [.str "jump",.str "zero"]=false/\aJ (ay r)=.aL):=by
    cases r with
    |jump g=>exact⟨_,rfl,.inl ⟨by decide +kernel,rfl⟩⟩
    |zero b g=>exact⟨_,rfl,.inl ⟨by decide +kernel,rfl⟩⟩
    |put b n=>exact⟨_,rfl,.inr ⟨by decide +kernel,rfl⟩⟩
    |two u b c=>exact⟨_,rfl,.inr ⟨(show ∀u,iL (.str (w2 u)) [.str "jump",.str "zero"]=false by decide +kernel) u,rfl⟩⟩
    |one u b=>exact⟨_,rfl,.inr ⟨(show ∀u,iL (.str (w1 u)) [.str "jump",.str "zero"]=false by decide +kernel) u,rfl⟩⟩
    |halt=>exact⟨_,rfl,.inr ⟨by decide +kernel,rfl⟩⟩
   exists sc,e0;refine⟨by decide,λt ht=>⟨rfl,rfl,?_⟩⟩
   have k6:=KB.new (ex:=[]) (o:=.tup [.str "jump",.str "zero"]) ht;rcases h with ⟨h1,h2⟩|⟨h1,h2⟩
   ·exists h1,aF (k6.n hc),h2;exact fin _ k6
   ·exists h1;rw[h2] at fin;exact fin _ k6
  ·rintro D ys H' ⟨g0,g1,gk,rfl,hi⟩;refine q D H' g0 gk ?_;rw[g1,Jt,hp1,Kb]
def Hh{X:Cx}{tk:Nat}{tp:Pos}{e1 e2 e3:Expr}{ta:TA}{p pos:Pos}(K:W.Frag)(hK:X.K=K)(hg:Gl X "zip")(hm:X.mg "zip"=none)(ha:QA X [e1,e2,e3] ta)(h1:autoParam (eG e1=true) ℜ0)(h2:autoParam (eG e2=true) ℜ0)(h3:autoParam (eG e3=true) ℜ0):QI X (.Tuple es tk tp) (.Call (.Name "zip" p) [e1,e2,e3] [] pos) (Ah K ta):=by
 subst hK;exact⟨Bd hg hm ha.h h1 h2 h3⟩
def xp(K:W.Frag)(ta:TA)(σ:L2.St)(H:Hp)(R:It->Hp->Prop):L2.Ah K ta σ H R=ta σ H λvs H1=>∃p q r:Bool×Addr,vs=[V.ref p.2,V.ref q.2,V.ref r.2]/\(∃xs,iK K p.1 H1 p.2 xs)/\(∃ys,iK K q.1 H1 q.2 ys)/\(∃zs,iK K r.1 H1 r.2 zs)/\∀n,R (Cz K (fu n [p,q,r])) H1:=rfl
def vc{g:TG}{tb:TS}{D:Ends}{c:Addr}{zs:List V}{n:Nat}(hxy:xs.length=ys.length)(hxz:xs.length=zs.length)(Pv:Nat->L2.St->Hp->Prop)(h0:Pv 0 σ H)(hl:∀i σ H,Pv i σ H->bg K H a xs/\bg K H b ys/\bg K H c zs)
  (hs:∀i x y z σ H p,xs[i]?=some x->ys[i]?=some y->zs[i]?=some z->Pv i σ H->H p=none->g (.ref p) σ (upd H p (.tup [x,y,z])) λσ2 H2=>tb {D with nx:=Pv (i+1),ct:=Pv (i+1),bk:=D.nx} σ2 H2) (hd:∀σ H,Pv xs.length σ H->D.nx σ H):rn (Cz K (fu n [(true,a),(true,b),(true,c)])) g tb D σ H:=by
 refine⟨λi m σ H=>m=xs.length-i/\i<=xs.length/\Pv i σ H,⟨xs.length,by simp,JJ _,h0⟩,?_⟩
 rintro i m σ H ⟨rfl,hi,p⟩;obtain⟨q1,q2,q3⟩:=hl i σ H p;have q1':iK K true H a xs:=q1;have q2':iK K true H b ys:=q2;have q3':iK K true H c zs:=q3;by_cases hlt:i<xs.length
 ·have hl2:i<ys.length:=by lia
  have hl3:i<zs.length:=by lia
  refine .inr ⟨⟨[xs[i],ys[i],zs[i]],.cons ⟨xs,q1',by simp[hlt]⟩ (.cons ⟨ys,q2',by simp[hl2]⟩ (.cons ⟨zs,q3',by simp[hl3]⟩ .nil))⟩,Pv (i+1),λσ' H' p'=>⟨xs.length-(i+1),by lia,rfl,hlt,p'⟩,λx H' z=>?_⟩
  obtain⟨c',vs,pr,fr,rfl,rfl⟩:=z;obtain⟨v1,vs,rfl,e1,pr⟩:=Paired.fV pr;obtain⟨v2,vs,rfl,e2,pr⟩:=Paired.fV pr;obtain⟨v3,vs,rfl,e3,pr⟩:=Paired.fV pr;cases pr;exact hs i v1 v2 v3 σ H c' (e1 xs q1') (e2 ys q2') (e3 zs q3') p fr
 ·have e:i=xs.length:=by lia
  subst e;exact .inl ⟨⟨[],(true,n,a),_,[],rfl,.nil,xs,q1',rfl⟩,hd σ H p⟩
def ur{l:List Nat}(h:i<l.length):bI (iV (nZ l)) (i:Int)=some (.int ((l.getD i 0:Nat):Int)):=aU (by unfold iV nZ;rw[KI,J6,Jr h,Jz,Jr h];rfl)
def xw{l:List Nat}{v:V}(h:(iV (nZ l))[i]?=some v):∃x:Nat,l[i]?=some x/\v=.int (x:Nat):=by
 unfold iV nZ at h;rw[KI,J6] at h;obtain⟨x,e,rfl⟩:=JS.mp h;exact⟨x,e,rfl⟩
def DX{l:List (Option Nat)}{v:V}(h:(l.map aJ)[i]?=some v):∃x,l[i]?=some x/\v=aJ x:=by
 rw[J6] at h;obtain⟨x,e,rfl⟩:=JS.mp h;exact⟨x,e,rfl⟩
def oA(K:W.Frag):Sp:=λvs H Q _=>∃(a b c:Addr) (ss:List Nat) (gs:List (Option Nat)) (ws:List Nat),vs=[.ref a,.ref b,.ref c]/\H a=some (.lst (iV (nZ ss)))/\H b=some (.lst (gs.map aJ))/\H c=some (.lst (iV (nZ ws)))/\gs.length=ss.length/\ws.length=ss.length/\ss.length<=64/\(∀w∈ws,w<3)/\∀d H',H d=none->KB [] H H'->H' d=some (.lst (iV (nZ (c_ 0 ss gs ws))))->Q (.ref d) H'
def zX(T:Txt K mg)(F:HasFn K mg "_law_spots" fJ ["sizes","goals","widths"]):ao P w K mg base aN 1 "_law_spots" ["sizes","goals","widths"] (oA K):=by
 refine F.eZ cz (λvs H Q E h=>?_) (λf cdv A outer s H vs Q E hr h=>?_)
 ·obtain⟨a,b,c,ss,gs,ws,rfl,_⟩:=h;rfl
 ·have hu:=aI hr;obtain⟨a,b,c,ss,gs,ws,rfl,ha,hb,hc,h1,h2,h3,h4,q⟩:=h;have hl:=fG ss gs ws 0 h1 h2;have hat:=ic ss gs ws 0;obtain⟨l0,e0⟩:=nG 0 ss gs ws;refine⟨_,(Z.aq (Z.se (i:=3) cz.nd (Z.lst (Z.cons Z.int Z.nil)))
   (Z.aq (Z.fh JZ rfl (Hh K rfl rfl T.uO (Z.cons (Z.v 0) (Z.cons (Z.v 1) (Z.cons (Z.v 2) Z.nil)))) (Z.m8 (n:=3) K rfl rfl (Z.bw (Z.aH (i:=4) cz.nd rfl (by right)) (Z.bw (Z.aH (i:=5) cz.nd rfl (by right)) (Z.bw (Z.aH (i:=6) cz.nd rfl (by right)) Z.gr)))) (Z.ax (Z.expr (Z.app K (Z.v 3) (Z.cons (Z.op (Z.aE K rfl) (Z.op (Z.aE K rfl) (Z.ix (Z.aA K rfl hu) (Z.v 3) (Z.un bM Z.int)) (Z.v 4)) (Z.ix (Z.aA K rfl hu) (Z.lst (Z.cons Z.int (Z.cons (Z.ix (Z.aA K rfl hu) (Z.lst (Z.consts rfl)) (Z.v 6)) Z.nil))) (Z.ct mL rfl T.yh (by decide +kernel) (Z.cons (Z.cmp eQ (Z.v 5) Z.aL) Z.nil)))) Z.nil)))))
   (Z.ax (Z.ret (Z.v 3))))),?_⟩
  generalize mq:c_ 0 ss gs ws=sp at *;refine au λN hN=>?_;nofun;refine⟨by decide,λfd hfd=>?_⟩
  have k1:=KB.new (ex:=[]) (o:=.lst [.int 0]) hfd;have s1:upd H fd (.lst [.int 0]) fd=some (.lst (iV (nZ (sp.take 1)))):=by rw[aa,e0];rfl
  generalize upd H fd (.lst [.int 0])=H1 at *;subst hN;refine au λN hN=>?_;exists xp;have ha1:=k1.n ha;have hb1:=k1.n hb;have hc1:=k1.n hc;refine⟨(true,a),(true,b),(true,c),⟨rfl,rfl,rfl⟩,⟨_,bg.of ha1⟩,⟨_,bg.of hb1⟩,⟨_,bg.of hc1⟩,λn=>?_⟩;refine vc (xs:=iV (nZ ss)) (ys:=gs.map aJ) (zs:=iV (nZ ws)) (by rw[bK,Jt,h1]) (by rw[bK,bK,h2]) (λi σ H'=>∃o4 o5 o6:Option V,i<=ss.length/\KB [] H H'/\H' fd=some (.lst (iV (nZ (sp.take (i+1)))))/\σ=[some (.ref a),some (.ref b),some (.ref c),some (.ref fd),o4,o5,o6]) ⟨none,none,none,JJ _,k1,s1,rfl⟩ (λi σ H' ⟨_,_,_,_,k,_⟩=>⟨bg.of (k.n ha),bg.of (k.n hb),bg.of (k.n hc)⟩) ?_ ?_
  ·rintro i x y z σ H' p hx hy hz ⟨o4,o5,o6,hi,hk,gf,rfl⟩ hp;obtain⟨s0,es,rfl⟩:=xw hx;obtain⟨g,eg,rfl⟩:=DX hy;obtain⟨w0,ew,rfl⟩:=xw hz;have hlt:i<ss.length:=(Ju.mp es).1;have lw:=h4 _ (JY ew);have en:=hat i s0 g w0 es eg ew;unfold aT;refine⟨p,_,rfl,bq.of aa,rfl,_,_,rfl,_,_,rfl,_,_,rfl,rfl,?_⟩;have k2:=hk.trans (KB.new (o:=.tup [.int (s0:Nat),aJ g,.int (w0:Nat)]) hp);have gf2:upd H' p (.tup [.int (s0:Nat),aJ g,.int (w0:Nat)]) fd=some (.lst (iV (nZ (sp.take (i+1))))):=by rw[ak (af gf hp)];exact gf
   generalize upd H' p (.tup [.int (s0:Nat),aJ g,.int (w0:Nat)])=H2 at *;have et:sp.take (i+1+1)=sp.take (i+1)++[sp.getD (i+1) 0]:=by
    rw[Kp,Jz,Jr (show i+1<sp.length by lia)];rfl
   have lst:bI (iV (nZ (sp.take (i+1)))) (-1)=some (.int ((sp.getD i 0:Nat):Int)):=by
    have hi2:(sp.take (i+1)).length=i+1:=by rw[JG];lia
    unfold bI iY;rw[Jy (by decide),JA (by rw[bK,hi2];lia),bK,hi2,show -1+((i+1:Nat):Int)=(i:Int) by lia]
    show (iV (nZ (sp.take (i+1))))[((i:Nat):Int).toNat]?=_;rw[JW];unfold iV nZ;rw[KI,J6,LM (Ly i),Jr (show i<sp.length by lia),Jz,Jr (show i<sp.length by lia)];rfl
   dsimp only;refine jS λM hM=>?_;exists ar gf2,lst;have a1:bI [V.int 5,.int 10,.int 18] (w0:Int)=some (.int ((BD w0:Nat):Int)):=by rcases mD lw with rfl|rfl|rfl<;>rfl
   refine⟨.inl ⟨rfl,_,bg.of gf2⟩,by decide,λp1 hp1=>?_⟩
   rw[a1];refine⟨by decide,λp2 hp2=>?_⟩
   have a2:bI [V.int 0,.int ((BD w0:Nat):Int)] (if ¬ aJ g=V.aL then 1 else 0)=some (.int ((addW g w0:Nat):Int)):=by cases g<;>rfl
   rw[a2];have k3:=(KB.new (ex:=[]) (o:=.lst [.int 5,.int 10,.int 18]) hp1).trans (KB.new (o:=.lst [.int 0,.int ((BD w0:Nat):Int)]) hp2);generalize upd (upd H2 p1 _) p2 _=H3 at *;have gf3:=k3.n gf2;nofun;refine⟨fd,_,_,rfl,rfl,gf3,Kv (show _<=1000 by rw[bK,JG];lia) (by decide),?_⟩
   rw[hM];refine⟨_,_,_,hlt,λu o e _=>by rw[ak (af e hfd)];exact k3.n (k2.n e),?_,rfl⟩
   rw[aa,et,en];unfold nZ;rw[JN,fM];rfl
  ·rintro σ H' ⟨o4,o5,o6,hi,hk,gf,rfl⟩;show N _ _;subst hN;nofun;rw[Kw (by rw[hl,bK];exact J8 _)] at gf
   exact q fd H' hfd hk gf
def t8(K:W.Frag):Sp:=λvs H Q _=>∃(a b c:Addr) (ss:List Nat) (gs:List (Option Nat)) (ws:List Nat),vs=[.ref a,.ref b,.ref c]/\H a=some (.lst (iV (nZ ss)))/\H b=some (.lst (gs.map aJ))/\H c=some (.lst (iV (nZ ws)))/\gs.length=ss.length/\ws.length=ss.length/\ss.length<=64/\(∀t,some t∈gs->t<=ss.length)/\(∀w∈ws,w<3)/\∀d H',H d=none->KB [] H H'->H' d=some (.lst (iV (nZ (i_ ss gs ws))))->Q (.ref d) H'
def Fd(l:List Nat)(i v:Nat):(iV (nZ l)).set i (.int (v:Int))=iV (nZ (l.set i v)):=by
 unfold iV nZ;rw[LP,LP]
def xa(T:Txt K mg)(F:HasFn K mg "_law_least" fI ["sizes","goals","widths"])(h_law_spots:ao P w K mg base aN 1 "_law_spots" ["sizes","goals","widths"] (oA K)):ao P w K mg base aN 2 "_law_least" ["sizes","goals","widths"] (t8 K):=by
 refine F.eZ bF (λvs H Q E h=>?_) (λf cdv A outer s H vs Q E hr h=>?_)
 ·obtain⟨a,b,c,ss,gs,ws,rfl,_⟩:=h;rfl
 ·have hu:=aI hr;obtain⟨a,b,c,ss,gs,ws,rfl,ha,hb,hc,h1,h2,h3,h5,h6,q⟩:=h;refine⟨_,(Z.aq (Z.se (i:=2) bF.nd (Z.ct (Z.Dj K rfl) rfl T.xJ (by decide +kernel) (Z.cons (Z.v 2) Z.nil)))
   (Z.aq (Z.fh JZ rfl (Z.oW rfl T.dz (Z.cons (Z.op (Z.aE K rfl) (Z.op cF Z.int (Z.cb (Z.bO K rfl) rfl T.bG (by decide +kernel) (Z.cons (Z.v 0) Z.nil))) Z.int) Z.nil)) (Z.aH (i:=3) bF.nd rfl (by right)) (Z.aq (Z.se (i:=4) bF.nd (Z.fc h_law_spots (Z.cons (Z.v 0) (Z.cons (Z.v 1) (Z.cons (Z.v 2) Z.nil)))))
   (Z.ax (Z.fh JZ rfl (Z.oW rfl T.dz (Z.cons (Z.cb (Z.bO K rfl) rfl T.bG (by decide +kernel) (Z.cons (Z.v 0) Z.nil)) Z.nil)) (Z.aH (i:=5) bF.nd rfl (by right)) (Z.ax (Z.cZ (Z.aR eQ (Z.ix (Z.aA K rfl hu) (Z.v 1) (Z.v 5)) Z.aL) (Z.aq (Z.se (i:=6) bF.nd (Z.ix (Z.aA K rfl hu) (Z.lst (Z.consts rfl)) (Z.ix (Z.aA K rfl hu) (Z.v 2) (Z.v 5))))
   (Z.aq (Z.se (i:=7) bF.nd (Z.op cw (Z.ix (Z.aA K rfl hu) (Z.v 4) (Z.ix (Z.aA K rfl hu) (Z.v 1) (Z.v 5))) (Z.ix (Z.aA K rfl hu) (Z.v 4) (Z.op (Z.aE K rfl) (Z.v 5) Z.int))))
   (Z.ax (Z.cZ (Z.je (Z.EF (CT) (fW) (Z.op cw Z.int (Z.v 6)) (Z.v 7) (Z.v 6))) (Z.ax (Z.asg (Z.cb (iX rfl) rfl T.As (by decide +kernel) (Z.cons (Z.op (Z.aE K rfl) (Z.ix (Z.aA K rfl hu) (Z.v 2) (Z.v 5)) Z.int) (Z.cons Z.int Z.nil))) (Z.mx (Z.v 2) (Z.v 5)))) Z.b9)))) Z.b9))))))
   (Z.ax (Z.ret (Z.v 2))))),?_⟩
  refine au λN hN=>?_;nofun;refine⟨c,_,rfl,.inl (bg.of hc),λd hd=>?_⟩;obtain⟨k1,s1⟩:=cX hd (.lst (iV (nZ ws)));generalize upd H d _=H1 at *;subst hN;refine au λN hN=>?_;have ha1:=k1.n ha;exists ar ha1,bK;refine⟨.inl ⟨by decide,by decide⟩,by lia,by lia,?_⟩
  rw[show (2*(ss.length:Int)+1).toNat=2*ss.length+1 by lia]
  refine bR (λm σ H'=>∃o3 o4 o5 o6 o7:Option V,KB [] H H'/\H' d=some (.lst (iV (nZ (b6 ss gs ws m))))/\σ=[some (.ref a),some (.ref b),some (.ref d),o3,o4,o5,o6,o7]) ⟨none,none,none,none,none,k1,s1,rfl⟩ ?_ ?_
  ·rintro m σ H' hm ⟨o3,o4,o5,o6,o7,hk,gd,rfl⟩;generalize (0:Int)+((m:Nat):Int)=kI;have wl:=f7 ss gs ws m;have wt:=gH (ss:=ss) (gs:=gs) h6 m;rw[h2] at wl;unfold aT;have en:b6 ss gs ws (m+1)=eM (c_ 0 ss gs (b6 ss gs ws m)) 0 gs (b6 ss gs ws m):=rfl;generalize b6 ss gs ws m=wm at *;refine au λM hM=>?_;nofun;refine⟨a,b,d,ss,gs,wm,rfl,hk.n ha,hk.n hb,gd,h1,wl,h3,wt,λsd H2 hsd k2 g2=>?_⟩;subst hM;have sl:=fG ss gs wm 0 h1 wl;generalize c_ 0 ss gs wm=sp at *;have dsd:sd≠d:=λz=>by rw[z,gd] at hsd;cases hsd
   have hk2:=hk.trans k2;have gd2:=k2.n gd;have ha2:=hk2.n ha;dsimp only;refine jS λM hM=>?_;exists ar ha2,bK;refine⟨by lia,by lia,?_⟩
   rw[JW];have hsdH:H sd=none:=hk.free (by simp) hsd
   refine bR (λi σ G=>∃o5 o6 o7:Option V,KB [] H G/\G sd=some (.lst (iV (nZ sp)))/\G d=some (.lst (iV (nZ (fN sp gs wm i))))/\σ=[some (.ref a),some (.ref b),some (.ref d),some (.int kI),some (.ref sd),o5,o6,o7]) ⟨o5,o6,o7,hk2,g2,gd2,rfl⟩ ?_ ?_
   ·rintro i σ G hi ⟨o5,o6,o7,hkG,gs3,gd3,rfl⟩;rw[show (0:Int)+((i:Nat):Int)=(i:Int) from Int.zero_add _];have eg:=Jr (show i<gs.length by lia)
    have ew:=Jr (show i<wm.length by lia)
    have lw:=wt _ (JM (show i<wm.length by lia))
    have gm:=JM (show i<gs.length by lia)
    generalize gs[i]'_=g at eg gm;generalize wm[i]'_=w0 at ew lw;have hbG:=ar (hkG.n hb);have ag:bI (gs.map aJ) (i:Int)=some (aJ g):=aU (by rw[J6,eg];rfl)
    have aw:bI (iV (nZ (fN sp gs wm i))) (i:Int)=some (.int (w0:Nat)):=aU (by unfold iV nZ;rw[KI,J6,yA ew];rfl)
    dsimp only;refine jS λM2 hM2=>?_;have yv:∀(G':Hp) (o6 o7:Option V),KB [] H G'->G' sd=some (.lst (iV (nZ sp)))->G' d=some (.lst (iV (nZ (fN sp gs wm (i+1)))))->M2 [some (.ref a),some (.ref b),some (.ref d),some (.int kI),some (.ref sd),some (.int (i:Int)),o6,o7] G':=λG' o6 o7 g1 g2 g3=>by rw[hM2];exact⟨_,o6,o7,g1,g2,g3,rfl⟩
    refine gc λA B hA hB=>?_;exists hbG,ag
    cases g with
    |none =>
     rw[Jy (show ¬ ¬ aJ none=V.aL from λz=>z rfl),hB];rw[<- qM (sp:=sp) eg ew rfl] at gd3;exact yv G _ _ hkG gs3 gd3
    |some t =>
     have ht:t<=ss.length:=h5 t gm;have as1:=ur (l:=sp) (i:=t) (by lia)
     have as2:bI (iV (nZ sp)) ((i:Int)+1)=some (.int ((sp.getD (i+1) 0:Nat):Int)):=ur (l:=sp) (i:=i+1) (by lia)
     rw[JA (show ¬ aJ (some t)=V.aL from λz=>nomatch z),hA];clear hA hB;have ah:bI [V.int 8,.int 128,.int 32768] (w0:Int)=some (.int (dF w0)):=by rcases mD lw with rfl|rfl|rfl<;>rfl
     refine au λM3 hM3=>?_;nofun;refine⟨by decide,λl hl=>?_⟩
     obtain⟨k4,s4⟩:=cX hl (.lst [.int 8,.int 128,.int 32768]);have gd4:=k4.n gd3;exists ar gd4,aw,ar s4,ah;clear s4;have gs4:=k4.n gs3;have hkG4:=hkG.trans k4;generalize upd G l _=G4 at *;rw[hM3];clear hM3 M3;refine au λM3 hM3=>?_;have hbG4:=ar (hkG4.n hb);have ag':bI (gs.map aJ) (i:Int)=some (.int (t:Nat)):=ag;exists hbG4,ag',ar gs4,as1,as2;rw[hM3];clear hM3 M3;have bad:jn w0 (bZ sp t i)=false->M2 [some (.ref a),some (.ref b),some (.ref d),some (.int kI),some (.ref sd),some (.int (i:Int)),some (.int (dF w0)),some (.int (((sp.getD t 0:Nat):Int)-((sp.getD (i+1) 0:Nat):Int)))] (upd G4 d (.lst ((iV (nZ (fN sp gs wm i))).set i (.int (if 2<(w0:Int)+1 then 2 else (w0:Int)+1))))):=λc=>by
      have e3:fN sp gs wm (i+1)=(fN sp gs wm i).set i (min (w0+1) 2):=by
       rw[qg eg ew];show (fN sp gs wm i).set i (if jn w0 (bZ sp t i)=true then w0 else min (w0+1) 2)=_
       rw[c,Jy (by decide)]
      refine yv _ _ _ (λu o e _=>by rw[ak (af e hd)];exact hkG4.n e) (by rw[ak dsd];exact gs4) ?_
      rw[aa,show (if 2<(w0:Int)+1 then 2 else (w0:Int)+1)=((min (w0+1) 2:Nat):Int) by split<;>lia,Fd,<- e3]
     exists ar gd4,aw;have ex:iY (iV (nZ (fN sp gs wm i))).length (i:Int)=some i:=by
      rw[bK,B7];unfold iY;rw[JA (by lia),JA (by lia),JW]
     rw[gd4];simp only[ex];by_cases c1:0-dF w0<=((sp.getD t 0:Nat):Int)-((sp.getD (i+1) 0:Nat):Int)
     ·rw[JA c1];by_cases c2:((sp.getD t 0:Nat):Int)-((sp.getD (i+1) 0:Nat):Int)<dF w0
      ·rw[Jy (λz=>z c2)];rw[<- qM (sp:=sp) eg ew (by
        show (if jn w0 (bZ sp t i)=true then w0 else min (w0+1) 2)=w0
        rw[JA];unfold jn bZ;rw[Kl (by lia),Kl c2];rfl)] at gd4
       exact yv _ _ _ hkG4 gs4 gd4
      ·rw[JA c2];refine bad ?_;unfold jn bZ;rw[JV c2,Bool.and_false]
     ·rw[Jy c1];refine bad ?_;unfold jn bZ;rw[JV (by lia),Oi]
   ·rintro σ G ⟨o5,o6,o7,hkG,gs3,gd3,rfl⟩;show M _ _;rw[hM];rw[<- wl,AH] at gd3;exact⟨_,_,o5,o6,o7,hkG,by rw[en];exact gd3,rfl⟩
  ·rintro σ H' ⟨o3,o4,o5,o6,o7,hk,gd,rfl⟩;show N _ _;subst hN;nofun;exact q d H' hd hk gd
def u7:Sp:=λvs H Q _=>vs=[]/\∀l,H l=none->Q (.ref l) (upd H l (.lst (df.map V.str)))
def wq(F:HasFn K mg "_law_words" fP []):ao P w K mg base aN 1 "_law_words" [] u7:=by
 refine F.eZ mB (λvs H Q E h=>?_) (λf cdv A outer s H vs Q E hr h=>?_)
 ·obtain⟨rfl,_⟩:=h;rfl
 ·obtain⟨rfl,q⟩:=h;refine⟨_,(Z.ax (Z.ret (Z.lst (Z.consts rfl)))),?_⟩;nofun;exact⟨by decide,λp hp=>q p hp⟩
def jU:Sp:=λvs H Q _=>∃(n:Int) (k:Nat),vs=[.int n,.int (k:Nat)]/\k<=40/\Q (.str (wd (bP n k []))) H
def zZ(T:Txt K mg)(F:HasFn K mg "_law_bits" gy ["number","many"]):ao P w K mg base aN 1 "_law_bits" ["number","many"] jU:=by
 refine F.eZ cR (λvs H Q E h=>?_) (λf cdv A outer s H vs Q E hr h=>?_)
 ·obtain⟨n,k,rfl,_⟩:=h;rfl
 ·have hu:=aI hr;obtain⟨n,k,rfl,hk,q⟩:=h;refine⟨_,(Z.aq (Z.se (i:=2) cR.nd Z.str)
   (Z.aq (Z.fh JZ rfl (Z.oW rfl T.dz (Z.cons (Z.v 1) Z.nil)) (Z.aH (i:=3) cR.nd rfl (by right)) (Z.aq (Z.se (i:=2) cR.nd (Z.op (Z.aE K rfl) (Z.ix (Z.aA K rfl hu) Z.str (Z.op dA (Z.v 0) Z.int)) (Z.v 2)))
   (Z.ax (Z.se (i:=0) cR.nd (Z.op jP (Z.v 0) Z.int)))))
   (Z.ax (Z.ret (Z.v 2))))),?_⟩
  refine au λN hN=>?_;nofun;subst hN;refine au λN hN=>?_;nofun;refine⟨by lia,by lia,?_⟩
  rw[JW];refine bR (λi σ H'=>∃(m:Int) (acc:List Nat) (o:Option V),H'=H/\i<=k/\bP m (k-i) acc=bP n k []/\acc.length=i/\σ=[some (.int m),some (.int (k:Nat)),some (.str (wd acc)),o]) ⟨n,[],none,rfl,JJ _,rfl,rfl,by rw[kZ]⟩ ?_ ?_
  ·rintro i σ H' hi ⟨m,acc,o,rfl,_,e,hl,rfl⟩;unfold aT;refine au λM hM=>?_;exists Gh;refine⟨by decide,by decide +kernel,?_⟩
   rw[show (⟨#[dg m]⟩:Str)=wd [dg m] from rfl,bu,bu,dE];refine⟨JC (show _<=50 by simp;lia) (by decide),?_⟩
   subst hM;refine jS λM hM=>?_;nofun;refine⟨⟨by decide,by decide⟩,?_⟩
   rw[hM];refine⟨m / 2,dg m::acc,some _,rfl,hi,?_,by rw[JE,hl],rfl⟩
   rw[<- e,show k-i=(k-(i+1))+1 by lia]
   rfl
  ·rintro σ H' ⟨m,acc,o,rfl,_,e,_,rfl⟩;rw[KG] at e;show N _ _;subst hN;nofun;rw[<- e] at q;exact q
def Ar{n:Nat}(h:n<3):bI [V.str (Str.ofString "0"),.str (Str.ofString "10"),.str (Str.ofString "11")] (n:Int)=some (.str (wd (eA n))):=by
 rcases mD h with rfl|rfl|rfl
 ·exact Km (λz=>some (V.str z)) (by decide +kernel)
 ·exact Km (λz=>some (V.str z)) (by decide +kernel)
 ·exact Km (λz=>some (V.str z)) (by decide +kernel)
def IX(H:Hp)(ca:Addr)(cd:List (List (List Nat))):Prop:=∃a0 a1 a2,H ca=some (.lst [.ref a0,.ref a1,.ref a2])/\H a0=some (.lst (wV (cd.getD 0 [])))/\H a1=some (.lst (wV (cd.getD 1 [])))/\H a2=some (.lst (wV (cd.getD 2 [])))
def qP(cd:List (List (List Nat))):Pk->List Nat
 |.box b=>fk cd (2,b)
 |.num n=>fk cd (1,cV n)++(jc n).tail
 |.goal _=>[]
def Pk.of(w:Str):Pk->Prop
 |.box _=>True
 |.num _=>w=Str.ofString "put"
 |.goal _=>w≠Str.ofString "put"
def Fi(r:Row):∀p∈r.eI,p.of r.wd:=by
 cases r with
 |put b n=>intro p hp;simp only[Row.eI,Jw,JO,Kn] at hp;rcases hp with rfl|rfl;exact trivial;exact rfl
 |two u a b=>intro p hp;simp only[Row.eI,Jw,JO,Kn] at hp;rcases hp with rfl|rfl<;>exact trivial
 |one u b=>intro p hp;simp only[Row.eI,Jw,JO,Kn] at hp;subst hp;exact trivial
 |jump g=>intro p hp;simp only[Row.eI,Jw,JO,Kn] at hp;subst hp;show Str.ofString "jump"≠Str.ofString "put";decide +kernel
 |zero b g=>intro p hp;simp only[Row.eI,Jw,JO,Kn] at hp;rcases hp with rfl|rfl;exact trivial;show Str.ofString "zero"≠Str.ofString "put";decide +kernel
 |halt=>intro p hp;cases hp
def sf(cd:List (List (List Nat)))(r:Row):bj cd r=fk cd (0,r.wi)++r.eI.flatMap (qP cd):=by
 cases r<;>simp[bj,dI,Row.eI,Pk.z_,qP,nq]
def AM(l:List Nat):Y.j7 (wd l) (some 1) none=wd l.tail:=by
 unfold Y.j7 wd;congr 2;show Y.yT l (some 1) none=l.tail;unfold Y.yT;rw[HT.cS,show (some (1:Int))=some ((1:Nat):Int) from rfl,HT.eK]
 cases l with
 |nil=>rfl
 |cons x l=>simp
def vk(x:V)(xs:List V):dC (x::xs) (some 1) none=xs:=by
 unfold dC;rw[HT.cS,show (some (1:Int))=some ((1:Nat):Int) from rfl,HT.eK];simp
def yE{ws:List (List Nat)}{x:List Nat}(h:ws[i]?=some x):bI (wV ws) (i:Int)=some (.str (wd x)):=aU (by unfold wV;rw[J6,h];rfl)
def tq(K:W.Frag):Sp:=λvs H Q _=>∃(ra ca:Addr) (r:Row) (k:Nat) (cd:List (List (List Nat))),vs=[.ref ra,.ref ca]/\H ra=some (.tup r.vs)/\IX H ca cd/\r.Ok k/\Cd cd/\∀H',KB [] H H'->Q (.str (wd (bj cd r))) H'
def yP(T:Txt K mg)(F:HasFn K mg "_law_plain" fK ["row","codes"])(h_law_words:ao P w K mg base aN 1 "_law_words" [] u7)(h_law_bits:ao P w K mg base aN 1 "_law_bits" ["number","many"] jU):ao P w K mg base aN 2 "_law_plain" ["row","codes"] (tq K):=by
 refine F.eZ bW (λvs H Q E h=>?_) (λf cdv A outer s H vs Q E hr h=>?_)
 ·obtain⟨ra,ca,r,k,cd,rfl,_⟩:=h;rfl
 ·have hu:=aI hr;obtain⟨ra,ca,r,k,cd,rfl,hra,hca,aP,hC,q⟩:=h;obtain⟨a0,a1,a2,g,g0,g1,g2⟩:=hca;rw[Row.CV] at hra;rw[sf] at q;refine⟨_,(Z.aq (Z.se (i:=2) bW.nd (Z.ix (Z.aA K rfl hu) (Z.ix (Z.aA K rfl hu) (Z.v 1) Z.int) (Z.bm K rfl PySem.F.plainAttrs_list PySem.F.slot_list_index PySem.F.type_list_index Y.uR (Z.Jg h_law_words (hr.mono (by decide)) rfl kN) (Z.cons (Z.ix (Z.aA K rfl hu) (Z.v 0) Z.int) Z.nil))))
   (Z.aq (Z.fh JZ rfl (Z.any K rfl (Z.slice (Z.vX K rfl) (Z.v 0) (Z.oY Z.int) Z.nY)) (Z.aH (i:=3) bW.nd rfl (by right)) (Z.ax (Z.cZ (Z.gT K rfl (Z.cb (Z.kO K rfl) rfl T.bb Kx (Z.cons (Z.v 3) (Z.cons (Z.C_ (T:="str") rfl T.uL (by decide +kernel)) Z.nil)))) (Z.ax (Z.se (i:=2) bW.nd (Z.op (Z.aE K rfl) (Z.v 2) (Z.ix (Z.aA K rfl hu) (Z.ix (Z.aA K rfl hu) (Z.v 1) Z.int) (Z.bm K rfl PySem.F.plainAttrs_str PySem.F.slot_str_index PySem.F.type_str_index Y.zQ Z.str (Z.cons (Z.v 3) Z.nil)))))) (Z.ax (Z.cZ (Z.aR aW (Z.ix (Z.aA K rfl hu) (Z.v 0) Z.int) Z.str) (Z.aq (Z.se (i:=4) bW.nd (Z.HY K rfl PySem.F.plainAttrs_int PySem.F.slot_int_bit_length PySem.F.type_int_bit_length Y.nO (Z.v 3)))
   (Z.ax (Z.se (i:=2) bW.nd (Z.op (Z.aE K rfl) (Z.op (Z.aE K rfl) (Z.v 2) (Z.ix (Z.aA K rfl hu) (Z.ix (Z.aA K rfl hu) (Z.v 1) Z.int) (Z.v 4))) (Z.slice Y.rR (Z.fc h_law_bits (Z.cons (Z.v 3) (Z.cons (Z.v 4) Z.nil))) (Z.oY Z.int) Z.nY))))) Z.b9)))))
   (Z.ax (Z.ret (Z.v 2))))),?_⟩
  obtain⟨c0,c1,c2,rfl,l0,l1,l2⟩:=hC.ex;have w0:=hC.at (p:=(0,r.wi)) (.inl ⟨rfl,r.tT⟩);refine au λN hN=>?_;exists ar g;refine⟨rfl,λl hl=>?_⟩;obtain⟨k1,s1⟩:=cX hl (.lst (df.map V.str));generalize upd H l _=H1 at *;exists aF (k1.n hra);refine⟨.inl ⟨rfl,_,bg.of s1⟩,l,df,r.wd,r.wi,rfl,s1,rfl,(tS r).1,(tS r).2,?_⟩;exists ar (k1.n g0),yE w0.2.1;subst hN;refine au λN hN=>?_;have hra1:=k1.n hra;exists aF hra1;refine⟨ra,_,rfl,bq.of hra1,by rw[show (some (1:Int))=some ((1:Nat):Int) from rfl,HT.eK,JE];lia,λt ht=>?_⟩
  rw[vk];obtain⟨k2,s2⟩:=cX ht (.tup (r.eI.map Pk.v));generalize upd H1 t _=H2 at *;have k02:=k1.trans k2;simp only[aF s2];have G:=k02.n g;have G1:=k02.n g1;have G2:=k02.n g2;have GR:=k02.n hra;refine xR (xs:=r.eI.map Pk.v) (λi σ H'=>H'=H2/\∃(x:List Nat) (o3 o4:Option V),x.length+60*(r.eI.drop i).length<=200/\fk [c0,c1,c2] (0,r.wi)++r.eI.flatMap (qP [c0,c1,c2])=x++(r.eI.drop i).flatMap (qP [c0,c1,c2])/\σ=[some (.ref ra),some (.ref ca),some (.str (wd x)),o3,o4]) ⟨rfl,_,none,none,?_,rfl,rfl⟩ (λi σ H' _ h=>by rw[h.1];exact bq.of s2) ?_ ?_
  ·have h1:r.eI.length<=2:=by cases r<;>simp[Row.eI]
   have h2:=w0.2.2;rw[KD];lia
  ·rintro i x σ H' hx ⟨rfl,y,o3,o4,hy,ea,rfl⟩;have hi:i<r.eI.length:=by have:=(Ju.mp hx).1;rw[Jt] at this;exact this
   obtain rfl:x=(r.eI[i]).v:=by
    rw[J6,Jr hi] at hx;exact (Option.some.inj hx).symm
   have hp0:=Row.rD aP _ (List.getElem_mem hi);have hp1:=Fi r _ (List.getElem_mem hi);rw[List.drop_eq_getElem_cons hi] at hy ea;rw[List.length_cons] at hy;generalize r.eI[i]=pk at *;unfold aT;dsimp only;refine jS λM hM=>?_
   cases pk with
   |box b =>
    have hb:b<8:=hp0;have w2:=hC.at (p:=(2,b)) (.inr (.inr ⟨rfl,hb⟩));show oR _ _ _ _ [_,_,_,some (V.str (eF b)),_] _;exists (show iE "str" "str"=true from by decide +kernel),ar G
    refine⟨by decide,rfl,_,_,b,[],rfl,rfl,Iu hb,?_⟩
    exists ar G2,yE w2.2.1;rw[bu,bu,dE];refine⟨JC (show _<=240 by have:=w2.2.2;lia) (by decide),?_⟩
    rw[hM];exact⟨rfl,y++fk [c0,c1,c2] (2,b),some _,o4,by rw[Jv];have:=w2.2.2;lia,by rw[ea,Mb,JQ];rfl,rfl⟩
   |num n =>
    have hn:n<65536:=hp0;have hb:=jQ hn;have w1:=hC.at (p:=(1,cV n)) (.inr (.inl ⟨rfl,hb⟩));show oR _ _ _ _ [_,_,_,some (V.int (n:Nat)),_] _;exists (show iE "int" "str"=false from by decide +kernel),aF GR,JA (show r.wd=Str.ofString "put" from hp1)
    refine⟨by decide,rfl,(n:Int),rfl,rfl,?_⟩
    rw[show ((Builtin.Int.intBits (n:Int):Nat):Int)=(cV n:Int) from rfl];exists ar G,ar G1,yE w1.2.1;have fl:(jc n).length=cV n:=BK n;have ft:(jc n).tail.length<=16:=by rw[List.length_tail];lia
    have h3:=w1.2.2;refine⟨by rw[bu,bu];exact JC (show _<=300 by lia) (by decide),(n:Int),cV n,rfl,by lia,?_⟩
    rw[show bP (n:Int) (cV n) []=jc n from rfl];refine⟨_,rfl,by rw[bu];exact JC (show _<=20 by lia) (by decide),?_⟩
    rw[AM,dE];exists bu;rw[dE];refine⟨JC (show _<=300 by rw[Jv];lia) (by decide),?_⟩
    rw[hM];exact⟨rfl,y++fk [c0,c1,c2] (1,cV n)++(jc n).tail,some _,some _,by rw[Jv,Jv];lia,by rw[ea,Mb];simp[qP],rfl⟩
   |goal n =>
    show oR _ _ _ _ [_,_,_,some (V.int (n:Nat)),_] _;exists (show iE "int" "str"=false from by decide +kernel),aF GR,Jy (show r.wd≠Str.ofString "put" from hp1)
    refine⟨by decide,?_⟩
    rw[hM];exact⟨rfl,y,some _,o4,by lia,by rw[ea,Mb];rfl,rfl⟩
  ·rintro σ H' ⟨rfl,x,o3,o4,_,ea,rfl⟩;rw[Jt,L5,List.flatMap_nil,Ks] at ea;show N _ _;subst hN;nofun;rw[ea] at q;exact q _ k02
def w6{R:α->β->Prop}{d:α}{e:β}{vs:List α}{ps:List β}(h:Paired R vs ps):∀i,i<ps.length->R (vs.getD i d) (ps.getD i e):=by
 induction h with
 |nil=>exactλi hi=>nomatch hi
 |cons h _ ih =>
  intro i hi
  cases i with
  |zero=>exact h
  |succ i=>exact ih i (MB hi)
def map_getD:(List.range ((List.range ls.length).map (ph ls)).length).map (λi=>((List.range ls.length).map (ph ls)).getD i (0,0))=(List.range ls.length).map (ph ls):=by
 refine LG λi=>?_;rw[J6];rcases Ku i ls.length with c|c
 ·rw[Mq (by simpa using c),J6,Mq c];simp[c]
 ·rw[KY.mpr (by simpa using c),KY.mpr (by simpa using c)];rfl
def uP(K:W.Frag):Sp:=λvs H Q _=>∃(a:Addr) (ls:List Int),vs=[.ref a]/\H a=some (.tup (iV ls))/\j6 ls/\oi ls=true/\∀b H',H b=none->KB [] H H'->H' b=some (.lst (wV (wordsOf Cw.fX ls)))->Q (.ref b) H'
theorem yG(T:Txt K mg)(F:HasFn K mg "_law_code" eU ["lengths"])(h_law_bits:ao P w K mg base aN 1 "_law_bits" ["number","many"] jU):ao P w K mg base aN 2 "_law_code" ["lengths"] (uP K):=by
 refine F.eZ bf (λvs H Q E h=>?_) (λf cdv A outer s H vs Q E hr h=>?_)
 ·obtain⟨a,ls,rfl,_⟩:=h;rfl
 ·have hu:=aI hr;obtain⟨a,ls,rfl,ha,hL,ho,q⟩:=h;refine⟨_,(Z.aq (Z.se (i:=1) bf.nd (Z.op cF (Z.lst (Z.cons Z.str Z.nil)) (Z.cb (Z.bO K rfl) rfl T.bG (by decide +kernel) (Z.cons (Z.v 0) Z.nil))))
   (Z.aq (Z.se (i:=2) bf.nd Z.int)
   (Z.aq (Z.se (i:=3) bf.nd Z.int)
   (Z.aq (Z.fh JZ rfl (Z.any K rfl (Z.cb (Y.rb K rfl) rfl T.lV (by decide +kernel) (Z.cons (Z.vy (osc:=ae eU) (ON:=["lengths","found","number","size","length","thing","k"]) (own:=["thing","length"]) (N:=["thing","length","lengths","found","number","size",".length",".thing","k"]) (az.of rfl (by decide +kernel)) (Z.enum K rfl rfl T.gj (Z.cons (Z.v 0) Z.nil)) (λnd _ _ _ _=>(Z.m8 (n:=2) K rfl rfl (Z.bw (Z.aH (i:=0) nd rfl (by right)) (Z.bw (Z.aH (i:=1) nd rfl (by right)) Z.gr)))) (λ_ _ _ _=>Z.pe) (λ_ _ _ _=>(Z.tup (Z.cons (Z.v 1) (Z.cons (Z.v 0) Z.nil))))) Z.nil))) (Z.m8 (n:=2) K rfl rfl (Z.bw (Z.aH (i:=4) bf.nd rfl (by right)) (Z.bw (Z.aH (i:=5) bf.nd rfl (by right)) Z.gr))) (Z.aq (Z.fh JZ rfl (Z.oW rfl T.dz (Z.cons (Z.op cw (Z.v 4) (Z.v 3)) Z.nil)) (Z.aH (i:=6) bf.nd rfl (by right)) (Z.ax (Z.se (i:=2) bf.nd (Z.op cF (Z.v 2) Z.int))))
   (Z.aq (Z.se (i:=3) bf.nd (Z.v 4))
   (Z.aq (Z.asg (Z.fc h_law_bits (Z.cons (Z.v 2) (Z.cons (Z.v 4) Z.nil))) (Z.mx (Z.v 1) (Z.v 5)))
   (Z.ax (Z.se (i:=2) bf.nd (Z.op (Z.aE K rfl) (Z.v 2) Z.int)))))))
   (Z.ax (Z.ret (Z.v 1))))))),?_⟩
  have hl20:=hL.2.1;refine au λN hN=>?_;nofun;refine⟨by decide,λp0 hp0=>?_⟩
  obtain⟨k1,s1⟩:=cX hp0 (.lst [.str (Str.ofString "")]);generalize upd H p0 _=H1 at *;have ha1:=k1.n ha;exists aF ha1,bL;refine⟨p0,_,_,rfl,rfl,s1,by lia,by lia,JC (show _<=20 by simp;lia) (by decide),λfd hfd=>?_⟩
  have er:(List.replicate ls.length [V.str (Str.ofString "")]).flatten=wV (List.replicate ls.length []):=by
   rw[kZ];unfold wV;rw[Nk];generalize ls.length=n
   induction n with
   |zero=>rfl
   |succ n ih=>rw[Kk,Lr,ih];rfl
  rw[JW,er];obtain⟨k2,s2⟩:=cX hfd (.lst (wV (List.replicate ls.length [])));generalize upd H1 fd _=H2 at *;have fd0:H fd=none:=k1.free (by simp) hfd
  have h02:=k1.trans k2;clear k1 s1 hp0 ha1 er k2 hfd;rw[hN];clear hN N H1;refine au λN hN=>?_;nofun;subst hN;refine au λN hN=>?_;nofun;subst hN;refine au λN hN=>?_;nofun;have ha2:=h02.n ha;refine⟨⟨_,bq.of ha2⟩,?_⟩;refine qB (xs:=iV ls) (JC (show _<=20 by rw[bL];exact hl20) (by decide)) (λD i ys H'=>H2 D=none/\H' D=some (.lst ys)/\KB [] H2 H'/\i<=ls.length/\ys.length=i/\Paired (Y.GS H') ys ((List.range i).map (ph ls))) (λD hD=>⟨hD,aa,KB.new hD,JJ _,rfl,.nil⟩) (λD i ys H' h=>⟨h.2.1,h.2.2.2.2.1⟩) (λD i ys H' h=>bq.of (h.2.2.1 _ _ ha2 (by simp))) ?_ ?_
  ·rintro D i ys H' x p R hx ⟨g0,g1,g2,g3,g4,g5⟩ hp kk;obtain⟨hi,rfl⟩:=kx hx;have k3:KB [] H' (upd H' p (.tup [.int (i:Nat),.int ls[i]])):=KB.new hp;generalize upd H' p (.tup [.int (i:Nat),.int ls[i]])=H3 at *;nofun;refine⟨by decide,λt ht=>?_⟩
   obtain⟨k4,s4⟩:=cX ht (.tup [.int ls[i],.int (i:Nat)]);generalize upd H3 t _=H4 at *;have k34:=k3.trans k4;have gD:=k34.n g1;have tD:t≠D:=λz=>by rw[z,gD] at s4;cases s4
   have up:∀{v:V} {q:Int×Int},Y.GS H4 v q->Y.GS (upd H4 D (.lst (ys++[.ref t]))) v q:=λ{v q} h=>by
    obtain⟨r,e1,e2⟩:=h;exact⟨r,e1,by rw[ak (λz=>by rw[z,gD] at e2;cases e2)];exact e2⟩
   refine kk _ _ gD ⟨g0,aa,λb o e _=>by rw[ak (af e g0)];exact k34.n (g2.n e),hi,by rw[Jv,g4];rfl,?_⟩
   rw[Ms,JN];refine Paired.snoc (Paired.BZ g5 λ_ _ h=>up ?_) (up ⟨t,rfl,?_⟩)
   ·obtain⟨r,e1,e2⟩:=h;exact⟨r,e1,k34.n e2⟩
   ·rw[s4];unfold ph;simp[hi]
  rintro D ys H3 ⟨g0,g1,g2,_,g4,g5⟩;rw[bL] at g4 g5;have hpl:((List.range ls.length).map (ph ls)).length=ls.length:=by rw[Jt,Kh]
  refine⟨D,ys,_,rfl,bg.of g1,g5,by rw[hpl];lia,λix hix hup l hl=>?_⟩
  have hpm:=hix.map λi=>((List.range ls.length).map (ph ls)).getD i (0,0);rw[map_getD] at hpm;obtain⟨eo,hR⟩:=va hpm hup;have hup2:=DM hR;have k4:KB [] H3 (upd H3 l (.lst (ix.map λi=>ys.getD i .aL))):=KB.new hl;have s4:upd H3 l (.lst (ix.map λi=>ys.getD i .aL)) l=_:=aa;have hit:∀(j:Nat) (x:V),(ix.map λi=>ys.getD i .aL)[j]?=some x->∃(hj:j<(aC ls).length) (r:Addr),x=.ref r/\H3 r=some (.tup [.int (ls.getD (aC ls)[j] 0),.int ((aC ls)[j]:Nat)]):=λj x hx=>by
   rw[J6] at hx;obtain⟨i,ei,rfl⟩:=JS.mp hx;have hi:i<((List.range ls.length).map (ph ls)).length:=Lc.mp (hix.mem_iff.mp (JY ei));obtain⟨r,e1,e2⟩:=w6 (d:=V.aL) (e:=(0,0)) g5 i hi;have e3:(ix.map λi=>((List.range ls.length).map (ph ls)).getD i (0,0))[j]?=some (((List.range ls.length).map (ph ls)).getD i (0,0)):=by rw[J6,ei];rfl
   rw[eo,J6] at e3;obtain⟨t,et,e4⟩:=JS.mp e3;obtain⟨hj,rfl⟩:=Ju.mp et;exact⟨hj,r,e1,by rw[e2,<- e4];rfl⟩
  have hxl:(ix.map λi=>ys.getD i .aL).length=(aC ls).length:=by
   have:=Km List.length eo;rw[Jt,Jt] at this;rw[Jt,this]
  generalize (ix.map λi=>ys.getD i .aL)=xs at *;generalize upd H3 l (.lst xs)=H4 at *;have gF:=k4.n (g2.n s2);have lF:l≠fd:=λz=>by
   have:=g2.n s2;rw[<- z,hl] at this;cases this
  have h04:KB [] H H4:=h02.trans (g2.trans k4);have hit4:∀(j:Nat) (x:V),xs[j]?=some x->∃(hj:j<(aC ls).length) (r:Addr),x=.ref r/\H4 r=some (.tup [.int (ls.getD (aC ls)[j] 0),.int ((aC ls)[j]:Nat)]):=λj x hx=>by
   obtain⟨hj,r,e1,e2⟩:=hit j x hx;exact⟨hj,r,e1,k4.n e2⟩
  clear hit g0 g1 g2 g4 g5 hpl hix hup hl k4 hpm eo hR h02 ha2 s2;have h40:∀t∈aC ls,ls.getD t 0=(aO ls t:Int)/\aO ls t<=40/\t<ls.length:=λt ht=>by
   have h:=iA ht;have:=hL.2.2 _ (JM h);unfold aO;rw[Jz,Jr h];show ls[t]=((ls[t].toNat:Nat):Int)/\ls[t].toNat<=40/\_;exact⟨by lia,by lia,h⟩
  exists ar s4;refine dN (xs:=xs) (λi σ H'=>∃(a':Option (List Nat)) (ws:List (List Nat)) (n h:Int) (o4 o5 o6:Option V),At ls ((aC ls).take i) ((aC ls).drop i) a' n h/\Cw.along Cw.fo (aO ls) ((aC ls).take i) (none,List.replicate ls.length [])=(a',ws)/\ws.length=ls.length/\KB [fd] H4 H'/\KB [] H H'/\H' fd=some (.lst (wV ws))/\σ=[some (.ref a),some (.ref fd),some (.int (n+1)),some (.int h),o4,o5,o6]) ⟨none,_,-1,0,none,none,none,⟨rfl,.inl ⟨rfl,rfl,rfl,rfl⟩⟩,rfl,JI ..,KB.refl _ _,h04,gF,rfl⟩ (λi σ H' _ h=>by obtain⟨_,_,_,_,_,_,_,_,_,_,kF,_⟩:=h;exact bg.of (kF _ _ s4 (by simpa using lF))) ?_ ?_
  ·rintro i x σ H' hx ⟨a',ws,n,h,o4,o5,o6,hA,hal,hwl,kF,h0',gF',rfl⟩;obtain⟨hj,r,rfl,er⟩:=hit4 i x hx;have rF:r≠fd:=λz=>by rw[z,gF] at er;cases er
   have er':=kF _ _ er (by simpa using rF)
   have ed:(aC ls).drop i=(aC ls)[i]::(aC ls).drop (i+1):=Ko hj;have eT:(aC ls).take (i+1)=(aC ls).take i++[(aC ls)[i]]:=by rw[Kp,Jr hj];rfl
   rw[ed] at hA;rw[eT];obtain⟨hx1,hx2,hx3⟩:=h40 _ (JM hj);obtain⟨d,e1,e0,e2,e3,e4,hA2⟩:=hA.next hL ho hup2;have hal2:Cw.along Cw.fo (aO ls) ((aC ls).take i++[(aC ls)[i]]) (none,List.replicate ls.length [])=(some (l_ a' (aO ls (aC ls)[i])),ws.set (aC ls)[i] (l_ a' (aO ls (aC ls)[i]))):=by
    rw[Cw.fR,hal]
    cases a'<;>rfl
   rw[hx1] at er';generalize (aC ls)[i]=t at *;generalize aO ls t=l at *;generalize hw':l_ a' l=w' at *;refine⟨r,_,rfl,bq.of er',rfl,_,_,rfl,_,_,rfl,rfl,?_⟩;refine au λM hM=>?_;exists e1;refine⟨by lia,by lia,?_⟩
   rw[JW];refine bR (λj σ G=>G=H'/\∃o6:Option V,σ=[some (.ref a),some (.ref fd),some (.int ((n+1)*2^j)),some (.int h),some (.int (l:Nat)),some (.int (t:Nat)),o6]) ⟨rfl,o6,by rw[Int.pow_zero,Int.mul_one]⟩ ?_ ?_
   ·rintro j σ G hj ⟨rfl,o6,rfl⟩;unfold aT;refine jS λM hM=>?_;nofun;refine⟨.inr (by decide),?_⟩
    rw[hM];exact⟨rfl,some _,by rw[show (n+1)*2^j*2=(n+1)*2^(j+1) from by rw[OB,<- Int.mul_assoc]]⟩
   ·rintro σ G ⟨rfl,o6,rfl⟩;rw[e2];show M _ _;subst hM;refine au λM hM=>?_;nofun;subst hM;refine au λM hM=>?_;nofun;refine⟨_,l,rfl,hx2,?_⟩;rw[vA l w' [] e3 e4,Ks];have ixw:iY (wV ws).length (t:Int)=some t:=by rw[ke (by lia) (by rw[nF,hwl];lia)];simp
    have sw:(wV ws).set t (.str (wd w'))=wV (ws.set t w'):=by unfold wV;rw[LP]
    exists gF',ixw,sw;subst hM;dsimp only;refine jS λM hM=>?_;nofun;rw[hM];refine⟨some w',ws.set t w',_,_,some _,some _,o6,hA2,hal2,by rw[List.length_set,hwl],λb o e z=>?_,λb o e _=>?_,aa,rfl⟩
    ·rw[ak (by simpa using z)];exact kF _ _ e z
    ·rw[ak (af e fd0)];exact h0'.n e
  ·rintro σ H' ⟨a',ws,n,h,o4,o5,o6,hA,hal,_,_,h0',gF',rfl⟩;rw[hxl,Kb] at hal;have ew:wordsOf Cw.fX ls=ws:=by
    unfold wordsOf;rw[Cw.ie (aC ls) [] none _ hup2 (λt ht=>(h40 t ht).2.1) (λv z=>by cases z) (λ_=>rfl) (by rw[Le,xK];exact K1 ho),hal]
   show N _ _;subst hN;nofun;rw[ew] at q;exact q fd H' fd0 h0' gF'
def hV(cd:List (List (List Nat)))(rs:List Row):List V:=rs.map λr=>.str (wd (bj cd r))
def jY(K:W.Frag):Sp:=λvs H Q _=>∃(a b c:Addr) (bk:List (List Int)) (rs:List Row) (ws:List Nat),vs=[.ref a,.ref b,.ref c]/\jg H a rs/\vC H b bk/\Bk bk/\H c=some (.lst (iV (nZ ws)))/\ws.length=rs.length/\rs.length<=64/\(∀r∈rs,r.Ok rs.length)/\(∀w∈ws,w<3)/\∀t u H',KB [] H H'->H' t=some (.tup [.str (wd (uG bk rs ws)),.ref u])->H' u=some (.tup (iV (nZ (c_ 0 (eV (dD bk) rs) (rs.map ay) (i_ (eV (dD bk) rs) (rs.map ay) ws))).dropLast))->Q (.ref t) H'
theorem wG(T:Txt K mg)(F:HasFn K mg "_law_packed" bX ["program","book","widths"])(h_law_code:ao P w K mg base aN 2 "_law_code" ["lengths"] (uP K))(h_law_plain:ao P w K mg base aN 2 "_law_plain" ["row","codes"] (tq K))(h_law_goals:ao P w K mg base aN 1 "_law_goals" ["program"] uw)(h_law_least:ao P w K mg base aN 2 "_law_least" ["sizes","goals","widths"] (t8 K))(h_law_spots:ao P w K mg base aN 1 "_law_spots" ["sizes","goals","widths"] (oA K))(h_law_bits:ao P w K mg base aN 1 "_law_bits" ["number","many"] jU):ao P w K mg base aN 3 "_law_packed" ["program","book","widths"] (jY K):=by
 refine F.eZ aG (λvs H Q E h=>?_) (λf cdv A outer s H vs Q E hr h=>?_)
 ·obtain⟨a,b,c,bk,rs,ws,rfl,_⟩:=h;rfl
 ·have hu:=aI hr;obtain⟨a,b,c,bk,rs,ws,rfl,hp,hb,hB,hc,h1,h2,h3,h4,q⟩:=h;have hC:=hB.cd;obtain⟨as,hb1,hb2,hb3⟩:=hb;have ebk:bk.length=3:=by obtain⟨_,_,_,e,_⟩:=hB;rw[e];rfl
  have hl:∀l∈bk,j6 l/\oi l=true:=by obtain⟨_,_,_,e,_,_,_,h⟩:=hB;exact h
  refine⟨_,(Z.aq (Z.asg (Z.vy (osc:=ae bX) (ON:=["program","book","widths","codes","plain","goals","sizes","spots","bits","k","span","far"]) (own:=["lengths"]) (N:=["lengths","program","book","widths","codes","plain","goals","sizes","spots","bits","k","span","far"]) (az.of rfl (by decide +kernel)) (Z.any K rfl (Z.v 1)) (λnd _ _ _ _=>(Z.aH (i:=0) nd rfl (by right))) (λ_ _ _ _=>Z.pe) (λ_ _ _ _=>(Z.fc h_law_code (Z.cons (Z.v 0) Z.nil)))) (Z.aH (i:=3) aG.nd rfl (by right)))
   (Z.aq (Z.sec (j:=4) aG.nd (osc:=ae bX) (ON:=["program","book","widths","codes","plain","goals","sizes","spots","bits","k","span","far"]) (own:=["row"]) (N:=["row","program","book","widths","codes","plain","goals","sizes","spots","bits","k","span","far"]) (az.of rfl (by decide +kernel)) (Z.any K rfl (Z.v 0)) (λnd _ _ _ _=>(Z.aH (i:=0) nd rfl (by right))) (λ_ _ _ _=>Z.pe) (λ_ _ _ _=>(Z.fc h_law_plain (Z.cons (Z.v 0) (Z.cons (Z.v 4) Z.nil)))))
   (Z.aq (Z.se (i:=5) aG.nd (Z.fc h_law_goals (Z.cons (Z.v 0) Z.nil)))
   (Z.aq (Z.sec (j:=6) aG.nd (osc:=ae bX) (ON:=["program","book","widths","codes","plain","goals","sizes","spots","bits","k","span","far"]) (own:=["text"]) (N:=["text","program","book","widths","codes","plain","goals","sizes","spots","bits","k","span","far"]) (az.of rfl (by decide +kernel)) (Z.any K rfl (Z.v 4)) (λnd _ _ _ _=>(Z.aH (i:=0) nd rfl (by right))) (λ_ _ _ _=>Z.pe) (λ_ _ _ _=>(Z.cb (Z.bO K rfl) rfl T.bG (by decide +kernel) (Z.cons (Z.v 0) Z.nil))))
   (Z.aq (Z.se (i:=2) aG.nd (Z.fc h_law_least (Z.cons (Z.v 6) (Z.cons (Z.v 5) (Z.cons (Z.v 2) Z.nil)))))
   (Z.aq (Z.se (i:=7) aG.nd (Z.fc h_law_spots (Z.cons (Z.v 6) (Z.cons (Z.v 5) (Z.cons (Z.v 2) Z.nil)))))
   (Z.aq (Z.se (i:=8) aG.nd Z.str)
   (Z.aq (Z.fh JZ rfl (Z.oW rfl T.dz (Z.cons (Z.cb (Z.bO K rfl) rfl T.bG (by decide +kernel) (Z.cons (Z.v 0) Z.nil)) Z.nil)) (Z.aH (i:=9) aG.nd rfl (by right)) (Z.aq (Z.se (i:=8) aG.nd (Z.op (Z.aE K rfl) (Z.v 8) (Z.ix (Z.aA K rfl hu) (Z.v 4) (Z.v 9))))
   (Z.ax (Z.cZ (Z.aR eQ (Z.ix (Z.aA K rfl hu) (Z.v 5) (Z.v 9)) Z.aL) (Z.aq (Z.se (i:=10) aG.nd (Z.ix (Z.aA K rfl hu) (Z.lst (Z.consts rfl)) (Z.ix (Z.aA K rfl hu) (Z.v 2) (Z.v 9))))
   (Z.aq (Z.se (i:=11) aG.nd (Z.op dA (Z.op cw (Z.ix (Z.aA K rfl hu) (Z.v 7) (Z.ix (Z.aA K rfl hu) (Z.v 5) (Z.v 9))) (Z.ix (Z.aA K rfl hu) (Z.v 7) (Z.op (Z.aE K rfl) (Z.v 9) Z.int))) (Z.v 10)))
   (Z.ax (Z.se (i:=8) aG.nd (Z.op (Z.aE K rfl) (Z.op (Z.aE K rfl) (Z.v 8) (Z.ix (Z.aA K rfl hu) (Z.lst (Z.consts rfl)) (Z.ix (Z.aA K rfl hu) (Z.v 2) (Z.v 9)))) (Z.fc h_law_bits (Z.cons (Z.v 11) (Z.cons (Z.ix (Z.aA K rfl hu) (Z.lst (Z.consts rfl)) (Z.ix (Z.aA K rfl hu) (Z.v 2) (Z.v 9))) Z.nil)))))))) Z.b9))))
   (Z.ax (Z.ret (Z.tup (Z.cons (Z.v 8) (Z.cons (Z.ct (Z.dJ K rfl) rfl T.cW (by decide +kernel) (Z.cons (Z.slice (Z.vX K rfl) (Z.v 7) Z.nY (Z.oY (Z.un bM Z.int))) Z.nil)) Z.nil))))))))))))),?_⟩
  refine au λN hN=>?_;exists aF hb1;refine cm (xs:=as.map V.ref) (JC (show _<=3 by rw[Jt,hb2,ebk];exact J8 3) (by decide)) (λD i ys H'=>H D=none/\H' D=some (.lst ys)/\KB [] H H'/\∃cs:List Addr,ys=cs.map V.ref/\cs.length=i/\∀(j:Nat) (c:Addr),cs[j]?=some c->c≠D/\H' c=some (.lst (wV (wordsOf Cw.fX (bk.getD j []))))) (λD hD=>⟨hD,aa,KB.new hD,[],rfl,rfl,λj c e=>nomatch e⟩) (λD i ys H' h=>⟨h.2.1,by obtain⟨_,_,_,cs,rfl,e,_⟩:=h;rw[Jt,e]⟩) (λD i ys H' h=>bq.of (h.2.2.1 _ _ hb1 (by simp))) ?_ ?_
  ·rintro D i ys H' x R hx ⟨g0,g1,g2,cs,rfl,g4,g5⟩ kk;obtain⟨u,eu,rfl⟩:∃u,as[i]?=some u/\x=.ref u:=by
    rw[J6] at hx;obtain⟨u,e,rfl⟩:=JS.mp hx;exact⟨u,e,rfl⟩
   have hi:i<bk.length:=by have:=(Ju.mp eu).1;lia
   have hm:bk.getD i []∈bk:=by rw[Jz,Jr hi];exact JM hi
   nofun;refine⟨u,_,rfl,g2.n (hb3 i u eu),(hl _ hm).1,(hl _ hm).2,λc H5 c0 k5 e5=>?_⟩;have gD:=k5.n g1;have cD:c≠D:=λz=>by rw[z,g1] at c0;cases c0
   refine kk _ _ gD ⟨g0,aa,λu o e _=>by rw[ak (af e g0)];exact k5.n (g2.n e),cs++[c],by rw[JN];rfl,by rw[Jv,g4];rfl,λj d e=>?_⟩
   rcases Ku j cs.length with hj|hj
   ·rw[JX hj] at e;obtain⟨q2,q3⟩:=g5 j d e;exact⟨q2,by rw[ak q2];exact k5.n q3⟩
   ·rw[JP hj] at e;obtain⟨hj2,rfl⟩:=Ju.mp e;have:j=i:=by simp at hj2;lia
    subst this;simp only[g4,KG,L_];exact⟨cD,by rw[ak cD];exact e5⟩
  rintro ca ys H1 ⟨g0,g1,g2,cs,rfl,g4,g5⟩;rw[Jt,hb2,ebk] at g4;obtain⟨c0,c1,c2,rfl⟩:=qm g4;have cdl:IX H1 ca (dD bk):=by
   obtain⟨l0,l1,l2,rfl⟩:=qm ebk;exact⟨c0,c1,c2,g1,(g5 0 c0 rfl).2,(g5 1 c1 rfl).2,(g5 2 c2 rfl).2⟩
  show N _ _;subst hN;clear g5 g4 g1 hb1 hb2 hb3 hl g0 ebk;have hp1:=hp.kb g2;unfold uG at q;generalize dD bk=cd at *;refine au λN hN=>?_;obtain⟨ps,hps,hpa⟩:=hp1;have hpl:=hpa.1;exists aF hps;refine cm (xs:=ps.map V.ref) (JC (show _<=64 by rw[Jt];lia) (by decide)) (λD i ys H'=>H1 D=none/\H' D=some (.lst ys)/\KB [] H1 H'/\ys=hV cd (rs.take i)/\i<=rs.length) (λD hD=>⟨hD,aa,KB.new hD,rfl,JJ _⟩) (λD i ys H' h=>⟨h.2.1,by rw[h.2.2.2.1,hV,Jt,JG];have:=h.2.2.2.2;lia⟩) (λD i ys H' h=>bq.of (h.2.2.1 _ _ hps (by simp))) ?_ ?_
  ·rintro D i ys H' x R hx ⟨g0,g1,gk,rfl,hi⟩ kk;obtain⟨u,eu,rfl⟩:∃u,ps[i]?=some u/\x=.ref u:=by
    rw[J6] at hx;obtain⟨u,e,rfl⟩:=JS.mp hx;exact⟨u,e,rfl⟩
   have hlt:i<rs.length:=by have:=(Ju.mp eu).1;lia
   have er:=Jr hlt;have et:rs.take (i+1)=rs.take i++[rs[i]]:=by rw[Kp,er];rfl
   nofun;refine⟨u,ca,rs[i],rs.length,cd,rfl,gk.n (hpa.2 i u _ eu er),?_,h3 _ (JM hlt),hC,λH5 k5=>?_⟩
   ·obtain⟨x0,x1,x2,y1,y2,y3,y4⟩:=cdl;exact⟨x0,x1,x2,gk.n y1,gk.n y2,gk.n y3,gk.n y4⟩
   ·exact kk _ _ (k5.n g1) ⟨g0,aa,λu o e _=>by rw[ak (af e g0)];exact k5.n (gk.n e),by rw[et];unfold hV;rw[JN];rfl,hlt⟩
  rintro pl ys H2 ⟨_,gp,k2,rfl,_⟩;rw[Jt,hpl,Kb] at gp;show N _ _;subst hN;have k02:=g2.trans k2;clear cdl hps hpa hpl g2 k2;refine au λN hN=>?_;nofun;refine⟨a,rs,rfl,hp.kb k02,h2,λga H3 hga k3 gg=>?_⟩;subst hN;have k03:=k02.trans k3;have gp3:=k3.n gp;refine au λN hN=>?_;exists ar gp3;refine dU (xs:=hV cd rs) (JC (show _<=64 by rw[hV,Jt];exact h2) (by decide)) (λD i ys H'=>H3 D=none/\H' D=some (.lst ys)/\KB [] H3 H'/\ys=iV (nZ (eV cd (rs.take i)))/\i<=rs.length) (λD hD=>⟨hD,aa,KB.new hD,rfl,JJ _⟩) (λD i ys H' h=>⟨h.2.1,by rw[h.2.2.2.1,bK,eV,Jt,JG];have:=h.2.2.2.2;lia⟩) (λD i ys H' h=>bg.of (h.2.2.1 _ _ gp3 (by simp))) ?_ ?_
  ·rintro D i ys H' x R hx ⟨g0,g1,gk,rfl,hi⟩ kk;have hlt:i<rs.length:=by have:=(Ju.mp hx).1;rw[hV,Jt] at this;exact this
   have er:=Jr hlt;have et:rs.take (i+1)=rs.take i++[rs[i]]:=by rw[Kp,er];rfl
   have ex:x=.str (wd (bj cd rs[i])):=by
    unfold hV at hx;rw[J6,er] at hx;exact (Option.some.inj hx).symm
   subst ex;have h136:=d3 hC (h3 _ (JM hlt));exists bu;exact⟨JC h136 (by decide),kk _ _ g1 ⟨g0,aa,λu o e _=>by rw[ak (af e g0)];exact gk.n e,by rw[et];unfold eV nZ iV;rw[JN,JN,JN];rfl,hlt⟩⟩
  rintro sa ys H4 ⟨_,gsz,k4,rfl,_⟩;rw[show (hV cd rs).length=rs.length from Jt ..,Kb] at gsz;show N _ _;subst hN;have k04:=k03.trans k4;have gg4:=k4.n gg;have gp4:=k4.n gp3;have n_:(eV cd rs).length=rs.length:=Jt ..;have gl1:(rs.map ay).length=rs.length:=Jt ..;have sb:∀s∈eV cd rs,s<=150:=λs hs=>by
   obtain⟨r,hr',rfl⟩:=Kg.mp hs;have:=d3 hC (h3 r hr');lia
  have gb:∀t,some t∈rs.map ay->t<=(eV cd rs).length:=λt ht=>by
   obtain⟨r,hr',e⟩:=Kg.mp ht;rw[n_];exact dw (h3 r hr') e
  clear gp gp3 gg k02 k03 k3 k4;refine au λN hN=>?_;nofun;refine⟨sa,ga,c,eV cd rs,rs.map ay,ws,rfl,gsz,gg4,k04.n hc,by rw[gl1,n_],by rw[h1,n_],by rw[n_];exact h2,gb,h4,λwa H5 _ k5 g5=>?_⟩
  subst hN;have wl:=uQ (eV cd rs) (rs.map ay) ws;have wt:=su (ss:=eV cd rs) (gs:=rs.map ay) h4;rw[h1] at wl;generalize i_ (eV cd rs) (rs.map ay) ws=w' at *;refine au λN hN=>?_;nofun;refine⟨sa,ga,wa,eV cd rs,rs.map ay,w',rfl,k5.n gsz,k5.n gg4,g5,by rw[gl1,n_],by rw[wl,n_],by rw[n_];exact h2,wt,λpa H6 _ k6 g6=>?_⟩
  subst hN;have spl:=fG (eV cd rs) (rs.map ay) w' 0 (by rw[gl1,n_]) (by rw[wl,n_])
  rw[n_] at spl;generalize c_ 0 (eV cd rs) (rs.map ay) w'=sp at *;have k56:=k5.trans k6;have k06:=k04.trans k56;have gp6:=k56.n gp4;have gg6:=k56.n gg4;have gw6:=k6.n g5;clear k56 gp4 gg4 g5 k5 k6 gsz k04 sb gb;refine au λN hN=>?_;nofun;subst hN;refine au λN hN=>?_;obtain⟨as2,ha2,hpa2⟩:=hp.kb k06;have hpl2:=hpa2.1;exists aF ha2,Jt,hpl2;refine⟨by lia,by lia,?_⟩
  rw[JW];refine bR (λi σ H'=>∃(x:List Nat) (o9 o10 o11:Option V),KB [] H6 H'/\x++ma cd sp i (rs.drop i) (w'.drop i)=ma cd sp 0 rs w'/\x.length<=200*i/\σ=[some (.ref a),some (.ref b),some (.ref wa),some (.ref ca),some (.ref pl),some (.ref ga),some (.ref sa),some (.ref pa),some (.str (wd x)),o9,o10,o11]) ⟨[],none,none,none,KB.refl _ _,rfl,JJ _,by rw[<- kZ]⟩ ?_ ?_
  ·rintro i σ H' hlt ⟨x,o9,o10,o11,hk,ex,hx,rfl⟩;rw[show (0:Int)+((i:Nat):Int)=(i:Int) from Int.zero_add _];have er:=Jr hlt;have ew:=Jr (show i<w'.length by lia)
   have lw:=wt _ (JM (show i<w'.length by lia))
   have okr:=h3 _ (JM hlt);rw[Ko hlt,Ko (show i<w'.length by lia),ma] at ex
   generalize rs[i]'_=r at *;generalize w'[i]'_=w0 at *;have ap:bI (hV cd rs) (i:Int)=some (.str (wd (bj cd r))):=aU (by unfold hV;rw[J6,er];rfl)
   have ag:bI ((rs.map ay).map aJ) (i:Int)=some (aJ (ay r)):=aU (by rw[J6,J6,er];rfl)
   have aw:bI (iV (nZ w')) (i:Int)=some (.int (w0:Nat)):=aU (by unfold iV nZ;rw[KI,J6,ew];rfl)
   have h136:=d3 hC okr;have gpH:=ar (hk.n gp6);have ggH:=ar (hk.n gg6);unfold aT;refine au λM hM=>?_;exists gpH,ap;rw[dE,bu,bu];refine⟨JC (show _<=20000 by lia) (by decide),?_⟩
   subst hM;dsimp only;refine jS λM hM=>?_;have fin:∀(G:Hp) (o10 o11:Option V),KB [] H6 G->(p8 sp i w0 (ay r)).length<=18->M [some (.ref a),some (.ref b),some (.ref wa),some (.ref ca),some (.ref pl),some (.ref ga),some (.ref sa),some (.ref pa),some (.str (wd (x++bj cd r++p8 sp i w0 (ay r)))),some (.int (i:Int)),o10,o11] G:=λG o10 o11 g1 hj=>by
    rw[hM];exact⟨_,_,o10,o11,g1,by rw[<- ex];simp,by rw[Jv,Jv];lia,rfl⟩
   clear hM ex;refine gc λA B hA hB=>?_;exists ggH,ag
   cases eg:ay r with
   |none =>
    rw[eg] at fin;rw[Jy (show ¬ ¬ aJ none=V.aL from λz=>z rfl),hB];have:=fin H' o10 o11 hk (JJ _);rw[show p8 sp i w0 none=[] from rfl,Ks] at this;exact this
   |some g =>
    rw[eg] at fin ag;rw[JA (show ¬ aJ (some g)=V.aL from λz=>nomatch z),hA];clear hA hB;have hg:g<=rs.length:=dw okr eg;have as1:=ur (l:=sp) (i:=g) (by lia)
    have as2:bI (iV (nZ sp)) ((i:Int)+1)=some (.int ((sp.getD (i+1) 0:Nat):Int)):=ur (l:=sp) (i:=i+1) (by lia)
    have p1:bI [V.int 16,.int 256,.int 65536] (w0:Int)=some (.int (2^d6 w0)):=by rcases mD lw with rfl|rfl|rfl<;>rfl
    have p2:=Ar lw;have p3:bI [V.int 4,.int 8,.int 16] (w0:Int)=some (.int ((d6 w0:Nat):Int)):=by rcases mD lw with rfl|rfl|rfl<;>rfl
    have p4:0<d6 w0/\d6 w0<=16/\(eA w0).length<=2:=by rcases mD lw with rfl|rfl|rfl<;>decide
    refine au λM3 hM3=>?_;nofun;refine⟨by decide,λl1 hl1=>?_⟩
    obtain⟨k7,s7⟩:=cX hl1 (.lst [.int 16,.int 256,.int 65536]);exists ar (k7.n (hk.n gw6)),aw,ar s7,p1;have hk7:=hk.trans k7;clear s7;generalize upd H' l1 _=H7 at *;rw[hM3];clear hM3 M3;refine au λM3 hM3=>?_;have ag':bI ((rs.map ay).map aJ) (i:Int)=some (.int (g:Nat)):=ag;exists ar (hk7.n gg6),ag',ar (hk7.n g6),as1,as2;refine⟨Od (by decide),?_⟩
    rw[hM3];clear hM3 M3;nofun;refine⟨by decide,λl2 hl2=>?_⟩
    obtain⟨k8,s8⟩:=cX hl2 (.lst [.str (Str.ofString "0"),.str (Str.ofString "10"),.str (Str.ofString "11")]);exists ar (k8.n (hk7.n gw6)),aw,ar s8,p2;have hk8:=hk7.trans k8;clear s8;generalize upd H7 l2 _=H8 at *;have hxl:(x++bj cd r).length<=13000:=by rw[Jv];lia
    have ll:(bP (bZ sp g i) (d6 w0) []).length=d6 w0:=by rw[dM];rfl
    rw[bu,bu];refine⟨JC (show _<=20000 by lia) (by decide),by decide,λl3 hl3=>?_⟩
    have k9:=KB.new (ex:=[]) (o:=.lst [.int 4,.int 8,.int 16]) hl3;have s9:upd H8 l3 (.lst [.int 4,.int 8,.int 16]) l3=_:=aa;exists ar (k9.n (hk8.n gw6)),aw,ar s9,p3;refine⟨_,d6 w0,rfl,by lia,?_⟩
    rw[nj,dE];nofun;rw[dE,bu,bu];have hfin:=fin (upd H8 l3 (.lst [.int 4,.int 8,.int 16])) (some (.int (2^d6 w0))) (some (.int ((((sp.getD g 0:Nat):Int)-((sp.getD (i+1) 0:Nat):Int)) % 2^d6 w0))) (hk8.trans k9) (by show (gi w0 (bZ sp g i)).length<=18;unfold gi;rw[Jv,ll];lia)
    rw[show x++bj cd r++p8 sp i w0 (some g)=x++bj cd r++eA w0++bP (((sp.getD g 0:Nat):Int)-((sp.getD (i+1) 0:Nat):Int)) (d6 w0) [] by show x++bj cd r++(eA w0++bP (bZ sp g i) (d6 w0) [])=_;rw[JQ (x++bj cd r)];rfl] at hfin
    exact⟨JC (show _<=20000 by rw[Jv];unfold bZ at ll;lia) (by decide),hfin⟩
  ·rintro σ H' ⟨x,o9,o10,o11,hk,ex,hx,rfl⟩;show N _ _;subst hN;rw[L5] at ex;have ex':x=ma cd sp 0 rs w':=by rw[<- ex];unfold ma;exact (Ks x).symm
   exists ar (hk.n g6);rw[uI];intro q1 hq1 l2 hl2;refine⟨by decide,λt ht=>?_⟩
   rw[<- ex'] at q;exact q t _ _ (k06.trans (hk.trans ((KB.new hq1).trans ((KB.new hl2).trans (KB.new ht))))) aa (by rw[ak (af aa ht),aa];unfold iV;rw[List.map_dropLast])
def v7(ws zs:List Nat):Prop:=ws.length=zs.length/\∀i,ws.getD i 0<=zs.getD i 0
def v7.Iy{zs:List Nat}(h:v7 ws zs)(g:v7 zs ws):ws=zs:=by
 refine L4 h.1 λi h1 h2=>?_;have a:=h.2 i;have b:=g.2 i;rw[Jz,Jz,Jr h1,Jr h2] at a b;exact Nat.le_antisymm a b
def xh{v w:Nat}(h:v<=w)(hw:w<3):BD v<=BD w:=by
 rcases mD hw with rfl|rfl|rfl
 ·obtain rfl:v=0:=by lia
  exact J8 _
 ·rcases (show v=0\/v=1 by lia) with rfl|rfl<;>decide
 ·rcases (show v=0\/v=1\/v=2 by lia) with rfl|rfl|rfl<;>decide
def pH(w:Nat):0<dF w:=by
 unfold dF;split
 ·decide
 ·split<;>decide
section
variable {ss:List Nat} {gs:List (Option Nat)} {ws zs:List Nat}
def Gg(hg:gs.length=ss.length)(hl:ws.length=ss.length)(h:v7 ws zs)(hz:∀w∈zs,w<3)(hi:i<ss.length):(c_ 0 ss gs ws).getD (i+1) 0+(c_ 0 ss gs zs).getD i 0<=(c_ 0 ss gs zs).getD (i+1) 0+(c_ 0 ss gs ws).getD i 0:=by
 have h1:=h.1;have es:=Jr hi;have eg:=Jr (show i<gs.length by lia)
 have ew:=Jr (show i<ws.length by lia)
 have ez:=Jr (show i<zs.length by lia)
 have le:=h.2 i;rw[Jz,Jz,ew,ez] at le;have lt:=hz _ (JM (show i<zs.length by lia))
 rw[ic ss gs ws 0 i _ _ _ es eg ew,ic ss gs zs 0 i _ _ _ es eg ez];have:addW gs[i] ws[i]<=addW gs[i] zs[i]:=by
  cases gs[i] with
  |none=>exact J8 _
  |some t=>exact xh le lt
 lia
theorem rG(hg:gs.length=ss.length)(hl:ws.length=ss.length)(h:v7 ws zs)(hz:∀w∈zs,w<3)(i:Nat):∀d,i+d<=ss.length->(c_ 0 ss gs ws).getD (i+d) 0+(c_ 0 ss gs zs).getD i 0<=(c_ 0 ss gs zs).getD (i+d) 0+(c_ 0 ss gs ws).getD i 0
 |0,_=>by rw[Nat.add_zero];lia
 |d+1,hd=>by
  have a:=rG hg hl h hz i d (by lia)
  have b:=Gg hg hl h hz (i:=i+d) (by lia)
  rw[<- Nr];lia
theorem oP(hg:gs.length=ss.length)(hl:ws.length=ss.length)(i:Nat):∀d,i+d<=ss.length->(c_ 0 ss gs ws).getD i 0<=(c_ 0 ss gs ws).getD (i+d) 0
 |0,_=>J8 _
 |d+1,hd=>by
  have a:=oP hg hl i d (by lia)
  have e:=ic ss gs ws 0 (i+d) _ _ _ (Jr (show i+d<ss.length by lia)) (Jr (show i+d<gs.length by lia)) (Jr (show i+d<ws.length by lia))
  rw[<- Nr];lia
def B1(hg:gs.length=ss.length)(hl:ws.length=ss.length)(h:v7 ws zs)(hz:∀w∈zs,w<3){w:Nat}(ht:t<=ss.length)(hk:k<ss.length)(e:jn w (bZ (c_ 0 ss gs zs) t k)=true):jn w (bZ (c_ 0 ss gs ws) t k)=true:=by
 have h1:=h.1;unfold jn bZ at e ⊢;rw[K8,Ni,Ni] at e ⊢;rcases OC t (k+1) with c|c
 ·have a:=rG hg hl h hz t (k+1-t) (by lia)
  have b:=oP (ws:=ws) hg hl t (k+1-t) (by lia)
  rw[show t+(k+1-t)=k+1 by lia] at a b
  have hp:=pH w;lia
 ·have a:=rG hg hl h hz (k+1) (t-(k+1)) (by lia)
  have b:=oP (ws:=ws) hg hl (k+1) (t-(k+1)) (by lia)
  rw[show k+1+(t-(k+1))=t by lia] at a b
  have hp:=pH w;lia
def An(hg:gs.length=ss.length)(hl:ws.length=ss.length)(h:v7 ws zs)(hz:∀w∈zs,w<3)(hgt:∀t,some t∈gs->t<=ss.length)(hf:nU ss gs zs){w:Nat}(eg:gs[k]?=some (some t))(ew:ws[k]?=some w)(e:jn w (bZ (c_ 0 ss gs ws) t k)=false):w<zs.getD k 0:=by
 have h1:=h.1;have hk:k<ws.length:=(Ju.mp ew).1;have ez:=Jr (show k<zs.length by lia)
 have le:=h.2 k;rw[Jz,Jz,ew,ez] at le;have le':w<=zs[k]:=le;rw[Jz,ez];show w<zs[k];rcases Ku w zs[k] with c|c
 ·exact c
 ·have fz:=B1 hg hl h hz (hgt t (JY eg)) (by lia) (hf k t _ eg ez)
  rw[show zs[k]=w by lia,e] at fz
  cases fz
theorem zP(hg:gs.length=ss.length)(hz:∀w∈zs,w<3)(hgt:∀t,some t∈gs->t<=ss.length)(hf:nU ss gs zs):∀(m:Nat) (ws:List Nat),ws.length=ss.length->v7 ws zs->v7 (sJ ss gs m ws) zs
 |0,ws,_,h=>h
 |m+1,ws,hl,h=>by
  rw[sJ]
  cases e:d8 ss gs ws with
  |none=>exact h
  |some k =>
   dsimp only;refine zP hg hz hgt hf m _ (by rw[List.length_set];exact hl) ⟨by rw[List.length_set];exact h.1,λi=>?_⟩
   have h1:=NS e;unfold jG at h1;by_cases c:i=k
   ·subst c
    cases eg:gs[i]? with
    |none=>rw[eg] at h1;cases h1
    |some g =>
     cases g with
     |none=>rw[eg] at h1;cases h1
     |some t =>
      cases ew:ws[i]? with
      |none=>rw[eg,ew] at h1;cases h1
      |some w =>
       rw[eg,ew] at h1;have h2:jn w (bZ (c_ 0 ss gs ws) t i)=false:=by simpa using h1
       have:=An hg hl h hz hgt hf eg ew h2;have hi:i<ws.length:=(Ju.mp ew).1;rw[Jz,Lf hi,Jz,ew];exact this
   ·rw[Jz,LI (λz=>c z.symm),<- Jz];exact h.2 i
theorem qS(hg:gs.length=ss.length)(hz:∀w∈zs,w<3)(hgt:∀t,some t∈gs->t<=ss.length)(hf:nU ss gs zs)(hl:ws.length=ss.length)(h:v7 ws zs):∀m,v7 (b6 ss gs ws m) zs
 |0=>h
 |m+1=>by
  have ih:=qS hg hz hgt hf hl h m;have ll:=f7 ss gs ws m;rw[b6];generalize b6 ss gs ws m=vs at *;unfold fv;refine⟨by rw[cA];exact ih.1,λi=>?_⟩
  rcases Ku i vs.length with hi|hi
  ·have eg:=Jr (show i<gs.length by lia)
   have ew:=Jr hi;have le:=ih.2 i;rw[Jz,ew] at le;rw[Jz,step_at _ 0 gs vs i _ _ eg ew,Mf];show gB (c_ 0 ss gs vs) i gs[i] vs[i]<=_
   cases c:gs[i] with
   |none=>exact le
   |some t =>
    rw[c] at eg;show (if jn vs[i] (bZ (c_ 0 ss gs vs) t i)=true then vs[i] else min (vs[i]+1) 2)<=_
    cases ok:jn vs[i] (bZ (c_ 0 ss gs vs) t i) with
    |true=>rw[JA rfl];exact le
    |false =>
     have:=An hg (by lia) ih hz hgt hf eg ew ok
     rw[Jy (by decide)]
     lia
  ·rw[Jz,Oy (by rw[cA];exact hi)]
   exact JJ _
def Ep(hs:∀s∈ss,s<=150)(hn:ss.length<=64)(hg:gs.length=ss.length)(hgt:∀t,some t∈gs->t<=ss.length):wO ss gs=i_ ss gs (List.replicate ss.length 0):=by
 have r0:∀zs:List Nat,zs.length=ss.length->v7 (List.replicate ss.length 0) zs:=λzs h=>⟨by rw[JI,h],λi=>by
  rcases Ku i ss.length with c|c
  ·rw[Jz,List.getElem?_replicate_of_lt c];exact JJ _
  ·rw[Jz,Oy (by rw[JI];exact c)];exact JJ _⟩
 have z3:∀w∈List.replicate ss.length 0,w<3:=λw hw=>by rw[(K6.mp hw).2];decide
 have zl:(List.replicate ss.length 0).length=ss.length:=JI ..;obtain⟨a1,a2,a3⟩:=CC hs hn hg;have b1:=uQ ss gs (List.replicate ss.length 0);have b2:=su (ss:=ss) (gs:=gs) z3;have b3:=Bx (gs:=gs) hs hn zl z3;rw[zl] at b1;exact v7.Iy (zP hg b2 hgt b3 _ _ zl (r0 _ b1)) (qS hg a2 hgt a3 zl (r0 _ a1) _)
end
def CD{a b:List Nat}(h:a≠b):(Sum.inr (wd a):Key)≠.inr (wd b):=λe=>h (EO (Sum.inr.inj e))
structure Tb (kvs:List (Key×V)) (ws:List (List Nat)) (n:Nat):Prop where
 len:kvs.length=n
 yes:∀(t:Nat) (h:t<ws.length),t<n->f_ kvs (.inr (wd ws[t]))=some (.int (t:Nat))
 no:∀x,x∉ws.take n->f_ kvs (.inr (wd x))=none
def Tb.put{kvs:List (Key×V)}{ws:List (List Nat)}{n:Nat}(h:Tb kvs ws n)(hn:n<ws.length)(nd:ws.Nodup):Tb (putK kvs (.inr (wd ws[n])) (.int (n:Nat))) ws (n+1):=by
 have apart:∀t (ht:t<ws.length),t<n->ws[t]≠ws[n]:=λt ht h=>Lj.mp nd t n ht hn h;have hno:ws[n]∉ws.take n:=λhm=>by
  obtain⟨i,hi,e⟩:=MW.mp hm;rw[List.getElem_take] at e;have hi':i<n:=by rw[JG] at hi;lia
  exact apart i (by lia) hi' e
 refine⟨by rw[yR _ (h.no _ hno),Jv,h.len];rfl,λt ht htn=>?_,λx hx=>?_⟩
 ·rw[qh];rcases Ku t n with c|c
  ·rw[Jy (CD (apart t ht c))];exact h.yes t ht c
  ·have:t=n:=by lia
   subst this;rw[JA rfl]
 ·have e2:ws.take (n+1)=ws.take n++[ws[n]]:=by rw[Kp,Jr hn];rfl
  rw[e2] at hx;rw[qh,Jy (CD λe=>hx (JR _ (by rw[e];exact List.mem_singleton_self _)))]
  exact h.no x λz=>hx (KL _ z)
def FU(H:Hp)(a:Addr)(ws:List (List Nat)):Prop:=∃kvs,H a=some (.dK kvs)/\Tb kvs ws ws.length
def Io(H:Hp)(a:Addr)(cd:List (List (List Nat))):Prop:=∃t0 t1 t2,H a=some (.lst [.ref t0,.ref t1,.ref t2])/\FU H t0 (cd.getD 0 [])/\FU H t1 (cd.getD 1 [])/\FU H t2 (cd.getD 2 [])
def FU.keep{ws:List (List Nat)}(h:FU H a ws)(k:KB ex H H')(hx:∀b∈ex,∀kvs,H b≠some (.dK kvs)):FU H' a ws:=by
 obtain⟨kvs,e,h⟩:=h;exact⟨kvs,k _ _ e λz=>hx _ z _ e,h⟩
def Io.keep{cd:List (List (List Nat))}(h:Io H a cd)(k:KB ex H H')(n:a∉ex)(hx:∀b∈ex,∀kvs,H b≠some (.dK kvs)):Io H' a cd:=by
 obtain⟨t0,t1,t2,e,h0,h1,h2⟩:=h;exact⟨t0,t1,t2,k _ _ e n,h0.keep k hx,h1.keep k hx,h2.keep k hx⟩
def pO{te:TE}{tc:TT}{n:Nat}(hxy:xs.length=ys.length)(ha:H a=some (.tup xs))(hb:H b=some (.tup ys))
  (hs:∀(i:Nat) x y H' (R:Bool->Hp->Prop),xs[i]?=some x->ys[i]?=some y->KB [] H H'->(∀H4,KB [] H' H4->R false H4)->tc (some x::some y::σ) H' R) (hd:∀D H',KB [] H H'->H' D=some (.lst [])->Q (.ref D) H') :
  kj (Cz K (fu n [(false,a),(false,b)])) 2 (nH K 2 (gZ (aT 0) (gZ (aT 1) vj))) tc te Q σ H:=by
 intro D hD0;refine⟨λi m zs σ' H'=>m=xs.length-i/\i<=xs.length/\zs=[]/\H' D=some (.lst [])/\KB [] H H'/\∃o1 o2,σ'=o1::o2::σ,⟨xs.length,by simp,JJ _,rfl,aa,KB.new hD0,none,none,rfl⟩,?_⟩
 rintro i m zs σ' H' ⟨rfl,hi,rfl,g1,g2,o1,o2,rfl⟩;have q1:iK K false H' a xs:=bq.of (g2.n ha);have q2:iK K false H' b ys:=bq.of (g2.n hb);refine⟨g1,?_⟩;by_cases hlt:i<xs.length
 ·have hl2:i<ys.length:=by lia
  refine .inr ⟨⟨[xs[i],ys[i]],.cons ⟨xs,q1,by simp[hlt]⟩ (.cons ⟨ys,q2,by simp[hl2]⟩ .nil)⟩,by decide,λx H2 z=>?_⟩
  obtain⟨c,vs,pr,fr,rfl,rfl⟩:=z;obtain⟨y1,vs,rfl,e1,pr⟩:=Paired.fV pr;obtain⟨y2,vs,rfl,e2,pr⟩:=Paired.fV pr;cases pr;refine G8 ?_;have k3:KB [] H' (upd H' c (.tup [y1,y2])):=KB.new fr;refine hs i y1 y2 _ _ (e1 xs q1) (e2 ys q2) (g2.trans k3) λH4 k4=>?_;rw[Jy JF];exact⟨xs.length-(i+1),by lia,rfl,hlt,rfl,k4.n (k3.n g1),g2.trans (k3.trans k4),_,_,rfl⟩
 ·have e:i=xs.length:=by lia
  subst e;exact .inl ⟨⟨[],(false,n,a),_,[],rfl,.nil,xs,q1,rfl⟩,hd D H' g2 g1⟩
def Sm(H:Hp):Nat->V->V->Prop
 |0,x,y=>x=y/\((∃i,x=.int i)\/∃z,x=.str z)
 |n+1,x,y=>(x=y/\((∃i,x=.int i)\/∃z,x=.str z))\/∃a b xs ys,x=.ref a/\y=.ref b/\H a=some (.tup xs)/\H b=some (.tup ys)/\xs.length=ys.length/\∀(i:Nat) (u v:V),xs[i]?=some u->ys[i]?=some v->Sm H n u v
def Sm.kb{n:Nat}{x y:V}(h:Sm H n x y)(k:KB [] H H'):Sm H' n x y:=by
 induction n generalizing x y with
 |zero=>exact (show x=y/\((∃i,x=.int i)\/∃z,x=.str z) from h)
 |succ n ih =>
  rcases h with h|⟨a,b,xs,ys,e1,e2,e3,e4,e5,h⟩
  ·exact .inl h
  ·exact .inr ⟨a,b,xs,ys,e1,e2,k.n e3,k.n e4,e5,λi u v h1 h2=>ih (h i u v h1 h2)⟩
def Ie:Sp:=λ_ _ _ _=>False
def FX{x:Str}{st:Stmt}{N ps:List Str}(F:HasFn K mg x st ps)(S:av N ps (ae st)):ao P w K mg base aN (k+1) x ps Ie:=F.eZ S (λ_ _ _ _ h=>h.elim) λ_ _ _ _ _ _ _ _ _ _ h=>h.elim
def nI(n:Nat):Sp:=λvs H Q _=>∃x y,vs=[x,y]/\Sm H n x y/\∀H',KB [] H H'->Q (.bl true) H'
section
local macro_rules | `(tactic| decide) => `(tactic| exact Nat.le_refl _)
def gO(T:Txt K mg)(F:HasFn K mg "_law_same" d4 ["found","due"])(n j:Nat){sp:Sp}(h_law_same:ao P w K mg base aN j "_law_same" ["found","due"] sp)(hts:∀u v H Q E,(n=0->False)->Sm H (n-1) u v->(∀H',KB [] H H'->Q (.bl true) H')->sp [u,v] H Q E):ao P w K mg base aN (j+1) "_law_same" ["found","due"] (nI n):=by
 refine F.eZ iw (λvs H Q E h=>?_) (λf cdv A outer s H vs Q E hr h=>?_)
 ·obtain⟨x,y,rfl,_⟩:=h;rfl
 ·have hu:=aI hr;obtain⟨x,y,rfl,hx,q⟩:=h;refine⟨_,(Z.aq (Z.cZ (Z.aR fE (Z.v 1) Z.aL) (Z.ax (Z.ret (Z.cmp fE (Z.v 0) Z.aL))) Z.b9)
   (Z.aq (Z.cZ (Z.gT K rfl (Z.cb (Z.kO K rfl) rfl T.bb Kx (Z.cons (Z.v 1) (Z.cons (Z.C_ (T:="tuple") rfl T.cW (by decide +kernel)) Z.nil)))) (Z.aq (Z.cZ (Z.tw (Z.Bp (Z.je (Z.gT K rfl (Z.cb (Z.kO K rfl) rfl T.bb Kx (Z.cons (Z.v 0) (Z.cons (Z.C_ (T:="tuple") rfl T.cW (by decide +kernel)) Z.nil))))) (Z.nE (Z.aR wY (Z.cb (Z.bO K rfl) rfl T.bG (by decide +kernel) (Z.cons (Z.v 0) Z.nil)) (Z.cb (Z.bO K rfl) rfl T.bG (by decide +kernel) (Z.cons (Z.v 1) Z.nil)))))) (Z.ax (Z.ret Z.bl)) Z.b9)
   (Z.ax (Z.ret (Z.cmp (Y.Dr K rfl (Nat.lt_of_succ_lt hu)) (Z.vy (osc:=ae d4) (ON:=["found","due"]) (own:=["one","other"]) (N:=["one","other","found","due"]) (az.of rfl (by decide +kernel)) (yy K rfl rfl T.uO (Z.cons (Z.v 0) (Z.cons (Z.v 1) Z.nil))) (λnd _ _ _ _=>(Z.m8 (n:=2) K rfl rfl (Z.bw (Z.aH (i:=0) nd rfl (by right)) (Z.bw (Z.aH (i:=1) nd rfl (by right)) Z.gr)))) (λ_ _ _ _=>(Z.Ji (Z.je (Z.gT K rfl (Z.fc h_law_same (Z.cons (Z.v 0) (Z.cons (Z.v 1) Z.nil))))))) (λ_ _ _ _=>Z.int)) (Z.lst Z.nil))))) Z.b9)
   (Z.aq (Z.cZ (Z.gT K rfl (Z.cb (Z.kO K rfl) rfl T.bb Kx (Z.cons (Z.v 1) (Z.cons (Z.C_ (T:="str") rfl T.uL (by decide +kernel)) Z.nil)))) (Z.ax (Z.ret (Z.and (Z.cb (Z.kO K rfl) rfl T.bb Kx (Z.cons (Z.v 0) (Z.cons (Z.C_ (T:="str") rfl T.uL (by decide +kernel)) Z.nil))) (Z.one (Z.cmp aW (Z.v 0) (Z.v 1)))))) Z.b9)
   (Z.ax (Z.ret (Z.and (Z.cb (Z.kO K rfl) rfl T.bb Kx (Z.cons (Z.v 0) (Z.cons (Z.C_ (T:="int") rfl T.yh (by decide +kernel)) Z.nil))) (Z.and (Z.not (Z.cb (Z.kO K rfl) rfl T.bb Kx (Z.cons (Z.v 0) (Z.cons (Z.C_ (T:="bool") rfl T.Dy (by decide +kernel)) Z.nil)))) (Z.one (Z.cmp aW (Z.v 0) (Z.v 1)))))))))),?_⟩
  have hx2:(x=y/\((∃i,x=.int i)\/∃z,x=.str z))\/∃a b xs ys,x=.ref a/\y=.ref b/\(n=0->False)/\H a=some (.tup xs)/\H b=some (.tup ys)/\xs.length=ys.length/\∀(i:Nat) (u v:V),xs[i]?=some u->ys[i]?=some v->Sm H (n-1) u v:=by
   cases n with
   |zero=>exact .inl hx
   |succ n =>
    rcases hx with h|⟨a,b,xs,ys,e1,e2,h⟩
    ·exact .inl h
    ·exact .inr ⟨a,b,xs,ys,e1,e2,(λz=>by cases z),h⟩
  clear hx;refine au λN hN=>?_;rcases hx2 with ⟨rfl,h⟩|⟨a,b,xs,ys,rfl,rfl,hn0,ha,hb,hl,hs⟩
  ·rcases h with ⟨i,rfl⟩|⟨z,rfl⟩
   ·exists Jy (show ¬ V.int i=V.aL from V.noConfusion);rw[hN];clear hN N;refine au λN hN=>?_;exists (show iE "int" "tuple"=false from by decide +kernel)
    refine⟨by simp,?_⟩
    rw[hN];clear hN N;refine au λN hN=>?_;exists (show iE "int" "str"=false from by decide +kernel)
    refine⟨by simp,?_⟩
    rw[hN];clear hN N;exists (show iE "int" "int"=true from by decide +kernel),(show iE "int" "bool"=false from by decide +kernel)
    exact⟨by simp,by simp,q _ (KB.refl _ _)⟩
   ·exists Jy (show ¬ V.str z=V.aL from V.noConfusion);rw[hN];clear hN N;refine au λN hN=>?_;exists (show iE "str" "tuple"=false from by decide +kernel)
    refine⟨by simp,?_⟩
    rw[hN];clear hN N;refine au λN hN=>?_;exists (show iE "str" "str"=true from by decide +kernel)
    exact⟨by simp,by simp,q _ (KB.refl _ _)⟩
  ·exists Jy (show ¬ V.ref b=V.aL from V.noConfusion);rw[hN];clear hN N;refine au λN hN=>?_;refine gc λA B hA hB=>?_;exists hb,(show iE "tuple" "tuple"=true from by decide +kernel)
   refine⟨by simp,?_⟩
   rw[hA];clear hA hB A B;refine au λM hM=>?_;refine gc λA B hA hB=>?_;exists ha,(show iE "tuple" "tuple"=true from by decide +kernel),aF ha,aF hb
   refine⟨by simp,?_⟩
   rw[Jy (by simp),Jy (by rw[hl];simp),hB]
   show M _ _;rw[hM];clear hM M hA hB A B;nofun;rw[lg];nofun;refine⟨(false,a),(false,b),⟨rfl,rfl⟩,⟨_,bq.of ha⟩,⟨_,bq.of hb⟩,λn=>?_⟩;refine pO hl ha hb (λi u v H' R h1 h2 k kk=>?_) (λD H' k hD=>?_)
   ·nofun;refine hts u v H' _ _ hn0 ((hs i u v h1 h2).kb k) λH4 k4=>?_;nofun;exact kk H4 k4
   ·refine⟨JJ _,λp hp=>⟨D,p,[],rfl,rfl,bg.of ?_,bg.of aa,q _ (k.trans (KB.new hp))⟩⟩;rw[ak (af hD hp)];exact hD
end
def BQ(T:Txt K mg)(F:HasFn K mg "_law_same" d4 ["found","due"]):ao P w K mg base aN 5 "_law_same" ["found","due"] (nI 3):=
 gO T F 3 4 (gO T F 2 3 (gO T F 1 2 (gO T F 0 1 (FX F iw) λu v H Q E h=>(h rfl).elim) λu v H Q E _ h q=>⟨u,v,rfl,h,q⟩) λu v H Q E _ h q=>⟨u,v,rfl,h,q⟩) λu v H Q E _ h q=>⟨u,v,rfl,h,q⟩
def Cv(C:Addr):Sp:=λvs H Q _=>∃p dq x dx b bk mo ia pl ids rs n c,vs=[.ref p,.ref x,.ref mo,.ref ia]/\rj C H p dq x dx b bk mo ia pl ids rs n c/\n<2^29/\rs.length<=60/\wA C H p dq x dx b bk mo ia pl (n+1) c 60 Q
def rj.drawn{bk:List (List Int)}{rs:List Row}{n m c:Nat}(h:rj C H p dq x dx b bk mo ia pl ids rs n c)(k:KB [p,dq] H H')(D:aX H' p dq m)(hm:m<2^30):rj C H' p dq x dx b bk mo ia pl ids rs m c:=
 ⟨D,hm,h.ks.deck h.deck k,h.md.keep k h.deck.nt λa ha=>(h.sep a ha).1,h.mm,k _ _ h.at' h.di,h.hc,h.le,h.di,h.sep⟩
def wA.drawn{bk:List (List Int)}{n c M M':Nat}(q:wA C H p dq x dx b bk mo ia pl n c M Q)(D:aX H p dq n)(D':aX H' p dq n)(k:KB [p,dq] H H')(hM:M'<=M):wA C H' p dq x dx b bk mo ia pl n c M' Q:=λG c' pl' ids' rs' a1 a2 a3 a4 a5 a6 a7 a8 a9 a10 a11=>q G c' pl' ids' rs' a1 a2 a3 a4 (JC a5 hM) a6 a7 a8 a9 (λa ha=>(a10 a ha).imp id λe=>k.free (λz=>by
  obtain⟨xs,e'⟩:=D'.lst a z;rw[e'] at e;cases e) e) ((k.mono (by simp)).trans a11)
def yk(T:Txt K mg)(F:HasFn K mg "_law_deed" eO ["deck","kept","model","ids"])(h_law_draw:ao P w K mg base aN 2 "_law_draw" ["deck","most"] d9)(h_law_put:ao P w K mg base aN 5 "_law_put" ["deck","kept","model","ids"] (yn C))(h_law_take:ao P w K mg base aN 5 "_law_take" ["deck","kept","model"] (tE C)):ao P w K mg base aN 6 "_law_deed" ["deck","kept","model","ids"] (Cv C):=by
 refine F.eZ oQ (λvs H Q E h=>?_) (λf cdv A outer s H vs Q E hr h=>?_)
 ·obtain⟨p,dq,x,dx,b,bk,mo,ia,pl,ids,rs,n,c,rfl,_⟩:=h;rfl
 ·obtain⟨p,dq,x,dx,b,bk,mo,ia,pl,ids,rs,n,c,rfl,pre,hn,h60,q⟩:=h;have hu:=aI hr;refine⟨_,(Z.aq (Z.cZ (Z.tw (Z.Bp (Z.aR aW (Z.cb (Z.bO K rfl) rfl T.bG (by decide +kernel) (Z.cons (Z.v 2) Z.nil)) Z.int) (Z.nE (Z.tw (Z.qT (Z.aR (Y.DK K rfl (Nat.lt_of_succ_lt hu)) (Z.v 2) (Z.lst Z.nil)) (Z.jw (Z.aR aW (Z.fc h_law_draw (Z.cons (Z.v 0) (Z.cons Z.int Z.nil))) Z.int))))))) (Z.ax (Z.ret (Z.fc h_law_take (Z.cons (Z.v 0) (Z.cons (Z.v 1) (Z.cons (Z.v 2) Z.nil)))))) Z.b9)
   (Z.ax (Z.ret (Z.fc h_law_put (Z.cons (Z.v 0) (Z.cons (Z.v 1) (Z.cons (Z.v 2) (Z.cons (Z.v 3) Z.nil)))))))),?_⟩
  have l1:=pre.md.len;have D:=pre.deck;have D0:=D.mono (KQ n);have pre0:=pre.drawn (KB.refl _ _:KB [p,dq] H H) D0 (by lia)
  refine au λN hN=>?_;refine gc λA B hA hB=>?_;have tk:∀G,KB [p,dq] H G->aX G p dq (n+1)->1<=rs.length->A [some (.ref p),some (.ref x),some (.ref mo),some (.ref ia)] G:=λG kG DG h1=>by
   rw[hA];nofun;exact⟨p,dq,x,dx,b,bk,mo,ia,pl,ids,rs,n+1,c,rfl,pre.drawn kG DG (by lia),h1,h60,q.drawn D0 DG kG h60⟩
  have pt:∀G,KB [p,dq] H G->aX G p dq (n+1)->rs.length<=59->B [some (.ref p),some (.ref x),some (.ref mo),some (.ref ia)] G:=λG kG DG h1=>by
   rw[hB];show N _ _;rw[hN];nofun;exact⟨p,dq,x,dx,b,bk,mo,ia,pl,ids,rs,n+1,c,rfl,pre.drawn kG DG (by lia),h1,q.drawn D0 DG kG (by lia)⟩
  clear hA hB hN;exists ar pre.md.at',Jt,l1;by_cases c60:((rs.length:Nat):Int)=60
  ·rw[JA c60];exact tk H (KB.refl _ _) D0 (by lia)
  rw[Jy c60];refine⟨by decide,λel hel=>?_⟩
  obtain⟨k1,s1⟩:=cX hel (.lst []);have D1:=D.kb k1;have mo1:=k1.n pre.md.at';generalize upd H el _=H1 at *;refine⟨mo,el,pl.map V.ref,rfl,rfl,bg.of mo1,bg.of s1,_,rfl,?_⟩
  cases epl:pl with
  |nil =>
   rw[epl] at l1;rw[Jy (by decide)]
   exact pt H1 k1.all (D1.mono (by lia)) (by rw[<- l1];decide)
  |cons a0 pl0 =>
   rw[epl] at l1;rw[JA (by rfl)]
   refine⟨p,dq,3,_,rfl,D1,by lia,by decide,by decide,λv H2 hv D2 k2=>?_⟩
   nofun;by_cases cv:((v:Nat):Int)=0
   ·rw[JA cv];exact tk H2 (k1.all.trans k2) D2 (by rw[<- l1];simp)
   ·rw[Jy cv];exact pt H2 (k1.all.trans k2) D2 (by lia)
def vg{bk:List (List Int)}{rs:List Row}(hB:Bk bk)(h2:rs.length<=64)(h3:∀r∈rs,r.Ok rs.length):uG bk rs (List.replicate rs.length 0)=fL bk rs/\c_ 0 (eV (dD bk) rs) (rs.map ay) (i_ (eV (dD bk) rs) (rs.map ay) (List.replicate rs.length 0))=p7 bk rs:=by
 have sl:(eV (dD bk) rs).length=rs.length:=Jt ..;have e:o_ bk rs=i_ (eV (dD bk) rs) (rs.map ay) (List.replicate rs.length 0):=by
  unfold o_;rw[Ep (λs hs=>by
   obtain⟨r,hr,rfl⟩:=Kg.mp hs;have:=d3 hB.cd (h3 r hr)
   lia) (by rw[sl];exact h2) (by rw[sl,Jt]) λt ht=>by
    obtain⟨r,hr,e⟩:=Kg.mp ht;rw[sl];exact dw (h3 r hr) e,sl]
 unfold uG fL p7;rw[e];exact⟨rfl,rfl⟩
def Cj{n:Nat}{xs:List Int}(ha:H a=some (.tup (iV xs)))(hb:H b=some (.tup (iV xs))):Sm H (n+1) (.ref a) (.ref b):=.inr ⟨a,b,_,_,rfl,rfl,ha,hb,rfl,λi u v h1 h2=>by
 rw[h1] at h2;cases h2;obtain⟨_,rfl⟩:=kx h1
 cases n with
 |zero=>exact⟨rfl,.inl ⟨_,rfl⟩⟩
 |succ n=>exact .inl ⟨rfl,.inl ⟨_,rfl⟩⟩⟩
def AG{n:Nat}{r:Row}(ha:H a=some (.tup r.vs))(hb:H b=some (.tup r.vs)):Sm H (n+1) (.ref a) (.ref b):=.inr ⟨a,b,_,_,rfl,rfl,ha,hb,rfl,λi u v h1 h2=>by
 rw[h1] at h2;cases h2;have key:(∃i,u=.int i)\/∃z,u=.str z:=by
  rw[zp] at h1;unfold gU.vs at h1;obtain⟨m,_,rfl⟩:=Kg.mp (JY h1)
  cases m with
  |s z=>exact .inr ⟨z,rfl⟩
  |n k=>exact .inl ⟨k,rfl⟩
 cases n with
 |zero=>exact⟨rfl,key⟩
 |succ n=>exact .inl ⟨rfl,key⟩⟩
def By{n:Nat}{rs:List Row}(ha:jg H a rs)(hb:jg H b rs):Sm H (n+2) (.ref a) (.ref b):=by
 obtain⟨as,h1,l1,h2⟩:=ha;obtain⟨bs,g1,l2,g2⟩:=hb;refine .inr ⟨a,b,_,_,rfl,rfl,h1,g1,by rw[Jt,Jt,l1,l2],λj x y e1 e2=>?_⟩
 rw[J6] at e1 e2;obtain⟨c,ec,rfl⟩:=JS.mp e1;obtain⟨d,ed,rfl⟩:=JS.mp e2;have hj:j<rs.length:=by have:=(Ju.mp ec).1;lia
 have er:=Jr hj;exact AG (h2 j c _ ec er) (g2 j d _ ed er)
def xu(C:Addr):Sp:=λvs H Q _=>∃(x dx b mo:Addr) (bk:List (List Int)) (pl:List Addr) (ids:List Int) (rs:List Row) (way:Nat),vs=[.ref x,.ref mo,.ref b,.int (way:Nat)]/\iM C H x dx b bk rs/\lY H mo pl ids rs/\Md ids rs/\Bk bk/\rs.length<=60/\way<5/\∀H',KB [] H H'->Q (.bl true) H'
def wc{fp fb fl:Addr}{d_program d_bits d_places:FuncData}(T:Txt K mg)(F:HasFn K mg "_law_right" dG ["kept","model","book","way"])(h_law_due:ao P w K mg base aN 1 "_law_due" ["model"] yX)(h_law_packed:ao P w K mg base aN 3 "_law_packed" ["program","book","widths"] (jY K))(h_law_same:ao P w K mg base aN 5 "_law_same" ["found","due"] (nI 3))(cM:j8 K C)(mm_program:Meth K C "program" fp)(bm_program:Binds K d_program ["self"] [])(FO_program:bY P w K mg base aN 1 fp d_program ["self"] (sV C))(mm_bits:Meth K C "bits" fb)(bm_bits:Binds K d_bits ["self"] [])(FO_bits:bY P w K mg base aN 8 fb d_bits ["self"] (tQ C))(mm_places:Meth K C "places" fl)(bm_places:Binds K d_places ["self"] [])(FO_places:bY P w K mg base aN 8 fl d_places ["self"] (n6 C)):ao P w K mg base aN 9 "_law_right" ["kept","model","book","way"] (xu C):=by
 refine F.eZ cB (λvs H Q E h=>?_) (λf cdv A outer s H vs Q E hr h=>?_)
 ·obtain⟨x,dx,b,mo,bk,pl,ids,rs,way,rfl,_⟩:=h;rfl
 ·obtain⟨x,dx,b,mo,bk,pl,ids,rs,way,rfl,ks,md,mm,hBk,hl,hw,q⟩:=h;have hu:=aI hr;refine⟨_,(Z.aq (Z.se (i:=4) cB.nd (Z.fc h_law_due (Z.cons (Z.v 1) Z.nil)))
   (Z.aq (Z.asg (Z.fc h_law_packed (Z.cons (Z.v 4) (Z.cons (Z.v 2) (Z.cons (Z.op cF (Z.lst (Z.cons Z.int Z.nil)) (Z.cb (Z.bO K rfl) rfl T.bG (by decide +kernel) (Z.cons (Z.v 4) Z.nil))) Z.nil)))) (Z.m8 (n:=2) K rfl rfl (Z.bw (Z.aH (i:=5) cB.nd rfl (by right)) (Z.bw (Z.aH (i:=6) cB.nd rfl (by right)) Z.gr))))
   (Z.aq (Z.fh JZ rfl (Z.any K rfl (Z.ix (Z.aA K rfl hu) (Z.lst (Z.cons (Z.lst (Z.consts rfl)) (Z.cons (Z.lst (Z.consts rfl)) (Z.cons (Z.lst (Z.consts rfl)) (Z.cons (Z.lst (Z.consts rfl)) (Z.cons (Z.lst (Z.consts rfl)) Z.nil)))))) (Z.v 3))) (Z.aH (i:=7) cB.nd rfl (by right)) (Z.aq (Z.cZ (Z.tw (Z.qT (Z.aR aW (Z.v 7) Z.int) (Z.jw (Z.je (Z.gT K rfl (Z.fc h_law_same (Z.cons (Z.yM K rfl (Z.v 0) cM mm_bits FO_bits (hr.mono (by decide)) bm_bits kN) (Z.cons (Z.v 5) Z.nil)))))))) (Z.ax (Z.ret Z.bl)) Z.b9)
   (Z.aq (Z.cZ (Z.tw (Z.qT (Z.aR aW (Z.v 7) Z.int) (Z.jw (Z.je (Z.gT K rfl (Z.fc h_law_same (Z.cons (Z.yM K rfl (Z.v 0) cM mm_places FO_places (hr.mono (by decide)) bm_places kN) (Z.cons (Z.v 6) Z.nil)))))))) (Z.ax (Z.ret Z.bl)) Z.b9)
   (Z.ax (Z.cZ (Z.tw (Z.qT (Z.aR aW (Z.v 7) Z.int) (Z.jw (Z.je (Z.gT K rfl (Z.fc h_law_same (Z.cons (Z.yM K rfl (Z.v 0) cM mm_program FO_program (hr.mono (by decide)) bm_program kN) (Z.cons (Z.v 4) Z.nil)))))))) (Z.ax (Z.ret Z.bl)) Z.b9)))))
   (Z.ax (Z.ret Z.bl))))),?_⟩
  have l1:=md.len;refine au λN hN=>?_;nofun;refine⟨mo,pl,ids,rs,rfl,md,mm,hl,λdt H1 k1 hd=>?_⟩;subst hN;have ks1:=ks.kb k1;obtain⟨as,ha,hpl,_⟩:=id hd;refine au λN hN=>?_;exists aF ha,Jt,hpl;refine⟨by decide,λz1 hz1=>?_⟩
  obtain⟨k2,s2⟩:=cX hz1 (.lst [.int 0]);have ha2:=k2.n ha;generalize upd H1 z1 _=H2 at *;exists aF ha2,Jt,hpl;refine⟨z1,_,_,rfl,rfl,s2,by lia,by lia,JC (show _<=60 by simp;lia) (by decide),λza hza=>?_⟩
  have er:(List.replicate rs.length [V.int 0]).flatten=iV (nZ (List.replicate rs.length 0)):=by
   generalize rs.length=n;unfold iV nZ
   induction n with
   |zero=>rfl
   |succ n ih=>rw[Kk,Lr,ih];rfl
  rw[JW,er];obtain⟨k3,s3⟩:=cX hza (.lst (iV (nZ (List.replicate rs.length 0))));generalize upd H2 za _=H3 at *;have k13:=k2.trans k3;have ks3:=ks1.kb k13;have hd3:=hd.kb k13;have aP:=mm.ok;refine⟨dt,b,za,bk,rs,List.replicate rs.length 0,rfl,hd3,ks3.bk,hBk,s3,JI ..,by lia,aP,λw hw=>by rw[(K6.mp hw).2];decide,λt u H4 k4 g1 g2=>?_⟩
  obtain⟨bp1,bp2⟩:=vg hBk (by lia) aP
  rw[bp1] at g1;rw[bp2] at g2;refine⟨t,_,rfl,bq.of g1,rfl,_,_,rfl,_,_,rfl,rfl,?_⟩;rw[hN];clear hN N bp1 bp2;have ks4:=ks3.kb k4;have hd4:=hd3.kb k4;have k04:=k1.trans (k13.trans k4);clear ha ha2 hpl s2 s3 ks1 ks3 hd hd3 k2 k3 k4 k13 k1 md er;refine au λN hN=>?_;nofun;refine⟨by decide,λl0 n0=>?_⟩
  obtain⟨j0,i0⟩:=cX n0 (.lst [.int 0,.int 1]);generalize upd H4 l0 _=G0 at *;refine⟨by decide,λl1 n1=>?_⟩
  obtain⟨j1,i1⟩:=cX n1 (.lst [.int 1,.int 0])
  replace i0:=j1.n i0
  generalize upd G0 l1 _=G1 at *;refine⟨by decide,λl2 n2=>?_⟩
  obtain⟨j2,i2⟩:=cX n2 (.lst [.int 0,.int 0])
  replace i0:=j2.n i0
  replace i1:=j2.n i1
  generalize upd G1 l2 _=G2 at *;refine⟨by decide,λl3 n3=>?_⟩
  obtain⟨j3,i3⟩:=cX n3 (.lst [.int 1,.int 1])
  replace i0:=j3.n i0
  replace i1:=j3.n i1
  replace i2:=j3.n i2
  generalize upd G2 l3 _=G3 at *;refine⟨by decide,λl4 n4=>?_⟩
  obtain⟨j4,i4⟩:=cX n4 (.lst [.int 2,.int 0])
  replace i0:=j4.n i0
  replace i1:=j4.n i1
  replace i2:=j4.n i2
  replace i3:=j4.n i3
  generalize upd G3 l4 _=G4 at *;refine⟨by decide,λl5 n5=>?_⟩
  have j5:=KB.new (ex:=[]) (o:=.lst [.ref l0,.ref l1,.ref l2,.ref l3,.ref l4]) n5
  replace i0:=j5.n i0
  replace i1:=j5.n i1
  replace i2:=j5.n i2
  replace i3:=j5.n i3
  replace i4:=j5.n i4
  have k45:=j0.trans (j1.trans (j2.trans (j3.trans (j4.trans j5))));generalize upd G4 l5 (.lst [.ref l0,.ref l1,.ref l2,.ref l3,.ref l4])=H5 at *;obtain⟨la,a,a',ea,ha,h1,h2⟩:∃(la:Addr) (a a':Nat),bI [V.ref l0,.ref l1,.ref l2,.ref l3,.ref l4] (way:Int)=some (.ref la)/\H5 la=some (.lst [.int (a:Nat),.int (a':Nat)])/\a<3/\a'<3:=by
   rcases (show way=0\/way=1\/way=2\/way=3\/way=4 by lia) with rfl|rfl|rfl|rfl|rfl
   ·exact⟨l0,0,1,rfl,i0,by decide,by decide⟩
   ·exact⟨l1,1,0,rfl,i1,by decide,by decide⟩
   ·exact⟨l2,0,0,rfl,i2,by decide,by decide⟩
   ·exact⟨l3,1,1,rfl,i3,by decide,by decide⟩
   ·exact⟨l4,2,0,rfl,i4,by decide,by decide⟩
  clear j0 j1 j2 j3 j4 j5 i0 i1 i2 i3 i4 n0 n1 n2 n3 n4 n5;have k05:=k04.trans k45;have ks5:=ks4.kb k45;have hd5:=hd4.kb k45;have g5:=k45.n g2;exists ea,ar ha;refine dN (xs:=[V.int (a:Nat),.int (a':Nat)]) (λj σ G=>∃o8:Option V,KB [] H5 G/\σ=[some (.ref x),some (.ref mo),some (.ref b),some (.int (way:Nat)),some (.ref dt),some (.str (wd (fL bk rs))),some (.ref u),o8]) ⟨none,KB.refl _ _,rfl⟩ (λj σ G _ h=>by obtain⟨_,k,_⟩:=h;exact bg.of (k.n ha)) ?_ ?_
  ·rintro j y σ G ey ⟨o8,kG,rfl⟩;obtain⟨m,hm,rfl⟩:∃m:Nat,m<3/\y=.int (m:Nat):=by
    have hj:j<2:=(Ju.mp ey).1;rcases (show j=0\/j=1 by lia) with rfl|rfl
    ·cases ey;exact⟨a,h1,rfl⟩
    ·cases ey;exact⟨a',h2,rfl⟩
   have ksG:=ks5.kb kG;have hdG:=hd5.kb kG;have gG:=kG.n g5;obtain⟨rx,oxG,_⟩:=ksG.ex;unfold aT;dsimp only;have fin:∀G',KB [] G G'->∃o8:Option V,KB [] H5 G'/\[some (.ref x),some (.ref mo),some (.ref b),some (.int (way:Nat)),some (.ref dt),some (.str (wd (fL bk rs))),some (.ref u),some (V.int (m:Nat))]=[some (.ref x),some (.ref mo),some (.ref b),some (.int (way:Nat)),some (.ref dt),some (.str (wd (fL bk rs))),some (.ref u),o8]:=λG' k=>⟨_,kG.trans k,rfl⟩;refine au λM hM=>?_;refine gc λA B hA hB=>?_;rcases mD hm with rfl|rfl|rfl
   ·nofun;rw[JA (by decide)]
    refine⟨_,dx,_,rfl,oxG,rfl,x,dx,b,bk,rs,rfl,ksG,hBk,by lia,aP,λG1 q1=>⟨_,_,rfl,.inl ⟨rfl,.inr ⟨_,rfl⟩⟩,λG2 q2=>⟨true,rfl,?_⟩⟩⟩
    rw[Jy (by decide),hB]
    show M _ _;rw[hM];clear hM M hA hB A B;refine au λM hM=>?_;refine gc λA B hA hB=>?_;nofun;rw[Jy (by decide),hB]
    show M _ _;rw[hM];clear hM M hA hB A B;refine jS λM hM=>?_;refine gc λA B hA hB=>?_;nofun;rw[Jy (by decide),hB]
    show M _ _;rw[hM];exact fin G2 (q1.trans q2)
   ·nofun;rw[Jy (by decide),hB]
    show M _ _;rw[hM];clear hM M hA hB A B;refine au λM hM=>?_;refine gc λA B hA hB=>?_;nofun;rw[JA (by decide)]
    refine⟨_,dx,_,rfl,oxG,rfl,x,dx,b,bk,rs,rfl,ksG,hBk,by lia,aP,λv G1 q1 hv=>⟨_,_,rfl,Cj hv (q1.n gG),λG2 q2=>⟨true,rfl,?_⟩⟩⟩
    rw[Jy (by decide),hB]
    show M _ _;rw[hM];clear hM M hA hB A B;refine jS λM hM=>?_;refine gc λA B hA hB=>?_;nofun;rw[Jy (by decide),hB]
    show M _ _;rw[hM];exact fin G2 (q1.trans q2)
   ·nofun;rw[Jy (by decide),hB]
    show M _ _;rw[hM];clear hM M hA hB A B;refine au λM hM=>?_;refine gc λA B hA hB=>?_;nofun;rw[Jy (by decide),hB]
    show M _ _;rw[hM];clear hM M hA hB A B;refine jS λM hM=>?_;refine gc λA B hA hB=>?_;nofun;rw[JA (by decide)]
    refine⟨_,dx,_,rfl,oxG,rfl,x,dx,b,bk,rs,rfl,ksG,λra hra=>⟨_,_,rfl,By hra hdG,λG2 q2=>⟨true,rfl,?_⟩⟩⟩;rw[Jy (by decide),hB]
    show M _ _;rw[hM];exact fin G2 q2
  ·rintro σ G ⟨o8,kG,rfl⟩;show N _ _;subst hN;nofun;exact q G (k05.trans kG)
structure Tm (C:Addr) (H:Hp) (p dq:Addr) (F:List Addr) (ia x dx b:Addr) (bk:List (List Int)) (mo:Addr) (pl:List Addr) (ids:List Int) (rs:List Row) (y dy c:Addr) (ck:List (List Int)) (mo2:Addr) (pl2:List Addr) (ids2:List Int) (rs2:List Row) (n cN:Nat):Prop where
 deck:aX H p dq n
 k1:iM C H x dx b bk rs
 m1:lY H mo pl ids rs
 d1:Md ids rs
 l1:rs.length<=60
 i1:∀i∈ids,i<=cN
 k2:iM C H y dy c ck rs2
 m2:lY H mo2 pl2 ids2 rs2
 d2:Md ids2 rs2
 l2:rs2.length<=60
 i2:∀i∈ids2,i<=cN
 ne:x≠y
 at':H ia=some (.lst (iV (nums cN)))
 di:ia∉[p,dq]
 sep:∀a∈mo::pl,a∉mo2::pl2/\a∉[p,dq]/\a≠ia/\a∉F
 xV:∀a∈mo2::pl2,a∉[p,dq]/\a≠ia/\a∉F
 fx:∀a∈F,a∉[p,dq]/\a≠ia/\∃xs,H a=some (.lst xs)
section
variable {C:Addr} {H H':Hp} {p dq:Addr} {F:List Addr} {ia x dx b:Addr} {bk:List (List Int)} {mo:Addr} {pl:List Addr} {ids:List Int} {rs:List Row} {y dy c:Addr} {ck:List (List Int)} {mo2:Addr} {pl2:List Addr} {ids2:List Int} {rs2:List Row} {n cN:Nat}
def Tm.swap(t:Tm C H p dq F ia x dx b bk mo pl ids rs y dy c ck mo2 pl2 ids2 rs2 n cN):Tm C H p dq F ia y dy c ck mo2 pl2 ids2 rs2 x dx b bk mo pl ids rs n cN:=
 ⟨t.deck,t.k2,t.m2,t.d2,t.l2,t.i2,t.k1,t.m1,t.d1,t.l1,t.i1,t.ne.symm,t.at',t.di,λa ha=>⟨λz=>(t.sep a z).1 ha,t.xV a ha⟩,λa ha=>(t.sep a ha).2,t.fx⟩
def Tm.pre(t:Tm C H p dq F ia x dx b bk mo pl ids rs y dy c ck mo2 pl2 ids2 rs2 n cN)(hn:n<2^30)(hc:cN<1000):rj C H p dq x dx b bk mo ia pl ids rs n cN:=⟨t.deck,hn,t.k1,t.m1,t.d1,t.at',hc,t.i1,t.di,λa ha=>⟨(t.sep a ha).2.1,(t.sep a ha).2.2.1⟩⟩
def Tm.drawn(t:Tm C H p dq F ia x dx b bk mo pl ids rs y dy c ck mo2 pl2 ids2 rs2 n cN){m:Nat}(k:KB [p,dq] H H')(D:aX H' p dq m):Tm C H' p dq F ia x dx b bk mo pl ids rs y dy c ck mo2 pl2 ids2 rs2 m cN:=
 ⟨D,t.k1.deck t.deck k,t.m1.keep k t.deck.nt λa ha=>(t.sep a ha).2.1,t.d1,t.l1,t.i1,t.k2.deck t.deck k,t.m2.keep k t.deck.nt λa ha=>(t.xV a ha).1,t.d2,t.l2,t.i2,t.ne,k _ _ t.at' t.di,t.di,t.sep,t.xV,λa ha=>⟨(t.fx a ha).1,(t.fx a ha).2.1,by obtain⟨h1,_,xs,e⟩:=t.fx a ha;exact⟨xs,k _ _ e h1⟩⟩⟩
def Tm.kb(t:Tm C H p dq F ia x dx b bk mo pl ids rs y dy c ck mo2 pl2 ids2 rs2 n cN)(k:KB [] H H'):Tm C H' p dq F ia x dx b bk mo pl ids rs y dy c ck mo2 pl2 ids2 rs2 n cN:=t.drawn k.all (t.deck.kb k)
def Tm.post(t:Tm C H p dq F ia x dx b bk mo pl ids rs y dy c ck mo2 pl2 ids2 rs2 n cN){m c':Nat}{pl':List Addr}{ids':List Int}{rs':List Row}(a1:aX H' p dq m)(a2:iM C H' x dx b bk rs')(a3:lY H' mo pl' ids' rs')(a4:Md ids' rs')(a5:rs'.length<=60)(a6:H' ia=some (.lst (iV (nums c'))))(a7:cN<=c')(a9:∀i∈ids',i<=c')(a10:∀a∈pl',a∈pl\/H a=none)(k:KB (p::dq::x::mo::ia::pl) H H'):Tm C H' p dq F ia x dx b bk mo pl' ids' rs' y dy c ck mo2 pl2 ids2 rs2 m c'/\∀a∈F,H' a=H a:=by
 obtain⟨_,ox,_⟩:=t.k1.ex;obtain⟨_,oy,_⟩:=t.k2.ex;have lst:∀a∈p::dq::x::mo::ia::pl,a=x\/∃xs,H a=some (.lst xs):=λa ha=>by
  simp only[Jw] at ha;rcases ha with rfl|rfl|rfl|rfl|rfl|ha
  ·exact .inr (t.deck.lst _ (by simp))
  ·exact .inr (t.deck.lst _ (by simp))
  ·exact .inl rfl
  ·exact .inr ⟨_,t.m1.at'⟩
  ·exact .inr ⟨_,t.at'⟩
  ·exact .inr (t.m1.lst t.d1 a (Jx _ ha))
 have nt:NT (p::dq::x::mo::ia::pl) H:=λa ha vs e=>by
  rcases lst a ha with rfl|⟨xs,e'⟩
  ·rw[ox] at e;cases e
  ·rw[e'] at e;cases e
 have no:∀{a:Addr} {o:HO},H a=some o->(∀xs,o≠.lst xs)->a≠x->a∉p::dq::x::mo::ia::pl:=λ{a o} e ho hx ha=>by
  rcases lst a ha with rfl|⟨xs,e'⟩
  ·exact hx rfl
  ·rw[e] at e';exact ho xs (Option.some.inj e')
 have n2:∀a∈mo2::pl2,a∉p::dq::x::mo::ia::pl:=λa ha z=>by
  have s:=t.xV a ha;obtain⟨xs,e⟩:=t.m2.lst t.d2 a ha;simp only[Jw,JO,Kn,M4] at z s;rcases z with rfl|rfl|rfl|rfl|rfl|z
  ·exact s.1.1 rfl
  ·exact s.1.2 rfl
  ·rw[ox] at e;cases e
  ·exact (t.sep _ J7).1 ha
  ·exact s.2.1 rfl
  ·exact (t.sep _ (Jx _ z)).1 ha
 have nf:∀a∈F,a∉p::dq::x::mo::ia::pl:=λa ha z=>by
  obtain⟨s1,s2,xs,e⟩:=t.fx a ha;simp only[Jw,JO,Kn,M4] at z s1;rcases z with rfl|rfl|rfl|rfl|rfl|z
  ·exact s1.1 rfl
  ·exact s1.2 rfl
  ·rw[ox] at e;cases e
  ·exact (t.sep _ J7).2.2.2 ha
  ·exact s2 rfl
  ·exact (t.sep _ (Jx _ z)).2.2.2 ha
 have new:∀a∈mo::pl',a∈mo::pl\/H a=none:=λa ha=>by
  rcases Jw.mp ha with rfl|ha
  ·exact .inl J7
  ·exact (a10 a ha).imp (Jx _) id
 refine⟨⟨a1,a2,a3,a4,a5,a9,t.k2.keep k nt (no oy (λ_=>by simp) t.ne.symm) (no t.k2.od (λ_=>by simp) λz=>by have:=t.k2.od;rw[z,ox] at this;cases this),t.m2.keep k nt n2,t.d2,t.l2,λi hi=>by have:=t.i2 i hi;lia,t.ne,a6,t.di,λa ha=>?_,t.xV,λa ha=>⟨(t.fx a ha).1,(t.fx a ha).2.1,by obtain⟨_,_,xs,e⟩:=t.fx a ha;exact⟨xs,k _ _ e (nf a ha)⟩⟩⟩,λa ha=>by obtain⟨_,_,xs,e⟩:=t.fx a ha;rw[e];exact k _ _ e (nf a ha)⟩
 rcases new a ha with z|z
 ·exact t.sep a z
 ·refine⟨λy=>?_,λy=>?_,λy=>?_,λy=>?_⟩
  ·obtain⟨xs,e⟩:=t.m2.lst t.d2 a y;rw[z] at e;cases e
  ·obtain⟨xs,e⟩:=t.deck.lst a y;rw[z] at e;cases e
  ·have:=t.at';rw[<- y,z] at this;cases this
  ·obtain⟨_,_,xs,e⟩:=t.fx a y;rw[z] at e;cases e
end
def ER(C:Addr)(H:Hp)(p dq:Addr)(F:List Addr)(ia x dx b:Addr)(bk:List (List Int))(mo:Addr)(y dy c:Addr)(ck:List (List Int))(mo2:Addr)(n cN:Nat):Prop:=∃pl ids rs pl2 ids2 rs2,Tm C H p dq F ia x dx b bk mo pl ids rs y dy c ck mo2 pl2 ids2 rs2 n cN
def ER.pick{F:List Addr}{bk:List (List Int)}{y dy c:Addr}{ck:List (List Int)}{mo2:Addr}{n cN:Nat}(t:ER C H p dq F ia x dx b bk mo y dy c ck mo2 n cN)(hB:Bk bk)(hC:Bk ck){v:Nat}(hv:v<2):∃x' dx' b' bk' mo' pl ids rs y' dy' c' ck' mo2' pl2 ids2 rs2,bI [V.ref x,.ref y] (v:Int)=some (.ref x')/\bI [V.ref b,.ref c] (v:Int)=some (.ref b')/\bI [V.ref mo,.ref mo2] (v:Int)=some (.ref mo')/\Bk bk'/\Tm C H p dq F ia x' dx' b' bk' mo' pl ids rs y' dy' c' ck' mo2' pl2 ids2 rs2 n cN/\∀G pl ids rs pl2 ids2 rs2 n cN,Tm C G p dq F ia x' dx' b' bk' mo' pl ids rs y' dy' c' ck' mo2' pl2 ids2 rs2 n cN->ER C G p dq F ia x dx b bk mo y dy c ck mo2 n cN:=by
 obtain⟨pl,ids,rs,pl2,ids2,rs2,t⟩:=t;rcases (show v=0\/v=1 by lia) with rfl|rfl
 ·exact⟨x,dx,b,bk,mo,pl,ids,rs,y,dy,c,ck,mo2,pl2,ids2,rs2,rfl,rfl,rfl,hB,t,λG pl ids rs pl2 ids2 rs2 n cN t=>⟨_,_,_,_,_,_,t⟩⟩
 ·exact⟨y,dy,c,ck,mo2,pl2,ids2,rs2,x,dx,b,bk,mo,pl,ids,rs,rfl,rfl,rfl,hC,t.swap,λG pl ids rs pl2 ids2 rs2 n cN t=>⟨_,_,_,_,_,_,t.swap⟩⟩
def v5(C:Addr):Sp:=λvs H Q _=>∃(p dq x dx b:Addr) (n:Nat) (bk:List (List Int)) (rs:List Row),vs=[.ref p,.ref x,.int (rs.length:Nat)]/\aX H p dq n/\n<2^37/\iM C H x dx b bk rs/\rs.length<=60/\∀H',KB [p,dq] H H'->aX H' p dq (n+20)->Q (.bl true) H'
def rT{fp ft:Addr}(T:Txt K mg)(F:HasFn K mg "_law_refused" cT ["deck","kept","many"])(h_law_draw:ao P w K mg base aN 2 "_law_draw" ["deck","most"] d9)(h_law_row:ao P w K mg base aN 4 "_law_row" ["deck","goals"] (tL K))(cM:j8 K C)(mm_put_in:Meth K C "put_in" fp)(bm_put_in:Binds K d_put_in ["self","place","row"] [])(FP:∀N,mg "NoRow"=some (.ref N)->gE K N->bY P w K mg base (wN P w) 4 fp d_put_in ["self","place","row"] (kA C N))(mm_take_out:Meth K C "take_out" ft)(bm_take_out:Binds K d_take_out ["self","place"] [])(FT:∀N,mg "NoRow"=some (.ref N)->gE K N->bY P w K mg base (wN P w) 4 ft d_take_out ["self","place"] (jO C N)):ao P w K mg base aN 5 "_law_refused" ["deck","kept","many"] (v5 C):=by
 obtain⟨C_ShortError,C_NoRow,C_NoAsk,C_NoBits,C_NoCode,C_NoProgram,C_NoReach,hC_ShortError,hC_NoRow,hC_NoAsk,hC_NoBits,hC_NoCode,hC_NoProgram,hC_NoReach,kC_ShortError,kC_NoRow,xC_NoRow,p0,p1,p2,p3⟩:=T.xs;have FO_put_in:=FP _ hC_NoRow kC_NoRow;have FO_take_out:=FT _ hC_NoRow kC_NoRow;refine F.eZ bp (λvs H Q E h=>?_) (λf cdv A outer s H vs Q E hr h=>?_)
 ·obtain⟨p,dq,x,dx,b,n,bk,rs,rfl,_⟩:=h;rfl
 ·have hu:=aI hr;obtain⟨p,dq,x,dx,b,n,bk,rs,rfl,hD,hn,ks,hl,q⟩:=h;refine⟨_,(Z.aq (Z.se (i:=3) bp.nd (Z.fc h_law_draw (Z.cons (Z.v 0) (Z.cons Z.int Z.nil))))
   (Z.aq (Z.cZ (Z.aR aW (Z.v 2) Z.int) (Z.ax (Z.se (i:=3) bp.nd (Z.op (Z.aE K rfl) Z.int (Z.op dA (Z.v 3) Z.int)))) Z.b9)
   (Z.aq (Z.se (i:=4) bp.nd (Z.op (Z.aE K rfl) Z.int (Z.fc h_law_draw (Z.cons (Z.v 0) (Z.cons (Z.ix (Z.aA K rfl hu) (Z.lst (Z.cons Z.int (Z.cons (Z.op xP Z.int Z.int) Z.nil))) (Z.fc h_law_draw (Z.cons (Z.v 0) (Z.cons Z.int Z.nil)))) Z.nil)))))
   (Z.aq (Z.se (i:=5) bp.nd Z.aL)
   (Z.aq (Z.IH (i:=6) K hC_ShortError kC_ShortError bp.nd (λ_ _ _ hD=>(Z.ax (Z.cZ (Z.aR aW (Z.v 3) Z.int) (Z.ax (Z.expr (Z.h9 K hD (Z.v 1) cM mm_put_in FO_put_in bm_put_in (Z.cons (Z.op (Z.aE K rfl) (Z.v 2) (Z.v 4)) (Z.cons (Z.fc h_law_row (Z.cons (Z.v 0) (Z.cons (Z.op (Z.aE K rfl) (Z.v 2) Z.int) Z.nil))) Z.nil))))) (Z.ax (Z.cZ (Z.aR aW (Z.v 3) Z.int) (Z.ax (Z.expr (Z.h9 K hD (Z.v 1) cM mm_put_in FO_put_in bm_put_in (Z.cons (Z.op cw Z.int (Z.v 4)) (Z.cons (Z.fc h_law_row (Z.cons (Z.v 0) (Z.cons (Z.op (Z.aE K rfl) (Z.v 2) Z.int) Z.nil))) Z.nil))))) (Z.ax (Z.cZ (Z.aR aW (Z.v 3) Z.int) (Z.ax (Z.expr (Z.h9 K hD (Z.v 1) cM mm_put_in FO_put_in bm_put_in (Z.cons (Z.fc h_law_draw (Z.cons (Z.v 0) (Z.cons (Z.op (Z.aE K rfl) (Z.v 2) Z.int) Z.nil))) (Z.cons (Z.tup (Z.cons Z.str (Z.cons (Z.op (Z.aE K rfl) (Z.op (Z.aE K rfl) (Z.v 2) Z.int) (Z.v 4)) Z.nil))) Z.nil))))) (Z.ax (Z.cZ (Z.aR aW (Z.v 3) Z.int) (Z.ax (Z.expr (Z.h9 K hD (Z.v 1) cM mm_put_in FO_put_in bm_put_in (Z.cons (Z.fc h_law_draw (Z.cons (Z.v 0) (Z.cons (Z.op (Z.aE K rfl) (Z.v 2) Z.int) Z.nil))) (Z.cons (Z.tup (Z.cons Z.str (Z.cons Z.str (Z.cons (Z.op (Z.aE K rfl) (Z.op (Z.aE K rfl) (Z.v 2) Z.int) (Z.v 4)) Z.nil)))) Z.nil))))) (Z.ax (Z.cZ (Z.aR aW (Z.v 3) Z.int) (Z.ax (Z.expr (Z.h9 K hD (Z.v 1) cM mm_put_in FO_put_in bm_put_in (Z.cons (Z.fc h_law_draw (Z.cons (Z.v 0) (Z.cons (Z.op (Z.aE K rfl) (Z.v 2) Z.int) Z.nil))) (Z.cons (Z.tup (Z.cons Z.str (Z.cons (Z.op cw Z.int (Z.v 4)) Z.nil))) Z.nil))))) (Z.ax (Z.cZ (Z.aR aW (Z.v 3) Z.int) (Z.ax (Z.expr (Z.h9 K hD (Z.v 1) cM mm_put_in FO_put_in bm_put_in (Z.cons (Z.fc h_law_draw (Z.cons (Z.v 0) (Z.cons (Z.op (Z.aE K rfl) (Z.v 2) Z.int) Z.nil))) (Z.cons (Z.tup (Z.cons Z.str (Z.cons Z.str (Z.cons (Z.op cw Z.int (Z.v 4)) Z.nil)))) Z.nil))))) (Z.ax (Z.cZ (Z.aR aW (Z.v 3) Z.int) (Z.ax (Z.expr (Z.h9 K hD (Z.v 1) cM mm_take_out FO_take_out bm_take_out (Z.cons (Z.op (Z.aE K rfl) (Z.op cw (Z.v 2) Z.int) (Z.v 4)) Z.nil)))) (Z.ax (Z.expr (Z.h9 K hD (Z.v 1) cM mm_take_out FO_take_out bm_take_out (Z.cons (Z.op cw Z.int (Z.v 4)) Z.nil))))))))))))))))))) (λ_=>(Z.ax (Z.se (i:=5) bp.nd (Z.v 6)))))
   (Z.aq (Z.cZ (Z.gT K rfl (Z.cb (HA K [C_NoAsk,C_NoBits,C_NoCode,C_NoProgram,C_NoReach] rfl) rfl T.bb (by decide +kernel) (Z.cons (Z.v 5) (Z.cons (Z.tup (Z.cons (Z.glob rfl hC_NoAsk (show RelV (.ref C_NoAsk) _ from rfl)) (Z.cons (Z.glob rfl hC_NoBits (show RelV (.ref C_NoBits) _ from rfl)) (Z.cons (Z.glob rfl hC_NoCode (show RelV (.ref C_NoCode) _ from rfl)) (Z.cons (Z.glob rfl hC_NoProgram (show RelV (.ref C_NoProgram) _ from rfl)) (Z.cons (Z.glob rfl hC_NoReach (show RelV (.ref C_NoReach) _ from rfl)) Z.nil)))))) Z.nil)))) (Z.ax (Z.ret Z.bl)) Z.b9)
   (Z.ax (Z.ret (Z.and (Z.cb (CW K (.ref C_NoRow) (.ref C_NoRow) (λ_ h=>h) rfl) rfl T.bb (by decide +kernel) (Z.cons (Z.v 5) (Z.cons (Z.glob rfl hC_NoRow (show RelV (.ref C_NoRow) _ from rfl)) Z.nil))) (Z.one (Z.cb (CW K (.ty "ValueError") (.type "ValueError") (λ_ h=>h) rfl) rfl T.bb (by decide +kernel) (Z.cons (Z.v 5) (Z.cons (Z.C_ (T:="ValueError") rfl T.nM (by decide +kernel)) Z.nil))))))))))))),?_⟩
  refine au λN hN=>?_;nofun;refine⟨p,dq,8,n,rfl,hD,by lia,by decide,by decide,λw0 H1 hw0 D1 k1=>?_⟩
  subst hN;refine au λN hN=>?_;have go:∀w1:Nat,w1<8->(rs.length=60->6<=w1)->N [some (.ref p),some (.ref x),some (.int (rs.length:Nat)),some (.int (w1:Nat)),none,none,none] H1:=by
   intro w1 hw hw6;subst hN;have ks1:=ks.deck hD k1;refine au λN hN=>?_;nofun;refine⟨⟨by decide,by decide,by decide⟩,by decide,λl hl'=>?_⟩
   rw[show (10:Int)^Int.toNat 6=1000000 from rfl];obtain⟨k2,s2⟩:=cX hl' (.lst [.int 2,.int 1000000]);generalize upd H1 l _=H2 at *;have nl:=D1.new hl';have D2:=D1.kb k2;refine⟨p,dq,2,_,rfl,D2,by lia,by decide,by decide,λv H3 hv D3 k3=>?_⟩
   obtain⟨m,hm,em⟩:∃m:Int,(0<m/\m<=1000000)/\bI [V.int 2,.int 1000000] (v:Int)=some (.int m):=by
    rcases (show v=0\/v=1 by lia) with rfl|rfl
    ·exact⟨2,by decide,rfl⟩
    ·exact⟨1000000,by decide,rfl⟩
   exists ar (k3 _ _ s2 nl),em;refine⟨p,dq,m,_,rfl,D3,by lia,hm.1,by lia,λf0 H4 hf0 D4 k4=>?_⟩
   have ks4:=((ks1.kb k2).deck D2 k3).deck D3 k4;have k04:KB [p,dq] H H4:=k1.trans (k2.all.trans (k3.trans k4));nofun;rw[show (1:Int)+((f0:Nat):Int)=((1+f0:Nat):Int) from rfl];obtain⟨far,ef⟩:∃far:Nat,far=1+f0:=⟨_,rfl⟩;rw[<- ef];have hf:1<=far/\far<=1000000:=by lia
   subst hN;clear k2 k3 k4 s2 nl D2 D3 hl' em ks1;refine au λN hN=>?_;nofun;subst hN;refine au λN hN=>?_;intro Dx hW;obtain⟨ra,ox,_⟩:=ks4.ex;have hR:∀e G H',Exc G H' C_NoRow e->KB [p,dq] H G->aX G p dq (n+20)->Dx (.ref C_NoRow) none e [some (.ref p),some (.ref x),some (.int (rs.length:Nat)),some (.int (w1:Nat)),some (.int (far:Nat)),some .aL,none] H':=λe G H' hE kG DG=>by
    obtain⟨kE,_,he⟩:=hE;refine hW _ _ _ _ _ ⟨⟨C_NoRow,rfl,rfl,kC_NoRow,p0⟩,he,?_⟩;nofun;show N _ _;rw[hN];have ty:HJ K H' (.ref e) (.ref C_NoRow):=.inr ⟨e,C_NoRow,rfl,rfl,he,xC_NoRow⟩;refine au λN hN=>?_;refine gc λA B hA hB=>?_;nofun;refine⟨by decide,λtp htp=>?_⟩
    have kt:=KB.new (ex:=[]) (o:=.tup [.ref C_NoAsk,.ref C_NoBits,.ref C_NoCode,.ref C_NoProgram,.ref C_NoReach]) htp;have st:upd H' tp (.tup [.ref C_NoAsk,.ref C_NoBits,.ref C_NoCode,.ref C_NoProgram,.ref C_NoReach]) tp=_:=aa;generalize upd H' tp (.tup [.ref C_NoAsk,.ref C_NoBits,.ref C_NoCode,.ref C_NoProgram,.ref C_NoReach])=H'' at *;have he2:=kt.n he;have ty2:HJ K H'' (.ref e) (.ref C_NoRow):=.inr ⟨e,C_NoRow,rfl,rfl,he2,xC_NoRow⟩;refine⟨_,_,_,tp,rfl,st,ty2,p3,?_⟩;refine⟨false,rfl,?_⟩;rw[Jy JF,hB];show N _ _;rw[hN];clear hN N hA hB A B;nofun;refine⟨_,_,_,rfl,ty2,p1,?_⟩;refine⟨true,rfl,?_⟩;rw[JA rfl];refine⟨_,_,_,rfl,ty2,p2,?_⟩;exact q H'' (kG.trans (kE.all.trans kt.all)) ((DG.kb kE).kb kt)
   clear hW;have D4':aX H4 p dq (n+6):=D4.mono (by lia)
   clear D4 hN;have cx:∀e G H',Exc G H' C_NoRow e->KB [p,dq] H G->aX G p dq (n+20)->FI Dx [some (.ref p),some (.ref x),some (.int (rs.length:Nat)),some (.int (w1:Nat)),some (.int (far:Nat)),some .aL,none] G (.ref C_NoRow) (some e) H':=λe G H' hE kG DG=>⟨e,none,rfl,hE.2.2,λ_ _=>hR e G H' hE kG DG⟩;clear hR;have put2:∀(mr:gU) (g:Int),pZ mr=some g->g.natAbs<10000000->(g<0\/(rs.length:Int)+1<g)->∀(v:Nat) (G:Hp) (t:Addr),v<=rs.length->G t=none->aX G p dq (n+6+1)->KB [p,dq] H4 G->∀(Q':VK) (vs:List V),vs=mr.vs->kA C C_NoRow [.ref x,.int (v:Nat),.ref t] (upd G t (.tup vs)) Q' (FI Dx [some (.ref p),some (.ref x),some (.int (rs.length:Nat)),some (.int (w1:Nat)),some (.int (far:Nat)),some .aL,none] (upd G t (.tup vs))):=λmr g e1 e2 e3 v G t hv ht DG kG Q' vs ev=>by
    subst ev;obtain⟨kt,st⟩:=cX ht (.tup mr.vs);generalize upd G t _=G2 at *;refine⟨x,dx,b,t,bk,rs,(ks4.deck D4' kG).kb kt,hl,.inr ⟨_,mr,rfl,st,by lia,λg' e=>?_,.inr (.inr ⟨g,e1,e3⟩),λe H' hE=>cx e G2 H' hE (k04.trans (kG.trans kt.all)) ((DG.kb kt).mono (by lia))⟩⟩
    rw[e1] at e;cases e;exact e2
   have put1:∀(i:Int),i.natAbs<10000000->(i<0\/(rs.length:Int)<i)->∀(r:Row) (t:Addr) (G:Hp),r.Ok (rs.length+1)->G t=some (.tup r.vs)->aX G p dq (n+6+5)->KB [p,dq] H4 G->∀(Q':VK),kA C C_NoRow [.ref x,.int i,.ref t] G Q' (FI Dx [some (.ref p),some (.ref x),some (.int (rs.length:Nat)),some (.int (w1:Nat)),some (.int (far:Nat)),some .aL,none] G):=λi e2 e3 r t G hro ht DG kG Q'=>by
    rw[zp] at ht;refine⟨x,dx,b,t,bk,rs,ks4.deck D4' kG,hl,.inr ⟨i,_,rfl,ht,e2,λg' e=>?_,e3.imp id .inl,λe H' hE=>cx e G H' hE (k04.trans kG) (DG.mono (by lia))⟩⟩
    cases r with
    |jump g=>cases e;have:g<=rs.length+1:=hro;show ((g:Nat):Int).natAbs<_;lia
    |zero b g=>cases e;have:g<=rs.length+1:=hro.2;show ((g:Nat):Int).natAbs<_;lia
    |put=>cases e
    |two=>cases e
    |one=>cases e
    |halt=>cases e
   have take1:∀(i:Int),i.natAbs<10000000->(i<0\/(rs.length:Int)<=i)->∀(Q':VK),jO C C_NoRow [.ref x,.int i] H4 Q' (FI Dx [some (.ref p),some (.ref x),some (.int (rs.length:Nat)),some (.int (w1:Nat)),some (.int (far:Nat)),some .aL,none] H4):=λi e2 e3 Q'=>⟨x,dx,b,bk,rs,ks4,by lia,.inr ⟨i,rfl,e2,e3,λe H' hE=>cx e H4 H' hE k04 (D4'.mono (by lia))⟩⟩
   clear cx;refine gc λA B hA hB=>?_;nofun;by_cases c0:((w1:Nat):Int)=0
   ·rw[JA c0,hA];clear hA hB;nofun;refine⟨x,dx,_,rfl,ox,rfl,p,dq,rs.length+1,_,rfl,D4',by lia,by lia,λr t G hro ht DG kG=>put1 _ (by lia) (by lia) r t G hro ht DG kG _⟩
   rw[Jy c0,hB];clear hA hB A B;refine gc λA B hA hB=>?_;nofun;by_cases c1:((w1:Nat):Int)=1
   ·rw[JA c1,hA];clear hA hB;nofun;refine⟨x,dx,_,rfl,ox,rfl,p,dq,rs.length+1,_,rfl,D4',by lia,by lia,λr t G hro ht DG kG=>put1 _ (by lia) (by lia) r t G hro ht DG kG _⟩
   rw[Jy c1,hB];clear hA hB A B;refine gc λA B hA hB=>?_;nofun;by_cases c2:((w1:Nat):Int)=2
   ·rw[JA c2,hA];clear hA hB;nofun;refine⟨x,dx,_,rfl,ox,rfl,p,dq,_,_,rfl,D4',by lia,by lia,by lia,λv G hv DG kG=>⟨by decide,λt ht=>put2 (.jump ((rs.length:Int)+1+(far:Int))) _ rfl (by lia) (by lia) v G t (by lia) ht DG kG _ _ rfl⟩⟩
   rw[Jy c2,hB];clear hA hB A B;refine gc λA B hA hB=>?_;nofun;by_cases c3:((w1:Nat):Int)=3
   ·rw[JA c3,hA];clear hA hB;nofun;refine⟨x,dx,_,rfl,ox,rfl,p,dq,_,_,rfl,D4',by lia,by lia,by lia,λv G hv DG kG=>⟨by decide,λt ht=>put2 (.zero 1 ((rs.length:Int)+1+(far:Int))) _ rfl (by lia) (by lia) v G t (by lia) ht DG kG _ _ rfl⟩⟩
   rw[Jy c3,hB];clear hA hB A B;refine gc λA B hA hB=>?_;nofun;by_cases c4:((w1:Nat):Int)=4
   ·rw[JA c4,hA];clear hA hB;nofun;refine⟨x,dx,_,rfl,ox,rfl,p,dq,_,_,rfl,D4',by lia,by lia,by lia,λv G hv DG kG=>⟨by decide,λt ht=>put2 (.jump (0-(far:Int))) _ rfl (by lia) (by lia) v G t (by lia) ht DG kG _ _ rfl⟩⟩
   rw[Jy c4,hB];clear hA hB A B;refine gc λA B hA hB=>?_;nofun;by_cases c5:((w1:Nat):Int)=5
   ·rw[JA c5,hA];clear hA hB;nofun;refine⟨x,dx,_,rfl,ox,rfl,p,dq,_,_,rfl,D4',by lia,by lia,by lia,λv G hv DG kG=>⟨by decide,λt ht=>put2 (.zero 7 (0-(far:Int))) _ rfl (by lia) (by lia) v G t (by lia) ht DG kG _ _ rfl⟩⟩
   rw[Jy c5,hB];clear hA hB A B;refine gc λA B hA hB=>?_;nofun;by_cases c6:((w1:Nat):Int)=6
   ·rw[JA c6,hA];clear hA hB;nofun;exact⟨x,dx,_,rfl,ox,rfl,take1 _ (by lia) (by lia) _⟩
   rw[Jy c6,hB];clear hA hB A B;nofun;exact⟨x,dx,_,rfl,ox,rfl,take1 _ (by lia) (by lia) _⟩
  refine gc λA B hA hB=>?_;nofun;by_cases c:(rs.length:Int)=60
  ·rw[JA c,hA];nofun;refine⟨by decide,?_⟩
   rw[show (6:Int)+((w0:Nat):Int) % 2=((6+w0 % 2:Nat):Int) by lia]
   exact go (6+w0 % 2) (by lia) (λ_=>by lia)
  ·rw[Jy c,hB];exact go w0 (by lia) (λz=>absurd (by lia) c)
def FD(T:Txt K mg)(F:lZ K "law" "law" iu f fd)(l_put:HasFn K mg "_law_put" eB ["deck","kept","model","ids"])(l_take:HasFn K mg "_law_take" d5 ["deck","kept","model"])(l_deed:HasFn K mg "_law_deed" eO ["deck","kept","model","ids"])(l_refused:HasFn K mg "_law_refused" cT ["deck","kept","many"])(l_right:HasFn K mg "_law_right" dG ["kept","model","book","way"])(h_law_deck:ao P w K mg base aN 1 "_law_deck" ["script"] (Aq K))(h_law_book:ao P w K mg base aN 4 "_law_book" ["deck"] (zj K))(h_law_draw:ao P w K mg base aN 2 "_law_draw" ["deck","most"] d9)(h_law_row:ao P w K mg base aN 4 "_law_row" ["deck","goals"] (tL K))(h_law_due:ao P w K mg base aN 1 "_law_due" ["model"] yX)(h_law_packed:ao P w K mg base aN 3 "_law_packed" ["program","book","widths"] (jY K))(h_law_same:ao P w K mg base aN 5 "_law_same" ["found","due"] (nI 3))(hpack_rows:ao P w K mg base aN 7 "pack_rows" ["program","book"] jR)(hgoal_of:ao P w K mg base aN 1 "goal_of" ["row"] iH)(hgoals_moved:ao P w K mg base aN 3 "goals_moved" ["rows","first","by"] iC):bY P w K mg base aN 11 f fd ["script"] (qH K):=by
 obtain⟨C_Kept,f___init__,f_put_in,f_take_out,f_program,f_bits,f_places,d___init__,d_put_in,d_take_out,d_program,d_bits,d_places,hC_Kept,cM,na_book,na_rows,mm___init__,FM___init__,bm___init__,mm_put_in,FM_put_in,bm_put_in,mm_take_out,FM_take_out,bm_take_out,mm_program,FM_program,bm_program,mm_bits,FM_bits,bm_bits,mm_places,FM_places,bm_places⟩:=T.mc;obtain⟨C_NoRow,hC_NoRow,kC_NoRow⟩:∃C_NoRow,mg "NoRow"=some (.ref C_NoRow)/\gE K C_NoRow:=by
  obtain⟨C_ShortError,C_NoRow,C_NoAsk,C_NoBits,C_NoCode,C_NoProgram,C_NoReach,hC_ShortError,hC_NoRow,hC_NoAsk,hC_NoBits,hC_NoCode,hC_NoProgram,hC_NoReach,kC_ShortError,kC_NoRow,xC_NoRow,p0,p1,p2,p3⟩:=T.xs;exact⟨_,hC_NoRow,kC_NoRow⟩
 have FO___init__:=xD (P:=P) (w:=w) (mg:=mg) (base:=base) T cM na_book na_rows FM___init__;have FO_program:=y0 (P:=P) (w:=w) (mg:=mg) (base:=base) T cM na_rows FM_program;have FO_bits:=zc T cM na_book na_rows hpack_rows FM_bits;have FO_places:=rB T cM na_book na_rows hpack_rows FM_places;have FP:∀N,mg "NoRow"=some (.ref N)->gE K N->_:=λN h1 h2=>A1 T h1 h2 cM na_rows hgoal_of hgoals_moved FM_put_in;have FT:∀N,mg "NoRow"=some (.ref N)->gE K N->_:=λN h1 h2=>yQ T h1 h2 cM na_rows hgoals_moved FM_take_out;have FO_put_in:=FP _ hC_NoRow kC_NoRow;have FO_take_out:=FT _ hC_NoRow kC_NoRow;have h_law_refused:=rT T l_refused h_law_draw h_law_row cM mm_put_in bm_put_in FP mm_take_out bm_take_out FT;have h_law_put:=Bv T l_put h_law_draw h_law_row cM mm_put_in bm_put_in FO_put_in;have h_law_deed:=yk T l_deed h_law_draw h_law_put (Af T l_take h_law_draw cM mm_take_out bm_take_out FO_take_out);have h_law_right:=wc T l_right h_law_due h_law_packed h_law_same cM mm_program bm_program FO_program mm_bits bm_bits FO_bits mm_places bm_places FO_places;clear FP FT FO_program FO_bits FO_places FO_put_in FO_take_out;refine Cq F dB (λvs H Q E h=>?_) (λcdv A outer s H vs Q E hr h=>?_)
 ·obtain⟨a,ns,rfl,_⟩:=h;rfl
 ·obtain⟨a,ns,rfl,hS,hl,q⟩:=h;have hu:=aI hr;refine⟨_,(Z.aq (Z.se (i:=1) dB.nd (Z.fc h_law_deck (Z.cons (Z.v 0) Z.nil)))
   (Z.aq (Z.se (i:=2) dB.nd (Z.fc h_law_book (Z.cons (Z.v 1) Z.nil)))
   (Z.aq (Z.se (i:=3) dB.nd (Z.lst (Z.cons (Z.v 2) (Z.cons (Z.ix (Z.aA K rfl hu) (Z.lst (Z.cons (Z.v 2) (Z.cons (Z.fc h_law_book (Z.cons (Z.v 1) Z.nil)) Z.nil))) (Z.fc h_law_draw (Z.cons (Z.v 1) (Z.cons Z.int Z.nil)))) Z.nil))))
   (Z.aq (Z.se (i:=4) dB.nd (Z.lst (Z.cons (Z.make K rfl mm___init__ FO___init__ (hr.mono (by decide)) rfl hC_Kept bm___init__ kN (Z.cons (Z.ix (Z.aA K rfl hu) (Z.v 3) Z.int) Z.nil)) (Z.cons (Z.make K rfl mm___init__ FO___init__ (hr.mono (by decide)) rfl hC_Kept bm___init__ kN (Z.cons (Z.ix (Z.aA K rfl hu) (Z.v 3) Z.int) Z.nil)) Z.nil))))
   (Z.aq (Z.se (i:=5) dB.nd (Z.lst (Z.cons (Z.lst Z.nil) (Z.cons (Z.lst Z.nil) Z.nil))))
   (Z.aq (Z.se (i:=6) dB.nd (Z.lst Z.nil))
   (Z.aq (Z.fh JZ rfl (Z.oW rfl T.dz (Z.cons (Z.ix (Z.aA K rfl hu) (Z.lst (Z.cons (Z.fc h_law_draw (Z.cons (Z.v 1) (Z.cons Z.int Z.nil))) (Z.cons Z.int Z.nil))) (Z.ct mL rfl T.yh (by decide +kernel) (Z.cons (Z.cmp aW (Z.fc h_law_draw (Z.cons (Z.v 1) (Z.cons Z.int Z.nil))) Z.int) Z.nil))) Z.nil)) (Z.aH (i:=7) dB.nd rfl (by right)) (Z.ax (Z.cZ (Z.je (Z.gT K rfl (Z.fc h_law_put (Z.cons (Z.v 1) (Z.cons (Z.ix (Z.aA K rfl hu) (Z.v 4) Z.int) (Z.cons (Z.ix (Z.aA K rfl hu) (Z.v 5) Z.int) (Z.cons (Z.v 6) Z.nil))))))) (Z.ax (Z.ret Z.bl)) Z.b9)))
   (Z.aq (Z.fh JZ rfl (Z.oW rfl T.dz (Z.cons (Z.op (Z.aE K rfl) Z.int (Z.cb (iX rfl) rfl T.As (by decide +kernel) (Z.cons (Z.cb (Z.y_ K rfl) rfl T.bG (by decide +kernel) (Z.cons (Z.v 0) Z.nil)) (Z.cons Z.int Z.nil)))) Z.nil)) (Z.aH (i:=7) dB.nd rfl (by right)) (Z.aq (Z.se (i:=8) dB.nd (Z.fc h_law_draw (Z.cons (Z.v 1) (Z.cons Z.int Z.nil))))
   (Z.aq (Z.se (i:=9) dB.nd (Z.fc h_law_draw (Z.cons (Z.v 1) (Z.cons Z.int Z.nil))))
   (Z.aq (Z.cZ (Z.aR aW (Z.fc h_law_draw (Z.cons (Z.v 1) (Z.cons Z.int Z.nil))) Z.int) (Z.aq (Z.cZ (Z.je (Z.gT K rfl (Z.fc h_law_refused (Z.cons (Z.v 1) (Z.cons (Z.ix (Z.aA K rfl hu) (Z.v 4) (Z.v 8)) (Z.cons (Z.cb (Z.bO K rfl) rfl T.bG (by decide +kernel) (Z.cons (Z.ix (Z.aA K rfl hu) (Z.v 5) (Z.v 8)) Z.nil)) Z.nil)))))) (Z.ax (Z.ret Z.bl)) Z.b9)
   (Z.ax (Z.cZ (Z.je (Z.gT K rfl (Z.fc h_law_right (Z.cons (Z.ix (Z.aA K rfl hu) (Z.v 4) (Z.v 8)) (Z.cons (Z.ix (Z.aA K rfl hu) (Z.v 5) (Z.v 8)) (Z.cons (Z.ix (Z.aA K rfl hu) (Z.v 3) (Z.v 8)) (Z.cons (Z.v 9) Z.nil))))))) (Z.ax (Z.ret Z.bl)) Z.b9))) Z.b9)
   (Z.aq (Z.cZ (Z.je (Z.gT K rfl (Z.fc h_law_deed (Z.cons (Z.v 1) (Z.cons (Z.ix (Z.aA K rfl hu) (Z.v 4) (Z.v 8)) (Z.cons (Z.ix (Z.aA K rfl hu) (Z.v 5) (Z.v 8)) (Z.cons (Z.v 6) Z.nil))))))) (Z.ax (Z.ret Z.bl)) Z.b9)
   (Z.aq (Z.se (i:=8) dB.nd (Z.ix (Z.aA K rfl hu) (Z.lst (Z.cons (Z.v 8) (Z.cons (Z.v 8) (Z.cons (Z.op cw Z.int (Z.v 8)) Z.nil)))) (Z.fc h_law_draw (Z.cons (Z.v 1) (Z.cons Z.int Z.nil)))))
   (Z.ax (Z.cZ (Z.je (Z.gT K rfl (Z.fc h_law_right (Z.cons (Z.ix (Z.aA K rfl hu) (Z.v 4) (Z.v 8)) (Z.cons (Z.ix (Z.aA K rfl hu) (Z.v 5) (Z.v 8)) (Z.cons (Z.ix (Z.aA K rfl hu) (Z.v 3) (Z.v 8)) (Z.cons (Z.fc h_law_draw (Z.cons (Z.v 1) (Z.cons Z.int Z.nil))) Z.nil))))))) (Z.ax (Z.ret Z.bl)) Z.b9))))))))
   (Z.ax (Z.ret Z.bl)))))))))),?_⟩
  refine au λN hN=>?_;nofun;refine⟨a,ns,rfl,hS,λp dq H1 D1 k1 hp0 hq0=>?_⟩;subst hN;have kd:∀{G G':Hp},KB [] H G->KB [p,dq] G G'->KB [] H G':=λk k' u o e _=>k' u o (k u o e (by simp)) (by simp only[Jw,JO,Kn,M4];exact⟨af e hp0,af e hq0⟩)
  refine au λN hN=>?_;nofun;refine⟨p,dq,_,rfl,D1,by lia,λbk1 b1 H2 D2 k2 hb1 hB1=>?_⟩
  subst hN;refine au λN hN=>?_;nofun;refine⟨p,dq,_,rfl,D2,by lia,λbk2 b2 H3 D3 k3 hb2 hB2=>?_⟩
  refine⟨by decide,λl0 hl0=>?_⟩
  obtain⟨k4,s4⟩:=cX hl0 (.lst [.ref b1,.ref b2]);generalize upd H3 l0 _=H4 at *;have n0:=D3.new hl0;have D4:=D3.kb k4;refine⟨p,dq,2,_,rfl,D4,by lia,by decide,by decide,λv H5 hv D5 k5=>?_⟩
  have hb15:=((hb1.keep k3 D2.nt).kb k4).keep k5 D4.nt;have hb25:=(hb2.kb k4).keep k5 D4.nt;obtain⟨c1,CJ,ec,hc5,hC⟩:∃c ck,bI [V.ref b1,.ref b2] (v:Int)=some (.ref c)/\vC H5 c ck/\Bk ck:=by
   rcases (show v=0\/v=1 by lia) with rfl|rfl
   ·exact⟨b1,bk1,rfl,hb15,hB1⟩
   ·exact⟨b2,bk2,rfl,hb25,hB2⟩
  exists ar (k5 _ _ s4 n0),ec;refine⟨by decide,λbl hbl=>?_⟩
  obtain⟨k6,s6⟩:=cX hbl (.lst [.ref b1,.ref c1]);generalize upd H5 bl _=H6 at *;have nb:=D5.new hbl;have D6:aX H6 p dq 2000:=(D5.kb k6).mono (by lia)
  have hb6:=hb15.kb k6;have hc6:=hc5.kb k6;subst hN;have kH6:KB [] H H6:=(kd ((kd (kd k1 k2) k3).trans k4) k5).trans k6;clear D1 D2 D3 D4 D5 k1 k2 k3 k4 k5 k6 s4 n0 hl0 hbl hb1 hb2 hb15 hb25 hc5 ec hB2;refine au λN hN=>?_;exists ar s6,rf;intro x dx hx0 hdx0 hxd;have kn:KB [] H6 (upd (upd H6 dx (.own x)) x (.ins C_Kept dx [])):=λc o e _=>by rw[ak (af e hx0),ak (af e hdx0)];exact e
  have oxn:upd (upd H6 dx (.own x)) x (.ins C_Kept dx []) x=some (.ins C_Kept dx []):=aa;have odn:upd (upd H6 dx (.own x)) x (.ins C_Kept dx []) dx=some (.own x):=by rw[ak hxd];exact aa
  generalize upd (upd H6 dx (.own x)) x (.ins C_Kept dx [])=Hn at *;refine⟨x,dx,b1,bk1,rfl,oxn,odn,hb6.kb kn,λH7 ks7 k7=>⟨rfl,?_⟩⟩;have k67:KB [] H6 H7:=λc o e _=>k7 _ _ (kn.n e) (by simpa using af e hx0)
  have s7:=k67.n s6;exists ar s7,Hj;intro y dy hy0 hdy0 hyd;have km:KB [] H7 (upd (upd H7 dy (.own y)) y (.ins C_Kept dy [])):=λc o e _=>by rw[ak (af e hy0),ak (af e hdy0)];exact e
  have oym:upd (upd H7 dy (.own y)) y (.ins C_Kept dy []) y=some (.ins C_Kept dy []):=aa;have odm:upd (upd H7 dy (.own y)) y (.ins C_Kept dy []) dy=some (.own y):=by rw[ak hyd];exact aa
  generalize upd (upd H7 dy (.own y)) y (.ins C_Kept dy [])=Hm at *;refine⟨y,dy,c1,CJ,rfl,oym,odm,(hc6.kb k67).kb km,λH8 ks8 k8=>⟨rfl,?_⟩⟩;have k78:KB [] H7 H8:=λc o e _=>k8 _ _ (km.n e) (by simpa using af e hy0)
  have nxy:x≠y:=λz=>by obtain⟨_,ox,_⟩:=ks7.ex;rw[z,hy0] at ox;cases ox
  refine⟨by decide,λkl hkl=>?_⟩
  obtain⟨k9,s9⟩:=cX hkl (.lst [.ref x,.ref y]);generalize upd H8 kl _=H9 at *;have D8:=(D6.kb k67).kb k78;have nk:=D8.new hkl;have D9:=D8.kb k9;have bl9:=(k78.trans k9).n s7;have kH9:KB [] H H9:=kH6.trans (k67.trans (k78.trans k9));have hx0':H x=none:=kH6.free (by simp) hx0
  have hy0':H y=none:=(kH6.trans k67).free (by simp) hy0
  have k4':∀{G G':Hp},KB [] H G->KB [p,dq,x,y] G G'->KB [] H G':=λk k' u o e _=>k' u o (k u o e (by simp)) (by simp only[Jw,JO,Kn,M4];exact⟨af e hp0,af e hq0,af e hx0',af e hy0'⟩)
  subst hN;clear kn km oxn odn oym odm k7 k8 hx0 hdx0 hxd hy0 hdy0 hyd D6 D8 hb6 hc6 s6 hkl;have ks79:=ks7.kb (k78.trans k9);have ks89:=ks8.kb k9;clear ks7 ks8 k67 k78 k9 s7;refine au λN hN=>?_;nofun;refine⟨by decide,λmo hmo=>?_⟩
  obtain⟨k10,s10⟩:=cX hmo (.lst []);have dmo:=D9.new hmo;have D10:=D9.kb k10;have nmb:mo≠bl:=λz=>by rw[z,bl9] at hmo;cases hmo
  have nmk:mo≠kl:=λz=>by rw[z,s9] at hmo;cases hmo
  generalize upd H9 mo _=H10 at *;refine⟨by decide,λmo2 hmo2=>?_⟩
  obtain⟨k11,s11⟩:=cX hmo2 (.lst []);have dmo2:=D10.new hmo2;have D11:=D10.kb k11;have nm2b:mo2≠bl:=λz=>by rw[z,k10.n bl9] at hmo2;cases hmo2
  have nm2k:mo2≠kl:=λz=>by rw[z,k10.n s9] at hmo2;cases hmo2
  have nmm:mo≠mo2:=λz=>by rw[<- z,s10] at hmo2;cases hmo2
  generalize upd H10 mo2 _=H11 at *;refine⟨by decide,λml hml=>?_⟩
  obtain⟨k12,s12⟩:=cX hml (.lst [.ref mo,.ref mo2]);have dml:=D11.new hml;have D12:=D11.kb k12;have nml1:mo≠ml:=λz=>by rw[<- z,k11.n s10] at hml;cases hml
  have nml2:mo2≠ml:=λz=>by rw[<- z,s11] at hml;cases hml
  generalize upd H11 ml _=H12 at *;subst hN;refine au λN hN=>?_;nofun;refine⟨JJ _,λia hia=>?_⟩;obtain⟨k13,s13⟩:=cX hia (.lst []);have dia:=D12.new hia;have D13:=D12.kb k13;have k912:=k10.trans (k11.trans k12);have nib:bl≠ia:=λz=>by rw[<- z,k912.n bl9] at hia;cases hia
  have nik:kl≠ia:=λz=>by rw[<- z,k912.n s9] at hia;cases hia
  have nil_:ml≠ia:=λz=>by rw[<- z,s12] at hia;cases hia
  have ni1:mo≠ia:=λz=>by rw[<- z,(k11.trans k12).n s10] at hia;cases hia
  have ni2:mo2≠ia:=λz=>by rw[<- z,k12.n s11] at hia;cases hia
  generalize upd H12 ia _=H13 at *;subst hN;have k913:=k912.trans k13;have bl13:=k913.n bl9;have kl13:=k913.n s9;have ml13:=k13.n s12;have md0:∀{m:Addr},H13 m=some (.lst [])->lY H13 m [] [] []:=λe=>⟨e,rfl,by simp,λj a i r e=>nomatch e⟩
  have mm0:Md [] []:=⟨rfl,by simp,by simp,λr hr=>absurd hr JO⟩
  have mo13:=(k11.trans (k12.trans k13)) _ _ s10 (by simp)
  have mo23:=(k12.trans k13).n s11;have tm0:Tm C_Kept H13 p dq [kl,ml,bl] ia x dx b1 bk1 mo [] [] [] y dy c1 CJ mo2 [] [] [] 2000 0:=⟨D13,ks79.kb k913,md0 mo13,mm0,JJ _,λi hi=>absurd hi JO,ks89.kb k913,md0 mo23,mm0,JJ _,λi hi=>absurd hi JO,nxy,s13,dia,λu hu=>by
   rw[JH.mp hu];exact⟨by simpa using nmm,dmo,ni1,by simpa using⟨nmk,nml1,nmb⟩⟩,λu hu=>by
   rw[JH.mp hu];exact⟨dmo2,ni2,by simpa using⟨nm2k,nml2,nm2b⟩⟩,λu hu=>by
   simp only[Jw,JO,Kn] at hu;rcases hu with rfl|rfl|rfl
   ·exact⟨nk,nik,_,kl13⟩
   ·exact⟨dml,nil_,_,ml13⟩
   ·exact⟨nb,nib,_,bl13⟩⟩
  have kH13:=kH9.trans k913;have mo0:H mo=none:=kH9.free (by simp) hmo
  have ia0:H ia=none:=(kH9.trans k912).free (by simp) hia
  clear s9 bl9 ks79 ks89 k10 k11 k12 k13 k912 k913 D10 D11 D12 s10 s11 s12 s13 md0 mm0 mo13 mo23 hmo hmo2 hml hia nxy hy0' k4' kH6 kH9 D9;refine au λN hN=>?_;nofun;refine⟨p,dq,7,_,rfl,D13,by lia,by decide,by decide,λv1 G1 hv1 D1 k1=>?_⟩
  nofun;refine⟨by decide,λl1 hl1=>?_⟩
  obtain⟨k2,s2⟩:=cX hl1 (.lst [.int (v1:Int),.int 50]);generalize upd G1 l1 _=G2 at *;have n1:=D1.new hl1;have D2:=D1.kb k2;refine⟨p,dq,6,_,rfl,D2,by lia,by decide,by decide,λv2 G3 hv2 D3 k3=>?_⟩
  obtain⟨m,hm,em⟩:∃m:Nat,m<=50/\bI [V.int (v1:Int),.int 50] (if (v2:Int)=0 then 1 else 0)=some (.int (m:Nat)):=by
   by_cases c:(v2:Int)=0
   ·rw[JA c];exact⟨50,by decide,rfl⟩
   ·rw[Jy c];exact⟨v1,by lia,rfl⟩
  exists ar (k3 _ _ s2 n1),em;have tm3:=((tm0.drawn k1 D1).kb k2).drawn k3 D3;have kl3:=k3 _ _ (k2.n (k1 _ _ kl13 nk)) nk;have ml3:=k3 _ _ (k2.n (k1 _ _ ml13 dml)) dml;have bl3:=k3 _ _ (k2.n (k1 _ _ bl13 nb)) nb;have kH3:KB [] H G3:=kd ((kd kH13 k1).trans k2) k3;clear D13 tm0 bl13 kl13 ml13 D1 D2 k1 k2 k3 s2 n1 hl1 em;refine⟨by lia,by lia,?_⟩
  rw[JW];refine bR (λj σ G=>∃(pl:List Addr) (ids:List Int) (rs:List Row) (cN:Nat) (s7:Option V),Tm C_Kept G p dq [kl,ml,bl] ia x dx b1 bk1 mo pl ids rs y dy c1 CJ mo2 [] [] [] (2010+30*j) cN/\rs.length<=j/\cN<=j/\j<=m/\G kl=some (.lst [.ref x,.ref y])/\G ml=some (.lst [.ref mo,.ref mo2])/\G bl=some (.lst [.ref b1,.ref c1])/\KB [] H G/\(∀u∈pl,H u=none)/\σ=[some (.ref a),some (.ref p),some (.ref b1),some (.ref bl),some (.ref kl),some (.ref ml),some (.ref ia),s7,none,none]) ⟨[],[],[],0,none,tm3.drawn (KB.refl _ _) (D3.mono (by lia)),J8 _,J8 _,JJ _,kl3,ml3,bl3,kH3,λu hu=>absurd hu JO,rfl⟩ ?_ ?_
  ·rintro j σ G hj ⟨pl,ids,rs,cN,s7,tm,hrl,hc,_,klG,mlG,blG,kH,pl0,rfl⟩;generalize (0:Int)+((j:Nat):Int)=kI;unfold aT;dsimp only;refine jS λM hM=>?_;refine gc λA B hA hB=>?_;exists ar klG,ar mlG,rf;refine⟨p,dq,x,dx,b1,bk1,mo,ia,pl,ids,rs,_,cN,rfl,tm.pre (by lia) (by lia),by lia,λG' c' pl' ids' rs' a1 a2 a3 a4 a5 a6 a7 a8 a9 a10 a11=>?_⟩
   obtain⟨tm',hF⟩:=tm.post a1 a2 a3 a4 (by lia) a6 a7 a9 a10 a11
   refine⟨true,rfl,?_⟩;rw[Jy (by decide),hB]
   show M _ _;rw[hM];refine⟨pl',ids',rs',c',_,tm'.drawn (KB.refl _ _) (tm'.deck.mono (by lia)),by lia,by lia,hj,(hF kl (by simp)).trans klG,(hF ml (by simp)).trans mlG,(hF bl (by simp)).trans blG,λu o e _=>?_,λu hu=>(a10 u hu).elim (pl0 u) λe=>kH.free (by simp) e,rfl⟩
   refine a11 _ _ (kH.n e) λz=>?_;simp only[Jw] at z;rcases z with rfl|rfl|rfl|rfl|rfl|z
   ·rw[hp0] at e;cases e
   ·rw[hq0] at e;cases e
   ·rw[hx0'] at e;cases e
   ·rw[mo0] at e;cases e
   ·rw[ia0] at e;cases e
   ·rw[pl0 _ z] at e;cases e
  rintro σ G ⟨pl,ids,rs,cN,s7,tm,hrl,hc,_,klG,mlG,blG,kH,pl0,rfl⟩;have te:ER C_Kept G p dq [kl,ml,bl] ia x dx b1 bk1 mo y dy c1 CJ mo2 4000 cN:=⟨_,_,_,_,_,_,tm.drawn (KB.refl _ _) (tm.deck.mono (by lia))⟩
  have hc50:cN<=50:=by lia
  show N _ _;rw[hN];clear hN N tm3 kl3 ml3 bl3 kH3 D3 tm pl0 hrl hc;refine au λN hN=>?_;nofun;refine⟨.ref a,ns.length,rfl,.inl ⟨_,kH.Dl (by simp) hS,by rw[Jt]⟩,by split<;>lia,by split<;>lia,?_⟩
  obtain⟨m2,hm2,em2⟩:∃m2:Nat,m2<=7/\(3+if (4:Int)<(ns.length:Int) then (4:Int) else (ns.length:Int)).toNat=m2:=⟨_,by split<;>lia,rfl⟩
  rw[em2];clear em2;refine bR (λj σ G=>∃(cN:Nat) (s7 s8 s9:Option V),ER C_Kept G p dq [kl,ml,bl] ia x dx b1 bk1 mo y dy c1 CJ mo2 (4000+60*j) cN/\cN<=50+j/\G kl=some (.lst [.ref x,.ref y])/\G ml=some (.lst [.ref mo,.ref mo2])/\G bl=some (.lst [.ref b1,.ref c1])/\j<=m2/\σ=[some (.ref a),some (.ref p),some (.ref b1),some (.ref bl),some (.ref kl),some (.ref ml),some (.ref ia),s7,s8,s9]) ⟨cN,_,_,_,te,hc50,klG,mlG,blG,JJ _,rfl⟩ ?_ ?_
  ·clear te klG mlG blG kH hc50;rintro j σ G hj ⟨cN,s7,s8,s9,te,hc,klG,mlG,blG,_,rfl⟩;generalize (0:Int)+((j:Nat):Int)=kI;unfold aT;dsimp only;obtain⟨_,_,_,_,_,_,tmD⟩:=id te;have D:=tmD.deck;clear tmD;have tdr:∀{G G':Hp} {n m cN:Nat},ER C_Kept G p dq [kl,ml,bl] ia x dx b1 bk1 mo y dy c1 CJ mo2 n cN->KB [p,dq] G G'->aX G' p dq m->ER C_Kept G' p dq [kl,ml,bl] ia x dx b1 bk1 mo y dy c1 CJ mo2 m cN:=λt k D=>by obtain⟨_,_,_,_,_,_,t⟩:=t;exact⟨_,_,_,_,_,_,t.drawn k D⟩
   refine au λM hM=>?_;nofun;refine⟨p,dq,2,_,rfl,D,by lia,by decide,by decide,λv G1 hv D1 k1=>?_⟩
   subst hM;refine au λM hM=>?_;nofun;refine⟨p,dq,5,_,rfl,D1,by lia,by decide,by decide,λwy G2 hwy D2 k2=>?_⟩
   subst hM;have te2:=tdr (tdr te k1 D1) k2 D2;have kl2:=k2 _ _ (k1 _ _ klG nk) nk;have ml2:=k2 _ _ (k1 _ _ mlG dml) dml;have bl2:=k2 _ _ (k1 _ _ blG nb) nb;clear te klG mlG blG D D1 D2 k1 k2;obtain⟨x',dx',b',bk',mo',pl,ids,rs,y',dy',c',ck',mo2',pl2,ids2,rs2,ek,eb,em,hB',tm,back⟩:=te2.pick hB1 hC (v:=v) (by lia)
   clear te2;refine au λM hM=>?_;have go:∀G:Hp,Tm C_Kept G p dq [kl,ml,bl] ia x' dx' b' bk' mo' pl ids rs y' dy' c' ck' mo2' pl2 ids2 rs2 (4000+60*j+25) cN->G kl=some (.lst [.ref x,.ref y])->G ml=some (.lst [.ref mo,.ref mo2])->G bl=some (.lst [.ref b1,.ref c1])->M [some (.ref a),some (.ref p),some (.ref b1),some (.ref bl),some (.ref kl),some (.ref ml),some (.ref ia),some (.int kI),some (.int (v:Nat)),some (.int (wy:Nat))] G:=λG tm klG mlG blG=>by
    subst hM;refine au λM hM=>?_;refine gc λA B hA hB=>?_;exists ar klG,ar mlG,ek,em;refine⟨p,dq,x',dx',b',bk',mo',ia,pl,ids,rs,_,cN,rfl,tm.pre (by lia) (by lia),by lia,tm.l1,λG' cc pl' ids' rs' a1 a2 a3 a4 a5 a6 a7 a8 a9 a10 a11=>?_⟩
    obtain⟨tm',hF⟩:=tm.post a1 a2 a3 a4 a5 a6 a7 a9 a10 a11;have te':=back _ _ _ _ _ _ _ _ _ tm';have kl3:=(hF kl (by simp)).trans klG
    have ml3:=(hF ml (by simp)).trans mlG
    have bl3:=(hF bl (by simp)).trans blG
    clear tm klG mlG blG a1 a2 a3 a4 a5 a6 a9 a10 a11 hF;have D:=tm'.deck;clear tm';refine⟨true,rfl,?_⟩;rw[Jy (by decide),hB]
    show M _ _;rw[hM];clear hM M hA hB A B;refine au λM hM=>?_;nofun;refine⟨by decide,λl1 hl1=>?_⟩
    obtain⟨k1,s1⟩:=cX hl1 (.lst [.int (v:Nat),.int (v:Nat),.int (1-(v:Int))]);have n1:=D.new hl1;have D1:=D.kb k1;have te1:=tdr te' k1.all D1
    replace kl3:=k1.n kl3
    replace ml3:=k1.n ml3
    replace bl3:=k1.n bl3
    generalize upd G' l1 _=G4 at *;clear te' D k1;refine⟨p,dq,3,_,rfl,D1,by lia,by decide,by decide,λv2 G5 hv2 D5 k5=>?_⟩
    obtain⟨w2,hw2,ew⟩:∃w2:Nat,w2<2/\bI [V.int (v:Nat),.int (v:Nat),.int (1-(v:Int))] (v2:Int)=some (.int (w2:Nat)):=by
     rcases (show v2=0\/v2=1\/v2=2 by lia) with rfl|rfl|rfl
     ·exact⟨v,by lia,rfl⟩
     ·exact⟨v,by lia,rfl⟩
     ·exact⟨1-v,by lia,by rw[show (((1-v:Nat):Nat):Int)=1-(v:Int) by lia];rfl⟩
    exists ar (k5 _ _ s1 n1),ew;subst hM;have te5:=tdr te1 k5 D5
    replace kl3:=k5 _ _ kl3 nk
    replace ml3:=k5 _ _ ml3 dml
    replace bl3:=k5 _ _ bl3 nb
    clear te1 D1 s1 n1 ew k5 ek eb em back;obtain⟨x2,dx2,b2,bk2',mo3,pl3,ids3,rs3,y2,dy2,c2,Je,mo4,pl4,ids4,rs4,ek,eb,em,hB2',tm5,back⟩:=te5.pick hB1 hC (v:=w2) (by lia)
    refine jS λM hM=>?_;refine gc λA B hA hB=>?_;exists ar kl3,ar ml3,ar bl3,ek,em,eb;refine⟨p,dq,5,_,rfl,D5,by lia,by decide,by decide,λwz G6 hwz D6 k6=>?_⟩
    have tm6:=tm5.drawn k6 D6;refine⟨x2,dx2,b2,mo3,bk2',pl3,ids3,rs3,wz,rfl,tm6.k1,tm6.m1,tm6.d1,hB2',tm6.l1,by lia,λG7 k7=>⟨true,rfl,?_⟩⟩
    rw[Jy (by decide),hB]
    show M _ _;rw[hM];have te7:=back _ _ _ _ _ _ _ _ _ (tm6.kb k7);have k67:=k6.trans k7.all;exact⟨cc,_,_,_,tdr te7 (KB.refl _ _) ((D6.kb k7).mono (by lia)),by lia,k67 _ _ kl3 nk,k67 _ _ ml3 dml,k67 _ _ bl3 nb,hj,rfl⟩
   clear hM;refine gc λA B hA hB=>?_;nofun;have D2':=tm.deck;refine⟨p,dq,3,_,rfl,D2',by lia,by decide,by decide,λv3 G3 hv3 D3 k3=>?_⟩
   have tm3:=tm.drawn k3 D3;have kl3:=k3 _ _ kl2 nk;have ml3:=k3 _ _ ml2 dml;have bl3:=k3 _ _ bl2 nb;clear tm kl2 ml2 bl2 k3 D2';nofun;by_cases c0:((v3:Nat):Int)=0
   ·rw[JA c0,hA];clear hA hB;refine au λM2 hM2=>?_;refine gc λA B hA hB=>?_;have l1:=tm3.m1.len;have mo'3:=tm3.m1.at';exists ar kl3,ar ml3,ek,em,ar mo'3,Jt,l1;refine⟨p,dq,x',dx',b',_,bk',rs,rfl,D3,by lia,tm3.k1,tm3.l1,λG4 k4 D4=>⟨true,rfl,?_⟩⟩
    rw[Jy (by decide),hB]
    show M2 _ _;rw[hM2];clear hM2 M2 hA hB A B;have tm4:=tm3.drawn k4 D4;have kl4:=k4 _ _ kl3 nk;have ml4:=k4 _ _ ml3 dml;have bl4:=k4 _ _ bl3 nb;clear tm3 kl3 ml3 bl3 k4;refine gc λA B hA hB=>?_;exists ar kl4,ar ml4,ar bl4,ek,em,eb;refine⟨x',dx',b',mo',bk',pl,ids,rs,wy,rfl,tm4.k1,tm4.m1,tm4.d1,hB',tm4.l1,by lia,λG5 k5=>⟨true,rfl,?_⟩⟩
    rw[Jy (by decide),hB]
    exact go G5 ((tm4.kb k5).drawn (KB.refl _ _) ((D4.kb k5).mono (by lia))) (k5.n kl4) (k5.n ml4) (k5.n bl4)
   ·rw[Jy c0,hB];exact go G3 (tm3.drawn (KB.refl _ _) (D3.mono (by lia))) kl3 ml3 bl3
  ·rintro σ G ⟨cN,s7,s8,s9,te,_,_,_,_,_,rfl⟩;show N _ _;subst hN;nofun;exact q _
local macro_rules | `(tactic| walk_at "b1") => `(tactic| (intro _ _ _ _ _ _ us hl; obtain ⟨_, e⟩ := L2.Y.wx hl; subst e; rfl))
def eH{x:Str}{st:Stmt}{ps:List Str}{oc:Value}{od an:Option Addr}{osl:Array (Option Value)}{kV doc pm cdv ct:Value}(X:K.In h)(G:h.Ns mainGlobals mg)(a:W.nsIn K mainGlobals x=some (some (.ref f)))
  (l:K.lookup f=some ⟨oc,od,.func (W.fnOf x x (bS st) (aV st) (ae st) .none kV doc pm an cdv ct),osl⟩) (c:W.codeIn K cdv x=true) (k:W.keepIn K (.ref f)=true)
  (hb:∀(kV doc pm:Value) (an:Option Addr) (cdv ct:Value) (us:List Value),us.length=ps.length->bindArgs (W.fnOf x x (bS st) (aV st) (ae st) .none kV doc pm an cdv ct) ⟨us,[]⟩=pure (ps.zip us)):HasFn K mg x st ps:=
 ⟨f,_,cH l c k,(cH l c k).binds hb,Ld X G a⟩
set_option autoImplicit true in
def all_mk{l:W.OpenLaw}{w:World}{fa:Addr}(X:K.In h)(G:h.Ns mainGlobals mg)(hfa:mg "law"=some (.ref fa))
  (F0:HasFn K mg "_wall" BU ["k"])
  (F1:HasFn K mg "goal_of" iZ ["row"])
  (F2:HasFn K mg "with_goal" gA ["row","goal"])
  (F3:HasFn K mg "can_be" kq ["lengths"])
  (a4:W.nsIn K mainGlobals "code_of"=some (some (.ref f4))) (l4:K.lookup f4=some ⟨oc4,od4,.func (W.fnOf "code_of" "code_of" (bS dj) (aV dj) (ae dj) .none kV4 dc4 pm4 an4 cd4 ct4),sl4⟩) (c4:W.codeIn K cd4 "code_of"=true) (k4:W.keepIn K (.ref f4)=true)
  (F5:HasFn K mg "word_behind" fe ["ahead","length"])
  (F6:HasFn K mg "least_widths" dW ["sizes","goals"])
  (F7:HasFn K mg "raised_till_good" cJ ["sizes","goals"])
  (F8:HasFn K mg "narrowest" eX ["goals"])
  (F9:HasFn K mg "first_too_narrow" cI ["sizes","goals","widths"])
  (F10:HasFn K mg "fits" sE ["starts","goals","widths","row"])
  (F11:HasFn K mg "distance_of" ff ["starts","goals","row"])
  (F12:HasFn K mg "row_starts" fT ["sizes","widths"])
  (F13:HasFn K mg "own_part" ij ["width"])
  (F14:HasFn K mg "coded_things" e7 ["row"])
  (F15:HasFn K mg "codes_of" fF ["book"])
  (F16:HasFn K mg "pack_rows" cK ["program","book"])
  (F17:HasFn K mg "bits_ahead_of_goal" bD ["row","codes"])
  (F18:HasFn K mg "figures_behind_first" bT ["number"])
  (F19:HasFn K mg "jump_written" e9 ["width","distance"])
  (F20:HasFn K mg "last_figures" e8 ["number","many"])
  (F21:HasFn K mg "goals_moved" dm ["rows","first","by"])
  (F22:HasFn K mg "goal_moved" fO ["row","first","by"])
  (F23:HasFn K mg "_law_deck" eL ["script"])
  (F24:HasFn K mg "_law_mix" hJ ["number","turn"])
  (F25:HasFn K mg "_law_draw" gv ["deck","most"])
  (F26:HasFn K mg "_law_words" fP [])
  (F27:HasFn K mg "_law_bits" gy ["number","many"])
  (F28:HasFn K mg "_law_code" eU ["lengths"])
  (F29:HasFn K mg "_law_lengths" dP ["deck","many"])
  (F30:HasFn K mg "_law_book" eR ["deck"])
  (F31:HasFn K mg "_law_number" e_ ["deck"])
  (F32:HasFn K mg "_law_row" ib ["deck","goals"])
  (F33:HasFn K mg "_law_goals" dH ["program"])
  (F34:HasFn K mg "_law_plain" fK ["row","codes"])
  (F35:HasFn K mg "_law_spots" fJ ["sizes","goals","widths"])
  (F36:HasFn K mg "_law_least" fI ["sizes","goals","widths"])
  (F37:HasFn K mg "_law_packed" bX ["program","book","widths"])
  (F38:HasFn K mg "_law_same" d4 ["found","due"])
  (F39:HasFn K mg "_law_put" eB ["deck","kept","model","ids"])
  (F40:HasFn K mg "_law_take" d5 ["deck","kept","model"])
  (F41:HasFn K mg "_law_due" fD ["model"])
  (F42:HasFn K mg "_law_deed" eO ["deck","kept","model","ids"])
  (F43:HasFn K mg "_law_refused" cT ["deck","kept","many"])
  (F44:HasFn K mg "_law_right" dG ["kept","model","book","way"])
  (a45:W.nsIn K mainGlobals "law"=some (some (.ref f45))) (l45:K.lookup f45=some ⟨oc45,od45,.func (W.fnOf "law" "law" (bS iu) (aV iu) (ae iu) .none kV45 dc45 pm45 an45 cd45 ct45),sl45⟩) (c45:W.codeIn K cd45 "law"=true) (k45:W.keepIn K (.ref f45)=true)
  (z0:W.nsIn K mainGlobals "ValueError"=some none)
  (z1:W.nsIn K mainGlobals "abs"=some none)
  (z2:W.nsIn K mainGlobals "bool"=some none)
  (z3:W.nsIn K mainGlobals "enumerate"=some none)
  (z4:W.nsIn K mainGlobals "int"=some none)
  (z5:W.nsIn K mainGlobals "isinstance"=some none)
  (z6:W.nsIn K mainGlobals "len"=some none)
  (z7:W.nsIn K mainGlobals "list"=some none)
  (z8:W.nsIn K mainGlobals "min"=some none)
  (z9:W.nsIn K mainGlobals "range"=some none)
  (z10:W.nsIn K mainGlobals "sorted"=some none)
  (z11:W.nsIn K mainGlobals "str"=some none)
  (z12:W.nsIn K mainGlobals "sum"=some none)
  (z13:W.nsIn K mainGlobals "tuple"=some none)
  (z14:W.nsIn K mainGlobals "zip"=some none)
  (g0:W.nsIn K mainGlobals "BOXES"=some (some (.ref q0))) (m0:K.lookup q0=some ⟨.type "tuple",none,.seq #[.str "a" w0_0,.str "b" w0_1,.str "c" w0_2,.str "d" w0_3,.str "e" w0_4,.str "f" w0_5,.str "g" w0_6,.str "h" w0_7] qn0,qs0⟩)
  (g1:W.nsIn K mainGlobals "HALVES"=some (some (.ref q1))) (m1:K.lookup q1=some ⟨.type "tuple",qd1,.seq #[.int 8 w1_0,.int 128 w1_1,.int 32768 w1_2] qn1,qs1⟩)
  (g2:W.nsIn K mainGlobals "HEADS"=some (some (.ref q2))) (m2:K.lookup q2=some ⟨.type "tuple",qd2,.seq #[.str "0" w2_0,.str "10" w2_1,.str "11" w2_2] qn2,qs2⟩)
  (g3:W.nsIn K mainGlobals "OF_BOXES"=some (some (.int 2 w3_0)))
  (g4:W.nsIn K mainGlobals "OF_CLASSES"=some (some (.int 1 w4_0)))
  (g5:W.nsIn K mainGlobals "OF_WORDS"=some (some (.int 0 w5_0)))
  (g6:W.nsIn K mainGlobals "WIDEST"=some (some (.int 2 w6_0)))
  (g7:W.nsIn K mainGlobals "WIDTHS"=some (some (.ref q7))) (m7:K.lookup q7=some ⟨.type "tuple",qd7,.seq #[.int 4 w7_0,.int 8 w7_1,.int 16 w7_2] qn7,qs7⟩)
  (dg0:W.nsIn K mainGlobals "SHAPES"=some (some (.ref dd0))) (dz0:(dd0 == sysModules)=false) (dl0:K.lookup dd0=some ⟨.type "dict",none,.dict #[⟨dh0_0,.str "put" dt0_0,.ref dp0_0⟩,⟨dh0_1,.str "add" dt0_1,.ref dp0_1⟩,⟨dh0_2,.str "sub" dt0_2,.ref dp0_2⟩,⟨dh0_3,.str "copy" dt0_3,.ref dp0_3⟩,⟨dh0_4,.str "tell" dt0_4,.ref dp0_4⟩,⟨dh0_5,.str "hear" dt0_5,.ref dp0_5⟩,⟨dh0_6,.str "jump" dt0_6,.ref dp0_6⟩,⟨dh0_7,.str "zero" dt0_7,.ref dp0_7⟩,⟨dh0_8,.str "halt" dt0_8,.ref dp0_8⟩] dh0_ep,#[]⟩)
  (dm0_0:K.lookup dp0_0=some ⟨.type "tuple",do0_0,.seq #[.str "box" dw0_0_0,.str "number" dw0_0_1] dn0_0,ds0_0⟩)
  (dm0_1:K.lookup dp0_1=some ⟨.type "tuple",do0_1,.seq #[.str "box" dw0_1_0,.str "box" dw0_1_1] dn0_1,ds0_1⟩)
  (dm0_2:K.lookup dp0_2=some ⟨.type "tuple",do0_2,.seq #[.str "box" dw0_2_0,.str "box" dw0_2_1] dn0_2,ds0_2⟩)
  (dm0_3:K.lookup dp0_3=some ⟨.type "tuple",do0_3,.seq #[.str "box" dw0_3_0,.str "box" dw0_3_1] dn0_3,ds0_3⟩)
  (dm0_4:K.lookup dp0_4=some ⟨.type "tuple",do0_4,.seq #[.str "box" dw0_4_0] dn0_4,ds0_4⟩)
  (dm0_5:K.lookup dp0_5=some ⟨.type "tuple",do0_5,.seq #[.str "box" dw0_5_0] dn0_5,ds0_5⟩)
  (dm0_6:K.lookup dp0_6=some ⟨.type "tuple",do0_6,.seq #[.str "goal" dw0_6_0] dn0_6,ds0_6⟩)
  (dm0_7:K.lookup dp0_7=some ⟨.type "tuple",do0_7,.seq #[.str "box" dw0_7_0,.str "goal" dw0_7_1] dn0_7,ds0_7⟩)
  (dm0_8:K.lookup dp0_8=some ⟨.type "tuple",do0_8,.seq #[] dn0_8,ds0_8⟩)
  (mq0:W.nsIn K mainGlobals "Kept"=some (some (.ref mC)))
  (mq1:W.plainGet K mC Str.empty=true)
  (mq2:W.hasDictIn K mC=true)
  (mq3:W.plainOver K mC=true)
  (mq4:W.findIn K (.ref mC) "__setattr__"=some (some (.builtin "object.__setattr__")))
  (mq5:W.findIn K (.ref mC) "book"=some none)
  (mq6:W.findIn K (.ref mC) "rows"=some none)
  (mq7:W.findIn K (.ref mC) "__init__"=some (some (.ref mf0)))
  (mq8:W.isFn K (.ref mf0)=true)
  (mq9:W.keepIn K (.ref mf0)=true)
  (mq10:K.lookup mf0=some ⟨moc0,mod0,.func (W.fnOf "__init__" "Kept.__init__" (bS aM) (aV aM) (ae aM) .none mkV0 mdc0 mpm0 man0 mcd0 mct0),msl0⟩)
  (mq11:W.codeIn K mcd0 "Kept.__init__"=true)
  (mq12:W.makesIn K mC=true)
  (mq13:W.keepIn K (.ref mC)=true)
  (mq14:W.findIn K (.ref mC) "put_in"=some (some (.ref mf1)))
  (mq15:W.isFn K (.ref mf1)=true)
  (mq16:W.keepIn K (.ref mf1)=true)
  (mq17:K.lookup mf1=some ⟨moc1,mod1,.func (W.fnOf "put_in" "Kept.put_in" (bS bc) (aV bc) (ae bc) .none mkV1 mdc1 mpm1 man1 mcd1 mct1),msl1⟩)
  (mq18:W.codeIn K mcd1 "Kept.put_in"=true)
  (mq19:W.findIn K (.ref mC) "take_out"=some (some (.ref mf2)))
  (mq20:W.isFn K (.ref mf2)=true)
  (mq21:W.keepIn K (.ref mf2)=true)
  (mq22:K.lookup mf2=some ⟨moc2,mod2,.func (W.fnOf "take_out" "Kept.take_out" (bS a_) (aV a_) (ae a_) .none mkV2 mdc2 mpm2 man2 mcd2 mct2),msl2⟩)
  (mq23:W.codeIn K mcd2 "Kept.take_out"=true)
  (mq24:W.findIn K (.ref mC) "program"=some (some (.ref mf3)))
  (mq25:W.isFn K (.ref mf3)=true)
  (mq26:W.keepIn K (.ref mf3)=true)
  (mq27:K.lookup mf3=some ⟨moc3,mod3,.func (W.fnOf "program" "Kept.program" (bS aS) (aV aS) (ae aS) .none mkV3 mdc3 mpm3 man3 mcd3 mct3),msl3⟩)
  (mq28:W.codeIn K mcd3 "Kept.program"=true)
  (mq29:W.findIn K (.ref mC) "bits"=some (some (.ref mf4)))
  (mq30:W.isFn K (.ref mf4)=true)
  (mq31:W.keepIn K (.ref mf4)=true)
  (mq32:K.lookup mf4=some ⟨moc4,mod4,.func (W.fnOf "bits" "Kept.bits" (bS b8) (aV b8) (ae b8) .none mkV4 mdc4 mpm4 man4 mcd4 mct4),msl4⟩)
  (mq33:W.codeIn K mcd4 "Kept.bits"=true)
  (mq34:W.findIn K (.ref mC) "places"=some (some (.ref mf5)))
  (mq35:W.isFn K (.ref mf5)=true)
  (mq36:W.keepIn K (.ref mf5)=true)
  (mq37:K.lookup mf5=some ⟨moc5,mod5,.func (W.fnOf "places" "Kept.places" (bS aY) (aV aY) (ae aY) .none mkV5 mdc5 mpm5 man5 mcd5 mct5),msl5⟩)
  (mq38:W.codeIn K mcd5 "Kept.places"=true)
  (xf0:W.nsIn K mainGlobals "ShortError"=some (some (.ref xd_ShortError)))
  (xf1:W.nsIn K mainGlobals "NoRow"=some (some (.ref xd_NoRow)))
  (xf2:W.nsIn K mainGlobals "NoAsk"=some (some (.ref xd_NoAsk)))
  (xf3:W.nsIn K mainGlobals "NoBits"=some (some (.ref xd_NoBits)))
  (xf4:W.nsIn K mainGlobals "NoCode"=some (some (.ref xd_NoCode)))
  (xf5:W.nsIn K mainGlobals "NoProgram"=some (some (.ref xd_NoProgram)))
  (xf6:W.nsIn K mainGlobals "NoReach"=some (some (.ref xd_NoReach)))
  (xf7:W.excIn K xd_ShortError [.type "ValueError",.type "Exception",.type "BaseException",.type "object"] "ValueError.__new__"=true)
  (xf8:W.excIn K xd_NoRow [.type "ValueError",.type "Exception",.type "BaseException",.type "object"] "ValueError.__new__"=true)
  (xf9:W.findIn K (.ref xd_NoRow) "__getattribute__"=some (some (.builtin "BaseException.__getattribute__")))
  (xf10:W.findIn K (.ref xd_NoRow) "__getattr__"=some none)
  (xf11:W.findIn K (.ref xd_NoRow) "__class__"=some (some (.builtin "object.__class__")))
  (xf12:W.specialIn K (.builtin "object.__class__") "__get__"=some (some (.builtin "getset_descriptor.__get__")))
  (xf13:W.takesIn K (.builtin "object.__class__")=some true)
  (xf14:W.mroIn K xd_NoRow (.type "object")=some true)
  (xf15:W.mroIn K xd_NoRow (.type "BaseException")=some true)
  (xf16:W.mroIn K xd_NoRow (.ref xd_ShortError)=some true)
  (xf17:W.kitOne K (.ref xd_NoRow) (.ref xd_NoRow)=some true)
  (xf18:W.kitOne K (.ref xd_NoRow) (.type "ValueError")=some true)
  (xf19:W.kitAny K (.ref xd_NoRow) [(.ref xd_NoAsk),(.ref xd_NoBits),(.ref xd_NoCode),(.ref xd_NoProgram),(.ref xd_NoReach)]=some false)
  (le_code_of:cd4=.ref lc_code_of) (lk_code_of:K.lookup lc_code_of=some ⟨lO_code_of,lD_code_of,.fields lv_code_of,lS_code_of⟩) (lw_code_of:lv_code_of[11]?=some (.ref lp_code_of))
  : ∃fd:FuncData,(∀(s:Shared) (v:Value),BindsTo s fd ⟨[v],[]⟩ [("script",v)])/\∀base:Heap,K.In base->base.Ns mainGlobals mg->bY l.prog w K mg base aN 30 fa fd ["script"] (qH K):=by
 have e:=hfa.symm.trans (Ld X G a45);cases e
 have T:Txt K mg:=⟨K7 X G z0,K7 X G z1,K7 X G z2,K7 X G z3,K7 X G z4,K7 X G z5,K7 X G z6,K7 X G z7,K7 X G z8,K7 X G z9,K7 X G z10,K7 X G z11,K7 X G z12,K7 X G z13,K7 X G z14,⟨q0,Ld X G g0,λH=>.inr ⟨_,_,_,m0,rfl,rfl,(by show 8<=sizeLine;decide),(.cons ⟨w0_0,rfl⟩ (.cons ⟨w0_1,rfl⟩ (.cons ⟨w0_2,rfl⟩ (.cons ⟨w0_3,rfl⟩ (.cons ⟨w0_4,rfl⟩ (.cons ⟨w0_5,rfl⟩ (.cons ⟨w0_6,rfl⟩ (.cons ⟨w0_7,rfl⟩ .nil))))))))⟩⟩,⟨q1,Ld X G g1,λH=>.inr ⟨_,_,_,m1,rfl,rfl,(by show 3<=sizeLine;decide),(.cons ⟨w1_0,rfl⟩ (.cons ⟨w1_1,rfl⟩ (.cons ⟨w1_2,rfl⟩ .nil)))⟩⟩,⟨q2,Ld X G g2,λH=>.inr ⟨_,_,_,m2,rfl,rfl,(by show 3<=sizeLine;decide),(.cons ⟨w2_0,rfl⟩ (.cons ⟨w2_1,rfl⟩ (.cons ⟨w2_2,rfl⟩ .nil)))⟩⟩,⟨_,Ld X G g3,⟨_,rfl⟩⟩,⟨_,Ld X G g4,⟨_,rfl⟩⟩,⟨_,Ld X G g5,⟨_,rfl⟩⟩,⟨_,Ld X G g6,⟨_,rfl⟩⟩,⟨q7,Ld X G g7,λH=>.inr ⟨_,_,_,m7,rfl,rfl,(by show 3<=sizeLine;decide),(.cons ⟨w7_0,rfl⟩ (.cons ⟨w7_1,rfl⟩ (.cons ⟨w7_2,rfl⟩ .nil)))⟩⟩,⟨q0,_,Ld X G g0,m0,rfl⟩,⟨dd0,Ld X G dg0,dz0,_,_,_,dl0,⟨rfl,rfl,rfl⟩,rfl,(.cons rfl ⟨dp0_0,rfl,⟨_,_,_,dm0_0,rfl,rfl,(by show 2<=sizeLine;decide),(.cons ⟨dw0_0_0,rfl⟩ (.cons ⟨dw0_0_1,rfl⟩ .nil))⟩⟩ (.cons rfl ⟨dp0_1,rfl,⟨_,_,_,dm0_1,rfl,rfl,(by show 2<=sizeLine;decide),(.cons ⟨dw0_1_0,rfl⟩ (.cons ⟨dw0_1_1,rfl⟩ .nil))⟩⟩ (.cons rfl ⟨dp0_2,rfl,⟨_,_,_,dm0_2,rfl,rfl,(by show 2<=sizeLine;decide),(.cons ⟨dw0_2_0,rfl⟩ (.cons ⟨dw0_2_1,rfl⟩ .nil))⟩⟩ (.cons rfl ⟨dp0_3,rfl,⟨_,_,_,dm0_3,rfl,rfl,(by show 2<=sizeLine;decide),(.cons ⟨dw0_3_0,rfl⟩ (.cons ⟨dw0_3_1,rfl⟩ .nil))⟩⟩ (.cons rfl ⟨dp0_4,rfl,⟨_,_,_,dm0_4,rfl,rfl,(by show 1<=sizeLine;decide),(.cons ⟨dw0_4_0,rfl⟩ .nil)⟩⟩ (.cons rfl ⟨dp0_5,rfl,⟨_,_,_,dm0_5,rfl,rfl,(by show 1<=sizeLine;decide),(.cons ⟨dw0_5_0,rfl⟩ .nil)⟩⟩ (.cons rfl ⟨dp0_6,rfl,⟨_,_,_,dm0_6,rfl,rfl,(by show 1<=sizeLine;decide),(.cons ⟨dw0_6_0,rfl⟩ .nil)⟩⟩ (.cons rfl ⟨dp0_7,rfl,⟨_,_,_,dm0_7,rfl,rfl,(by show 2<=sizeLine;decide),(.cons ⟨dw0_7_0,rfl⟩ (.cons ⟨dw0_7_1,rfl⟩ .nil))⟩⟩ (.cons rfl ⟨dp0_8,rfl,⟨_,_,_,dm0_8,rfl,rfl,(by show 0<=sizeLine;decide),.nil⟩⟩ .nil)))))))))⟩,⟨_,_,_,_,_,_,_,_,_,_,_,_,_,Ld X G mq0,⟨mq1,mq2,mq3,mq4⟩,mq5,mq6,⟨mq12,mq7,mq8,mq13⟩,cH (st:=aM) mq10 mq11 mq9,(cH (st:=aM) mq10 mq11 mq9).binds (ps:=["self","book"]) (λ_ _ _ _ _ _ us hl=>by obtain⟨_,_,rfl⟩:=Y.Be hl;rfl),⟨mq14,mq15,mq16⟩,cH (st:=bc) mq17 mq18 mq16,(cH (st:=bc) mq17 mq18 mq16).binds (ps:=["self","place","row"]) (λ_ _ _ _ _ _ us hl=>by obtain⟨_,_,_,rfl⟩:=Y.qm hl;rfl),⟨mq19,mq20,mq21⟩,cH (st:=a_) mq22 mq23 mq21,(cH (st:=a_) mq22 mq23 mq21).binds (ps:=["self","place"]) (λ_ _ _ _ _ _ us hl=>by obtain⟨_,_,rfl⟩:=Y.Be hl;rfl),⟨mq24,mq25,mq26⟩,cH (st:=aS) mq27 mq28 mq26,(cH (st:=aS) mq27 mq28 mq26).binds (ps:=["self"]) (λ_ _ _ _ _ _ us hl=>by obtain⟨_,rfl⟩:=Y.wx hl;rfl),⟨mq29,mq30,mq31⟩,cH (st:=b8) mq32 mq33 mq31,(cH (st:=b8) mq32 mq33 mq31).binds (ps:=["self"]) (λ_ _ _ _ _ _ us hl=>by obtain⟨_,rfl⟩:=Y.wx hl;rfl),⟨mq34,mq35,mq36⟩,cH (st:=aY) mq37 mq38 mq36,(cH (st:=aY) mq37 mq38 mq36).binds (ps:=["self"]) (λ_ _ _ _ _ _ us hl=>by obtain⟨_,rfl⟩:=Y.wx hl;rfl)⟩,⟨_,_,_,_,_,_,_,Ld X G xf0,Ld X G xf1,Ld X G xf2,Ld X G xf3,Ld X G xf4,Ld X G xf5,Ld X G xf6,⟨xf7⟩,⟨xf8⟩,⟨xf9,xf10,xf11,xf12,xf13,xf14,xf15⟩,xf16,xf17,xf18,xf19⟩,tN.mk' X G (pY a4 l4 le_code_of lk_code_of lw_code_of)⟩
 have F4:HasFn K mg "code_of" dj ["lengths"]:=eH X G a4 l4 c4 k4 (by walk_at "b1")
 refine⟨W.fnOf "law" "law" (bS iu) (aV iu) (ae iu) .none kV45 dc45 pm45 an45 cd45 ct45,λs v=>.of_eq rfl,λbase _ _=>(show bY l.prog w K mg base aN 11 _ _ ["script"] (qH K) from ?_).mono (by decide)⟩
 have dr:=Bu (P:=l.prog) (w:=w) (base:=base) T F25 (Fs F24);have lr:=EE (P:=l.prog) (w:=w) (base:=base) T F32 dr (vR T F31 dr);have cs:=yB T F15 (Cr (P:=l.prog) (w:=w) (base:=base) T F4 (DD T F3) (wk T F5));have go:=Ac (P:=l.prog) (w:=w) (base:=base) T F1;have fg:=Eh (P:=l.prog) (w:=w) (base:=base) T F20;have st:=vN (P:=l.prog) (w:=w) (base:=base) T F12 (Fo T F13);have di:=AR (P:=l.prog) (w:=w) (base:=base) T F11;have wg:=B8 (P:=l.prog) (w:=w) (base:=base) T F2;have pk:=Ck T F16 cs (xN T F17 (v9 T F14) (sL T F18 fg)) go (vD T F6 (vz T F7 (vO T F8) (y9 T F9 st (Az T F10 di)))) st (zD T F19 fg) di;have lb:=zZ (P:=l.prog) (w:=w) (base:=base) T F27;have lc:=yG (P:=l.prog) (w:=w) (base:=base) T F28 lb;have wo:=wq (P:=l.prog) (w:=w) (base:=base) F26;have sp:=zX (P:=l.prog) (w:=w) (base:=base) T F35;have lp:=wG T F37 lc (yP T F34 wo lb) (yY T F33) (xa T F36 sp) sp lb;exact FD T (cH (st:=iu) l45 c45 k45) F39 F40 F42 F43 F44 (Ca T F23) (Bh T F30 dr (xG T F29 dr)) dr lr (DO T F41) lp (BQ T F38) pk go (xm T F21 (wu T F22 go wg))
def walk{l:W.OpenLaw}{loose:List Str}{XP:(Str->Option Value)->Heap->Prop}{YP:World->Heap->Prop}{d:DefRec}{K:Params->W.Frag}(hn:l.most=some 63)(hdf:d.params.defaults=[])
  (hY:∀(w:World) (h:Heap),YP w h->(K w.params).In h)
  (F:∀(w:World) (mg:Str->Option Value) (fa:Addr) (h:Heap),(K w.params).In h->h.Ns mainGlobals mg->mg d.name=some (.ref fa)->∃fd:FuncData,(∀(s:Shared) (u:Value),BindsTo s fd ⟨[u],[]⟩ [("script",u)])/\∀base:Heap,(K w.params).In base->base.Ns mainGlobals mg->bY l.prog w (K w.params) mg base aN 30 fa fd ["script"] (qH (K w.params))) (hL:∀(w:World) (h:Heap),(K w.params).In h->iD q (K w.params)) :
  W.WalkO q loose XP YP l.row.toRowW d [] (λf vs=>PySem.call f vs):=
 L2.AK (n:=63) (k:=30) (x:="script") (CX:=λ_=>aN) (sp:=λw=>qH (K w.params)) hn (by decide) hdf ⟨rfl,by decide,by decide,rfl⟩ hY F (λ_ _ a ns hl _ hS=>⟨a,ns,rfl,hS,hl,λ_=>rfl⟩) (λ_ _ _ _ _ z=>z) hL
def Eg(_:K.In h){la_code_of lc_code_of lp_code_of:Addr}{lo_code_of lO_code_of:Value}{ld_code_of lD_code_of:Option Addr}{lfd_code_of:FuncData}{lv_code_of:Array Value}{ls_code_of lS_code_of:Array (Option Value)}(nt:W.noTabs K=true)
  (ma_by_worth:W.nsIn K mainGlobals "by_worth"=some none)
  (ma_by_weight:W.nsIn K mainGlobals "by_weight"=some none)
  (ma_code_of:W.nsIn K mainGlobals "code_of"=some (some (.ref la_code_of))) (ml_code_of:K.lookup la_code_of=some ⟨lo_code_of,ld_code_of,.func lfd_code_of,ls_code_of⟩) (mc_code_of:lfd_code_of.code=.ref lc_code_of) (mk_code_of:K.lookup lc_code_of=some ⟨lO_code_of,lD_code_of,.fields lv_code_of,lS_code_of⟩) (mw_code_of:lv_code_of[11]?=some (.ref lp_code_of)) (mr_code_of:((recsOf q).find? (λe=>e.name ==("code_of":Str))).isSome=true)
  : iD q K:=iD.of nt (lW ma_by_worth) (lW ma_by_weight) (pY ma_code_of ml_code_of mc_code_of mk_code_of mw_code_of) (by first|exact mn|simp) (.inl rfl) (.inl rfl) (.inr mr_code_of)
end
end G
open PySem PySem.W PyProof.Rows
local macro_rules | `(tactic| walk_at "b0") => `(tactic| (intro _ _ _ _ _ _ us hl; match us, hl with | [], _ => rfl))
local macro_rules | `(tactic| walk_at "b1") => `(tactic| (intro _ _ _ _ _ _ us hl; obtain ⟨_, e⟩ := L2.Y.wx hl; subst e; rfl))
local macro_rules | `(tactic| walk_at "b2") => `(tactic| (intro _ _ _ _ _ _ us hl; obtain ⟨_, _, e⟩ := L2.Y.Be hl; subst e; rfl))
local macro_rules | `(tactic| walk_at "b3") => `(tactic| (intro _ _ _ _ _ _ us hl; obtain ⟨_, _, _, e⟩ := L2.Y.qm hl; subst e; rfl))
local macro_rules | `(tactic| walk_at "b4") => `(tactic| (intro _ _ _ _ _ _ us hl; obtain ⟨_, _, _, _, e⟩ := L2.Y.Im hl; subst e; rfl))
set_option maxRecDepth 100000 in
set_option maxHeartbeats 0 in
theorem PySem.Challenge.cw_shortrows_k39_kept_packed_holds : PySem.Challenge.rw_shortrows_k39_kept_packed.Holds := by
 w_on;o_law;k_head;(case hw=>w_witness2)
 k_fill
 refine G.walk (l:=PySem.Challenge.rw_shortrows_k39_kept_packed) rfl rfl (λw h Y=>by first|exact W.kIn_of Y|exact W.km_in_of Y) ?F ?L
 case F =>
  intro w mg fa h KX GN hmg
  refine' G.all_mk KX GN hmg (G.eH KX GN ?a0 ?l0 ?c0 ?k0 (by walk_at "b1")) (G.eH KX GN ?a1 ?l1 ?c1 ?k1 (by walk_at "b1")) (G.eH KX GN ?a2 ?l2 ?c2 ?k2 (by walk_at "b2")) (G.eH KX GN ?a3 ?l3 ?c3 ?k3 (by walk_at "b1")) ?a4 ?l4 ?c4 ?k4 (G.eH KX GN ?a5 ?l5 ?c5 ?k5 (by walk_at "b2")) (G.eH KX GN ?a6 ?l6 ?c6 ?k6 (by walk_at "b2")) (G.eH KX GN ?a7 ?l7 ?c7 ?k7 (by walk_at "b2")) (G.eH KX GN ?a8 ?l8 ?c8 ?k8 (by walk_at "b1")) (G.eH KX GN ?a9 ?l9 ?c9 ?k9 (by walk_at "b3")) (G.eH KX GN ?a10 ?l10 ?c10 ?k10 (by walk_at "b4")) (G.eH KX GN ?a11 ?l11 ?c11 ?k11 (by walk_at "b3")) (G.eH KX GN ?a12 ?l12 ?c12 ?k12 (by walk_at "b2")) (G.eH KX GN ?a13 ?l13 ?c13 ?k13 (by walk_at "b1")) (G.eH KX GN ?a14 ?l14 ?c14 ?k14 (by walk_at "b1")) (G.eH KX GN ?a15 ?l15 ?c15 ?k15 (by walk_at "b1")) (G.eH KX GN ?a16 ?l16 ?c16 ?k16 (by walk_at "b2")) (G.eH KX GN ?a17 ?l17 ?c17 ?k17 (by walk_at "b2")) (G.eH KX GN ?a18 ?l18 ?c18 ?k18 (by walk_at "b1")) (G.eH KX GN ?a19 ?l19 ?c19 ?k19 (by walk_at "b2")) (G.eH KX GN ?a20 ?l20 ?c20 ?k20 (by walk_at "b2")) (G.eH KX GN ?a21 ?l21 ?c21 ?k21 (by walk_at "b3")) (G.eH KX GN ?a22 ?l22 ?c22 ?k22 (by walk_at "b3")) (G.eH KX GN ?a23 ?l23 ?c23 ?k23 (by walk_at "b1")) (G.eH KX GN ?a24 ?l24 ?c24 ?k24 (by walk_at "b2")) (G.eH KX GN ?a25 ?l25 ?c25 ?k25 (by walk_at "b2")) (G.eH KX GN ?a26 ?l26 ?c26 ?k26 (by walk_at "b0")) (G.eH KX GN ?a27 ?l27 ?c27 ?k27 (by walk_at "b2")) (G.eH KX GN ?a28 ?l28 ?c28 ?k28 (by walk_at "b1")) (G.eH KX GN ?a29 ?l29 ?c29 ?k29 (by walk_at "b2")) (G.eH KX GN ?a30 ?l30 ?c30 ?k30 (by walk_at "b1")) (G.eH KX GN ?a31 ?l31 ?c31 ?k31 (by walk_at "b1")) (G.eH KX GN ?a32 ?l32 ?c32 ?k32 (by walk_at "b2")) (G.eH KX GN ?a33 ?l33 ?c33 ?k33 (by walk_at "b1")) (G.eH KX GN ?a34 ?l34 ?c34 ?k34 (by walk_at "b2")) (G.eH KX GN ?a35 ?l35 ?c35 ?k35 (by walk_at "b3")) (G.eH KX GN ?a36 ?l36 ?c36 ?k36 (by walk_at "b3")) (G.eH KX GN ?a37 ?l37 ?c37 ?k37 (by walk_at "b3")) (G.eH KX GN ?a38 ?l38 ?c38 ?k38 (by walk_at "b2")) (G.eH KX GN ?a39 ?l39 ?c39 ?k39 (by walk_at "b4")) (G.eH KX GN ?a40 ?l40 ?c40 ?k40 (by walk_at "b3")) (G.eH KX GN ?a41 ?l41 ?c41 ?k41 (by walk_at "b1")) (G.eH KX GN ?a42 ?l42 ?c42 ?k42 (by walk_at "b4")) (G.eH KX GN ?a43 ?l43 ?c43 ?k43 (by walk_at "b3")) (G.eH KX GN ?a44 ?l44 ?c44 ?k44 (by walk_at "b4")) ?a45 ?l45 ?c45 ?k45 ?z0 ?z1 ?z2 ?z3 ?z4 ?z5 ?z6 ?z7 ?z8 ?z9 ?z10 ?z11 ?z12 ?z13 ?z14 ?gq0 ?mq0 ?gq1 ?mq1 ?gq2 ?mq2 ?gq3 ?gq4 ?gq5 ?gq6 ?gq7 ?mq7 ?dg0 ?dz0 ?dl0 ?dm0_0 ?dm0_1 ?dm0_2 ?dm0_3 ?dm0_4 ?dm0_5 ?dm0_6 ?dm0_7 ?dm0_8 ?mq_0 ?mq_1 ?mq_2 ?mq_3 ?mq_4 ?mq_5 ?mq_6 ?mq_7 ?mq_8 ?mq_9 ?mq_10 ?mq_11 ?mq_12 ?mq_13 ?mq_14 ?mq_15 ?mq_16 ?mq_17 ?mq_18 ?mq_19 ?mq_20 ?mq_21 ?mq_22 ?mq_23 ?mq_24 ?mq_25 ?mq_26 ?mq_27 ?mq_28 ?mq_29 ?mq_30 ?mq_31 ?mq_32 ?mq_33 ?mq_34 ?mq_35 ?mq_36 ?mq_37 ?mq_38 ?xf0 ?xf1 ?xf2 ?xf3 ?xf4 ?xf5 ?xf6 ?xf7 ?xf8 ?xf9 ?xf10 ?xf11 ?xf12 ?xf13 ?xf14 ?xf15 ?xf16 ?xf17 ?xf18 ?xf19 ?le_code_of ?lk_code_of ?lw_code_of
  (case a0|l0|c0|k0|a1|l1|c1|k1|a2|l2|c2|k2|a3|l3|c3|k3|a4|l4|c4|k4|a5|l5|c5|k5|a6|l6|c6|k6|a7|l7|c7|k7|a8|l8|c8|k8|a9|l9|c9|k9|a10|l10|c10|k10|a11|l11|c11|k11|a12|l12|c12|k12|a13|l13|c13|k13|a14|l14|c14|k14|a15|l15|c15|k15|a16|l16|c16|k16|a17|l17|c17|k17|a18|l18|c18|k18|a19|l19|c19|k19|a20|l20|c20|k20|a21|l21|c21|k21|a22|l22|c22|k22|a23|l23|c23|k23|a24|l24|c24|k24|a25|l25|c25|k25|a26|l26|c26|k26|a27|l27|c27|k27|a28|l28|c28|k28|a29|l29|c29|k29|a30|l30|c30|k30|a31|l31|c31|k31|a32|l32|c32|k32|a33|l33|c33|k33|a34|l34|c34|k34|a35|l35|c35|k35|a36|l36|c36|k36|a37|l37|c37|k37|a38|l38|c38|k38|a39|l39|c39|k39|a40|l40|c40|k40|a41|l41|c41|k41|a42|l42|c42|k42|a43|l43|c43|k43|a44|l44|c44|k44|a45|l45|c45|k45|z0|z1|z2|z3|z4|z5|z6|z7|z8|z9|z10|z11|z12|z13|z14|gq0|mq0|gq1|mq1|gq2|mq2|gq3|gq4|gq5|gq6|gq7|mq7|dg0|dl0|dm0_0|dm0_1|dm0_2|dm0_3|dm0_4|dm0_5|dm0_6|dm0_7|dm0_8=>k_is)
  (case dz0=>rfl)
  (case mq_0|mq_1|mq_2|mq_3|mq_4|mq_5|mq_6|mq_7|mq_8|mq_9|mq_10|mq_11|mq_12|mq_13|mq_14|mq_15|mq_16|mq_17|mq_18|mq_19|mq_20|mq_21|mq_22|mq_23|mq_24|mq_25|mq_26|mq_27|mq_28|mq_29|mq_30|mq_31|mq_32|mq_33|mq_34|mq_35|mq_36|mq_37|mq_38|xf0|xf1|xf2|xf3|xf4|xf5|xf6=>k_is)
  (case xf7=>k_exc)
  (case xf8=>k_exc)
  (case xf9|xf10|xf11|xf12|xf13|xf14|xf15|xf16=>k_is)
  (case xf17=>kit_is)
  (case xf18=>kit_is)
  (case xf19=>kit_is)
  (case le_code_of=>exact rfl)
  (case lk_code_of=>k_is)
  (case lw_code_of=>exact rfl)
 case L =>
  intro w h KX
  refine' G.Eg KX (by kernel_rfl) ?ma_by_worth ?ma_by_weight ?ma_code_of ?ml_code_of ?mc_code_of ?mk_code_of ?mw_code_of ?mr_code_of
  (case ma_by_worth|ma_by_weight|ma_code_of|ml_code_of=>k_is)
  (case mc_code_of=>exact rfl)
  (case mk_code_of=>k_is)
  (case mw_code_of=>exact rfl)
  (case mr_code_of=>exact rfl)
end
