import PyProof.Rows.All
import Wide.All
import OpenK.AllK
import Wide.FinOn
import Lean
import PyProof.EqAt
import PyProof.EqKinds
import PyProof.TupleCall
import KE.KSortKey
import KE.KLam
import PySem.Challenge.RW_shortrows_k40_whole_kept_is_packed_afres
namespace PySem.W.Fast
def tw4147028527181850360:=0
def tw10884005077779294912:=0
def tw3893732780016653951:=0
def tw1049077897170473961:=0
noncomputable def tw11611763451006905681:=0
noncomputable def tw17653176520523772441:=0
noncomputable def tw9271388118788792876:=0
noncomputable def tw13574753661519305451:=0
noncomputable def tw4919447036667081143:=0
noncomputable def tw8428760475487213530:=0
noncomputable def tw278189350518715863:=0
noncomputable def tw5487554297249782403:=0
noncomputable def tw13404292416800823730:=0
noncomputable def tw12433174380326893803:=0
noncomputable def tw4231172770606582916:=0
noncomputable def tw1381141956676008586:=0
noncomputable def tw1694236899828305044:=0
noncomputable def tw4985288390760056969:=0
noncomputable def tw1438225593026484367:=0
noncomputable def tw10821263580988933069:=0
noncomputable def tw716852828327352954:=0
noncomputable def tw14586009880540477223:=0
noncomputable def tw5541241987638638280:=0
noncomputable def tw13010889077930644957:=0
noncomputable def tw10697097579011386585:=0
noncomputable def tw2495329513172035276:=0
noncomputable def tw15224803838683147551:=0
noncomputable def tw17825700501866589193:=0
noncomputable def tw18052852107188778111:=0
noncomputable def tw15258843003083792405:=0
noncomputable def tw15863461951437542555:=0
noncomputable def tw2680735166084909464:=0
noncomputable def tw7908081680760531109:=0
noncomputable def tw17954361626513000416:=0
noncomputable def tw10974502073635921642:=0
noncomputable def tw11913711205229666289:=0
noncomputable def tw14486293225951837051:=0
noncomputable def tw916921819678518552:=0
noncomputable def tw7541016726000073322:=0
noncomputable def tw15646247675159074538:=0
noncomputable def tw14867937826463526774:=0
noncomputable def tw2259951233538216572:=0
noncomputable def tw1459736368867426482:=0
noncomputable def tw2335446657962941919:=0
noncomputable def tw11821026647278361273:=0
noncomputable def tw16299987079901356275:=0
noncomputable def tw16496575156326057023:=0
noncomputable def tw5734267686953138152:=0
noncomputable def tw3285705376305856179:=0
noncomputable def tw4501479140286932369:=0
noncomputable def tw6646965731462384207:=0
noncomputable def tw9993842494360791149:=0
noncomputable def tw9615476033435616027:=0
noncomputable def tw6627389812323033271:=0
noncomputable def tw12501459315776398590:=0
noncomputable def tw13965484678570929340:=0
noncomputable def tw7131574624701770942:=0
noncomputable def tw7075934636612106830:=0
noncomputable def tw15464883621346890672:=0
noncomputable def tw11133461347949103037:=0
noncomputable def tw14532551168612513184:=0
noncomputable def tw7334131929406529299:=0
noncomputable def tw14012890859706226154:=0
noncomputable def tw1589131713556066494:=0
noncomputable def tw12355477955307655176:=0
noncomputable def tw6217652180504809368:=0
noncomputable def tw15301093667969994180:=0
noncomputable def tw7040485954546025700:=0
noncomputable def tw11261055230724712143:=0
noncomputable def tw17899664267408343250:=0
noncomputable def tw14226326906646716066:=0
noncomputable def tw4043908858687577200:=0
noncomputable def tw13599337335862894376:=0
noncomputable def tw8478744766477703503:=0
noncomputable def tw2954810980517644421:=0
noncomputable def tw9936747303928207167:=0
noncomputable def tw7059761549026772579:=0
noncomputable def tw15786194836345814607:=0
noncomputable def tw16748302198974670246:=0
noncomputable def tw6276928678115474763:=0
noncomputable def tw16448343198681232764:=0
noncomputable def tw14509515887534587305:=0
noncomputable def tw15083356499224162884:=0
noncomputable def tw2266675987785014255:=0
noncomputable def tw2492465109417920924:=0
noncomputable def tw7143933199023225500:=0
noncomputable def tw11599413506318456680:=0
noncomputable def tw12601493623085543650:=0
noncomputable def tw17214182003124929400:=0
noncomputable def tw9375426047610874722:=0
noncomputable def tw14298381886756013219:=0
noncomputable def tw14979379202023008919:=0
noncomputable def tw11114354260560558381:=0
noncomputable def tw487904801522023942:=0
noncomputable def tw9606090995412301585:=0
noncomputable def tw16636641700772798842:=0
noncomputable def tw13051115909334438003:=0
noncomputable def tw1467165821117277342:=0
noncomputable def tw2549191551235537345:=0
noncomputable def tw12193463506267367285:=0
noncomputable def tw1628382107678605816:=0
noncomputable def tw16096354700711258628:=0
noncomputable def tw538099377715640589:=0
noncomputable def tw10345677088200246864:=0
noncomputable def tw6469416801052926642:=0
noncomputable def tw6194167375774969967:=0
noncomputable def tw15957749954662908261:=0
noncomputable def tw7940311775989304209:=0
noncomputable def tw9862059308116035586:=0
noncomputable def tw3693617292459535850:=0
noncomputable def tw10889350058728975499:=0
noncomputable def tw1580914874601247923:=0
noncomputable def tw3816527615386030137:=0
noncomputable def tw2707256593607841195:=0
noncomputable def tw11090691064324093105:=0
noncomputable def tw6172886791532153449:=0
noncomputable def tw68190966873551713:=0
noncomputable def tw17225763299055088879:=0
noncomputable def tw17060307936964785217:=0
noncomputable def tw18051326658095398142:=0
noncomputable def tw5370098096736470015:=0
noncomputable def tw11415594670787075285:=0
noncomputable def tw1666706765183344684:=0
noncomputable def tw9590478920420532541:=0
noncomputable def tw11419112630760442394:=0
noncomputable def tw5827113131016149466:=0
noncomputable def tw4586230633556784875:=0
noncomputable def tw4170013488806631060:=0
noncomputable def tw2910049912170229083:=0
noncomputable def tw8843270864590650432:=0
noncomputable def tw8839276394868001585:=0
noncomputable def tw4344069872920597903:=0
noncomputable def tw9331874812456001747:=0
noncomputable def tw18276342412433493518:=0
noncomputable def tw15270616512176664835:=0
noncomputable def tw12801704658611606309:=0
noncomputable def tw16465452707660185400:=0
noncomputable def tw1831296456415554282:=0
end PySem.W.Fast
set_option Elab.async false
set_option linter.all false
set_option maxRecDepth 100000
set_option maxHeartbeats 4000000
noncomputable section
set_option compiler.extract_closed false
theorem ℜz0(_:True:=by rfl):True:=⟨⟩
def ℜ0:Lean.Syntax:=ℜz0._auto_1
theorem ℜz1(_:True:=by decide):True:=⟨⟩
def ℜ1:Lean.Syntax:=ℜz1._auto_1
theorem ℜz2(_:True:=by first|exact .inl rfl|exact .inr rfl|assumption):True:=⟨⟩
def ℜ2:Lean.Syntax:=ℜz2._auto_1
theorem ℜz3(_:True:=by intro _;rfl):True:=⟨⟩
def ℜ3:Lean.Syntax:=ℜz3._auto_1
theorem ℜz4(_:True:=by first|exact Or.inl rfl|exact Or.inr (Or.inl rfl)|exact Or.inr (Or.inr rfl)):True:=⟨⟩
def ℜ4:Lean.Syntax:=ℜz4._auto_1
theorem ℜz5(_:True:=by with_unfolding_all rfl):True:=⟨⟩
def ℜ5:Lean.Syntax:=ℜz5._auto_1
theorem ℜz6(_:True:=by decide +kernel):True:=⟨⟩
def ℜ6:Lean.Syntax:=ℜz6._auto_1
namespace L2
open PySem PySem.Spec PyProof.Rows
variable{us:List Value}{x:Str}{u:Value}{C a b:Addr}{o:Option Value}{base h:Heap}{items:Array Value}{P:Program}{w:World}{K:W.Frag}{g':Array GenState}{ch fp:List Addr}{e tg:Expr}{N:List Str}{i j:Nat}{M:Model}{E Q:Value->Shared->Prop}{s':Shared}{pins:List (Addr×Obj)}{f:Value->Value->Sem Value}{es:List Expr}{g:Int->Int->Int}{body:List Stmt}{pl:Sem Bool}{mA mg:Str->Option Value}{kw:List (Str×Value)}{fd:FuncData}{outer:List Env}{kindOf:Str->Option NameKind}{scope:Scope}
noncomputable def Jr:=@List.getElem?_eq_getElem
noncomputable def Js:=@PySem.wpAny_bind
noncomputable def Jt:=@List.length_map
noncomputable def Ju:=@List.length_append
noncomputable def Jv:=@List.getElem?_eq_some_iff
noncomputable def Jw:=@PySem.Heap.get?_push_of_some
noncomputable def Jx:=@if_neg
noncomputable def Jy:=@List.size_toArray
noncomputable def Jz:=@PySem.wpAny_pure
noncomputable def J5:=@List.mem_cons
noncomputable def J6:=@if_pos
noncomputable def J7:=@Nat.le_refl
noncomputable def J8:=@List.mem_cons_of_mem
noncomputable def J9:=@List.mem_cons_self
noncomputable def JA:=@List.getElem?_map
noncomputable def JC:=@Nat.le_trans
noncomputable def JD:=@List.length_cons
noncomputable def JE:=@Bool.false_ne_true
noncomputable def JF:=@List.getD_eq_getElem?_getD
noncomputable def JG:=@List.mem_singleton
noncomputable def JH:=@PySem.Heap.get?_push_size
noncomputable def JI:=@PySem.Heap.lt_size
noncomputable def JJ:=@List.length_replicate
noncomputable def JK:=@List.length_take
noncomputable def JL:=@Nat.zero_le
noncomputable def JM:=@List.getElem_mem
noncomputable def JN:=@List.map_append
noncomputable def JO:=@List.getElem?_append_right
noncomputable def JP:=@List.mem_append_right
noncomputable def JQ:=@Nat.lt_of_lt_of_le
noncomputable def JR:=@Option.map_eq_some_iff
noncomputable def JS:=@Nat.ne_of_lt
noncomputable def JT:=@List.append_assoc
noncomputable def JU:=@List.getElem?_append_left
noncomputable def JV:=@decide_eq_false
noncomputable def JW:=@List.length_drop
noncomputable def JX:=@decide_eq_true
noncomputable def JY:=@List.map_cons
noncomputable def JZ:=@Array.getElem?_toList
noncomputable def J_:=@List.mem_map
noncomputable def Ka:=@List.not_mem_nil
noncomputable def Kb:=@List.pairwise_cons
noncomputable def Kc:=@Array.length_toList
noncomputable def Ke:=@PySem.PassesOwn.never
noncomputable def Kf:=@beq_eq_false_iff_ne
noncomputable def Kg:=@Int.toNat_natCast
noncomputable def Kh:=@Array.getElem?_eq_some_iff
noncomputable def Ki:=@List.replicate_succ
noncomputable def Kj:=@List.mem_append
noncomputable def Kk:=@congrArg
noncomputable def Kl:=@List.take_length
noncomputable def Km:=@PySem.wpAny_mono
noncomputable def Kn:=@List.take_of_length_le
noncomputable def Ko:=@Ne.symm
noncomputable def Kp:=@PySem.wpAny_callSpecial?_slot
noncomputable def Kq:=@List.append_nil
noncomputable def Ks:=@List.length_nil
noncomputable def Kt:=@Nat.lt_of_le_of_lt
noncomputable def Ku:=@PySem.W.mg_none_of
noncomputable def Kv:=@Bool.and_eq_true
noncomputable def Kw:=@List.mem_or_eq_of_mem_set
noncomputable def Kx:=@List.length_range
noncomputable def Ky:=@PySem.wpAny_holding
noncomputable def Kz:=@List.getElem?_toArray
noncomputable def K0:=@List.take_succ
noncomputable def K1:=@List.mem_replicate
noncomputable def K2:=@List.mem_of_getElem?
noncomputable def K4:=@beq_self_eq_true
noncomputable def K6:=@PySem.wpAny_call_entry
noncomputable def K7:=@List.pairwise_append
noncomputable def K8:=@Nat.lt_or_ge
noncomputable def K9:=@List.mem_range
noncomputable def KA:=@List.drop_zero
noncomputable def KC:=@of_decide_eq_true
noncomputable def KD:=@PySem.wpAny_newObj_type
noncomputable def KG:=@PySem.Heap.SameBut.update
noncomputable def KH:=@List.nil_append
noncomputable def KI:=@List.drop_eq_getElem_cons
noncomputable def KJ:=@List.take_append_drop
noncomputable def KL:=@List.lookup_cons
noncomputable def KN:=@List.getElem?_drop
noncomputable def KO:=@List.cons_append
noncomputable def KP:=@List.mem_append_left
noncomputable def KQ:=@PySem.Heap.size_push
noncomputable def KR:=@PySem.W.mg_of
noncomputable def KU:=@or_false
noncomputable def KW:=@PyProof.Rows.callWith_type1
noncomputable def KY:=@List.nodup_cons
noncomputable def KZ:=@Nat.ne_of_gt
noncomputable def K_:=@PySem.sizeLine_eq
noncomputable def La:=@PySem.wpAny_field
noncomputable def Lb:=@Nat.sub_self
noncomputable def Lc:=@List.all_eq_true
noncomputable def Ld:=@List.range'_succ
noncomputable def Le:=@Option.bind_some
noncomputable def Lf:=@PyProof.Rows.slot_tuple_getitem
noncomputable def Lg:=@Nat.le_succ
noncomputable def Lh:=@List.length_set
noncomputable def Li:=@List.find?_cons
noncomputable def Lj:=@List.map_map
noncomputable def Lk:=@Nat.pow_le_pow_right
noncomputable def Ll:=@Nat.lt_irrefl
noncomputable def Lm:=@List.all_cons
noncomputable def Ln:=@PySem.wpAny_typeNameOfWhole_keyiter
noncomputable def Lo:=@List.mem_map_of_mem
noncomputable def Lp:=@List.mem_reverse
noncomputable def Lq:=@List.getElem?_set_self
noncomputable def Lr:=@Nat.min_self
noncomputable def Ls:=@List.getElem?_take
noncomputable def Lu:=@PySem.wpAny_passesOwn
noncomputable def Lv:=@PySem.Heap.get?_update_self
noncomputable def Lw:=@PySem.F.slot_tuple_iterator_next
noncomputable def Ly:=@Array.getElem?_eq_getElem
noncomputable def Lz:=@List.pairwise_iff_getElem
noncomputable def L3:=@Nat.le_of_lt
noncomputable def L4:=@Nat.lt_trans
noncomputable def L5:=@PySem.F.slot_list_getattribute
noncomputable def L6:=@PySem.wpAny_typeNameOf_keyiter
noncomputable def L7:=@List.length_reverse
noncomputable def L8:=@Array.toList_append
noncomputable def L9:=@List.prefix_of_prefix_length_le
noncomputable def LA:=@PySem.wpAny_getItem_str_slice
noncomputable def LC:=@List.length_eq_zero_iff
noncomputable def LD:=@Option.bind_eq_some_iff
noncomputable def LF:=@Bool.eq_iff_iff
noncomputable def LG:=@beq_iff_eq
noncomputable def LH:=@PySem.wpAny_Call_Name_kw
noncomputable def LI:=@PySem.call_meets
noncomputable def LJ:=@List.forIn_cons
noncomputable def LK:=@PySem.Obj.data_mapFields
noncomputable def LL:=@PySem.wpAny_pyIter_tuple
noncomputable def LM:=@PySem.codeAny_builtin
noncomputable def LN:=@Int.emod_nonneg
noncomputable def LO:=@Int.emod_lt_of_pos
noncomputable def LP:=@List.getElem_cons_zero
noncomputable def LQ:=@List.flatten_cons
noncomputable def LR:=@decide_eq_true_eq
noncomputable def LS:=@List.map_nil
noncomputable def LU:=@if_true
noncomputable def LV:=@List.length_singleton
noncomputable def LW:=@PySem.wpAny_seqItems
noncomputable def LX:=@Nat.sub_zero
noncomputable def LY:=@Nat.zero_add
noncomputable def LZ:=@List.getElem?_set_ne
noncomputable def L_:=@Nat.lt_succ_self
noncomputable def Ma:=@if_false
noncomputable def Mb:=@PySem.Around.under_plainId
noncomputable def Mc:=@List.getElem?_append
noncomputable def Md:=@List.reverse_reverse
noncomputable def Me:=@List.mem_of_mem_take
noncomputable def Mf:=@List.ext_getElem
noncomputable def Mg:=@Array.toArray_toList
noncomputable def Mh:=@List.drop_length
noncomputable def Mi:=@PySem.wpAny_attempt
noncomputable def Mj:=@Nat.mul_assoc
noncomputable def Ml:=@List.dropWhile_cons
noncomputable def Mm:=@PySem.W.KasT.kasWp_bind
noncomputable def Mn:=@List.mem_filterMap
noncomputable def Mo:=@Nat.succ_mul
noncomputable def Mp:=@Bool.false_eq_true
noncomputable def Mq:=@List.Pairwise.imp_of_mem
noncomputable def Mr:=@PySem.wpAny_setField_rec
noncomputable def Ms:=@Nat.add_sub_cancel
noncomputable def Mt:=@Nat.eq_zero_or_pos
noncomputable def Mw:=@List.prefix_append
noncomputable def Mx:=@PySem.wpAny_setField
noncomputable def My:=@List.take_left
noncomputable def Mz:=@PySem.wpAny_truthy_bool
noncomputable def M0:=@PySem.wpAny_pyIter_enum
noncomputable def M1:=@PySem.wpAny_pyIter_list
noncomputable def M3:=@PySem.wpAny_dictEntries
noncomputable def M4:=@List.pairwise_map
noncomputable def M5:=@Int.emod_eq_of_lt
noncomputable def M6:=@PySem.Heap.get?_update_other
noncomputable def M7:=@List.dropWhile_sublist
noncomputable def M8:=@List.sum_replicate_nat
noncomputable def M9:=@List.any_cons
noncomputable def MA:=@Bool.and_true
noncomputable def MB:=@Nat.add_assoc
noncomputable def MC:=@List.sum_cons
noncomputable def MD:=@List.map_take
noncomputable def ME:=@PySem.Obj.isFreed_of_fields
noncomputable def MF:=@List.pairwise_reverse
noncomputable def MG:=@List.mem_iff_getElem?
noncomputable def MH:=@PySem.wpAny_isOneOf_keyiter
noncomputable def MI:=@List.eraseIdx_eq_take_drop_succ
noncomputable def MJ:=@PySem.wpAny_execs_nil
noncomputable def MK:=@List.foldl_cons
noncomputable def ML:=@PySem.wpAny_loadPart'
noncomputable def MM:=@PySem.wpAny_typeOf
noncomputable def MN:=@PyProof.Rows.get?_update_seq
noncomputable def MO:=@PySem.post_val_or_str
noncomputable def MP:=@Nat.not_lt_zero
noncomputable def MQ:=@List.range_eq_range'
noncomputable def MR:=@Nat.pow_succ
noncomputable def MS:=@List.mem_of_mem_drop
noncomputable def MT:=@Nat.min_eq_left
noncomputable def MU:=@List.take_append_of_le_length
noncomputable def MV:=@List.filterMap_cons
noncomputable def MW:=@List.takeWhile_cons
noncomputable def MX:=@List.reverse_append
noncomputable def MY:=@List.toList_toArray
noncomputable def MZ:=@List.length_pos_iff
noncomputable def M_:=@Bool.false_and
noncomputable def Na:=@PySem.F.args_tuple_iterator_next_1
noncomputable def Nb:=@List.drop_left
noncomputable def Nc:=@PySem.wpAny_fieldsOf
noncomputable def Nd:=@PySem.wpAny_ite_true
noncomputable def Nf:=@Array.append_empty
noncomputable def Ng:=@PySem.F.entry_tuple_iterator_next
noncomputable def Nh:=@PySem.SeqAt.EqAt.of_refs
noncomputable def Ni:=@Array.getD_eq_getD_getElem?
noncomputable def Nj:=@List.set_cons_zero
noncomputable def Nk:=@Int.natAbs_natCast
noncomputable def Nl:=@PySem.Calls.Name_function_global
noncomputable def Nm:=@PySem.wpAny_standAt
noncomputable def Nn:=@PySem.wpAny_letOwnedTupleGo_enum
noncomputable def Np:=@PySem.SeqAt.RcNeAt.lists_lengths
noncomputable def Nq:=@PySem.wpAny_newList
noncomputable def Nr:=@Array.getElem?_eq_none_iff
noncomputable def Nt:=@Bool.not_true
noncomputable def Nu:=@List.map_drop
noncomputable def Nv:=@Nat.lt_succ_of_lt
noncomputable def Nx:=@Array.size_append
noncomputable def Ny:=@List.ext_getElem?
noncomputable def Nz:=@Nat.lt_trichotomy
noncomputable def N0:=@PySem.wpAny_call
noncomputable def N1:=@PySem.typeIs_int
noncomputable def N2:=@PySem.wpAny_binaryOp_repeat_ref
noncomputable def N3:=@PySem.wpAny_rule
noncomputable def N4:=@bne_iff_ne
noncomputable def N5:=@List.extract_eq_take_drop
noncomputable def N6:=@List.exists_mem_of_ne_nil
noncomputable def N7:=@List.mem_of_find?_eq_some
noncomputable def N8:=@PySem.wpAny_eqBool_str
noncomputable def N9:=@Nat.le_of_eq
noncomputable def NA:=@PySem.codeAny_mono
noncomputable def NB:=@Option.isSome_iff_exists
noncomputable def NC:=@List.getElem?_take_of_lt
noncomputable def ND:=@PySem.wpAny_comprehension_free
noncomputable def NF:=@decide_eq_decide
noncomputable def NG:=@PyProof.Rows.listItems_at
noncomputable def NH:=@List.perm_middle
noncomputable def NI:=@List.zipIdx_cons
noncomputable def NJ:=@List.map_set
noncomputable def NK:=@List.getElem?_replicate
noncomputable def NL:=@PySem.wpAny_pyNext_enum_itemD
noncomputable def NM:=@PySem.SeqAt.eq_list_lengthsAt
noncomputable def NN:=@List.pairwise_singleton
noncomputable def NO:=@Nat.add_sub_cancel_left
noncomputable def NP:=@List.of_mem_zip
noncomputable def NQ:=@List.range_succ
noncomputable def NR:=@PySem.wpAny_dictEpoch
noncomputable def NS:=@PySem.wpAny_pyNext_list_item
noncomputable def NV:=@PySem.Calls.callWith_builtin
noncomputable def NW:=@PySem.wpAny_pyNext_enum_endD
noncomputable def NX:=@Int.le_refl
noncomputable def NY:=@List.length_eq_one_iff
noncomputable def NZ:=@List.pairwise_lt_range
noncomputable def N_:=@Int.le_ediv_iff_mul_le
noncomputable def Oa:=@Array.getElem?_eq_none
noncomputable def Ob:=@Int.pow_pos
noncomputable def Oc:=@Int.sub_mul
noncomputable def Od:=@Nat.pow_add
noncomputable def Of:=@PySem.W.looks_findIn
noncomputable def Og:=@PySem.fitsIndex_both
noncomputable def Oh:=@Bool.and_false
noncomputable def Oj:=@List.eq_nil_or_concat
noncomputable def Ol:=@List.set_append_right
noncomputable def Om:=@List.singleton_append
noncomputable def Oo:=@List.dropLast_eq_take
noncomputable def Oq:=@Int.emod_add_mul_ediv
noncomputable def Ot:=@PySem.typeIs_str
noncomputable def Ou:=@Nat.not_lt
noncomputable def Ov:=@PySem.W.plainGet_of
noncomputable def Ow:=@Bool.true_and
noncomputable def Oy:=@PySem.plainId_quiet
noncomputable def Oz:=@PySem.W.callWith_K
noncomputable def O0:=@PySem.seqIndex_neg
noncomputable def O1:=@PySem.callType_new
noncomputable def O2:=@Nat.mul_zero
abbrev Key:=Sum Int Str
noncomputable def i7:Key->Value->Bool
 |.inl k,v=>Value.isInt k v
 |.inr x,v=>Value.isStrOf x v
noncomputable def Ie(w:World):Key->Int
 |.inl k=>hashInt k
 |.inr x=>hashStr w x
theorem bH:∀{k:Key} {v:Value},i7 k v=true->(∃i t,k=Sum.inl i/\v=Value.int i t)\/(∃x t,k=Sum.inr x/\v=Value.str x t)
 |.inl i,v,h=>by
  obtain⟨t,e⟩:=Value.isInt_shape (k:=i) (v:=v) h;exact .inl ⟨i,t,rfl,e⟩
 |.inr x,v,h=>by
  obtain⟨t,e⟩:=Value.isStrOf_shape (x:=x) (v:=v) h;exact .inr ⟨x,t,rfl,e⟩
theorem vH(i:Int)(t:Tok):i7 (.inl i) (.int i t)=true:=by simp[i7,Value.isInt]
theorem vY(x:Str)(t:Tok):i7 (.inr x) (.str x t)=true:=by simp[i7,Value.isStrOf]
theorem DZ(a b:Int):decide ((Sum.inl a:Key)=Sum.inl b)=(a == b):=by
 by_cases e:a=b
 ·subst e;simp
 ·have h:¬ (Sum.inl a:Key)=Sum.inl b:=λq=>e (Sum.inl.inj q);rw[JV h];exact (Kf.mpr e).symm
theorem Er(a b:Str):decide ((Sum.inr a:Key)=Sum.inr b)=decide (a=b):=by
 by_cases e:a=b
 ·subst e;simp
 ·have h:¬ (Sum.inr a:Key)=Sum.inr b:=λq=>e (Sum.inr.inj q);rw[JV h,JV e]
theorem Dy(a:Int)(b:Str):decide ((Sum.inl a:Key)=Sum.inr b)=false:=JV (λq=>nomatch q)
theorem Fi(a:Str)(b:Int):decide ((Sum.inr a:Key)=Sum.inl b)=false:=JV (λq=>nomatch q)
noncomputable def bU(prog:Program)(w:World):PySem.KeyKind prog w Key where
 is:=i7
 hash:=Ie w
 inj:=λv a b ha hb=>by
  rcases bH ha with ⟨i,t,rfl,rfl⟩|⟨x,t,rfl,rfl⟩
  ·rcases bH hb with ⟨j,u,rfl,e⟩|⟨y,u,rfl,e⟩
   ·injection e with e1 _;rw[e1]
   ·exact nomatch e
  ·rcases bH hb with ⟨j,u,rfl,e⟩|⟨y,u,rfl,e⟩
   ·exact nomatch e
   ·injection e with e1 _;rw[e1]
 byValue:=λk v h=>by
  rcases bH h with ⟨i,t,rfl,rfl⟩|⟨x,t,rfl,rfl⟩<;>rfl
 pyHash:=λhv h=>by
  rcases bH hv with ⟨i,t,rfl,rfl⟩|⟨x,t,rfl,rfl⟩
  ·exact wpAny_pyHash_int h
  ·exact wpAny_pyHash_str h
 eqBool:=λhu hv h=>by
  rcases bH hu with ⟨i,t,rfl,rfl⟩|⟨x,t,rfl,rfl⟩
  ·rcases bH hv with ⟨j,u,rfl,rfl⟩|⟨y,u,rfl,rfl⟩
   ·rw[DZ] at h;exact wpAny_eqBool_int h
   ·rw[Dy] at h;exact SeqAt.EqAt.int_str i t y u _ _ _ _ h
  ·rcases bH hv with ⟨j,u,rfl,rfl⟩|⟨y,u,rfl,rfl⟩
   ·rw[Fi] at h;exact SeqAt.EqAt.str_int x t j u _ _ _ _ h
   ·rw[Er] at h;exact N8 h
 «strs»:=λk x t v h=>by
  rcases bH h with ⟨i,u,rfl,e⟩|⟨y,u,rfl,e⟩
  ·exact nomatch e
  ·injection e with e1 _
   subst e1
   cases v<;>rfl
theorem pY(prog:Program)(w:World)(i:Int)(t:Tok):(bU prog w).is (.inl i) (.int i t)=true:=vH i t
theorem pO(prog:Program)(w:World)(x:Str)(t:Tok):(bU prog w).is (.inr x) (.str x t)=true:=vY x t
inductive V where
 |aG|bl (b:Bool)|int (i:Int)|str (x:Str)|q5 (b:Array UInt8)|HG (b:UInt64)|ref (a:Addr)|ty (n:String)
 deriving DecidableEq
variable{xs:List V}
noncomputable def RelV:V->Value->Prop
 |.aG,u=>u=Value.none
 |.bl b,u=>u=Value.bool b
 |.int i,u=>∃t,u=Value.int i t
 |.str x,u=>∃t,u=Value.str x t
 |.q5 b,u=>∃t,u=Value.bytes b t
 |.HG b,u=>∃t,u=Value.float b t
 |.ref a,u=>u=Value.ref a
 |.ty n,u=>u=Value.type n
abbrev Vals:List V->List Value->Prop:=Paired RelV
theorem Vals.length(r:Vals xs us):xs.length=us.length:=Paired.length r
theorem Vals.get:∀{xs:List V} {us:List Value} {i:Nat} {x:V},Vals xs us->xs[i]?=some x->∃u,us[i]?=some u/\RelV x u
 |_,_,_,_,.nil,e=>by simp at e
 |_,_,0,_,.cons r _,e=>by simp at e;subst e;exact⟨_,rfl,r⟩
 |_,_,i+1,x,.cons _ t,e=>by
  obtain⟨u,h1,h2⟩:=Vals.get (i:=i) (x:=x) t (by simpa using e)
  exact⟨u,by simpa using h1,h2⟩
theorem Vals.set{x:V}(r:RelV x u):∀{xs:List V} {us:List Value} (i:Nat),Vals xs us->Vals (xs.set i x) (us.set i u)
 |_,_,_,.nil=>.nil
 |_,_,0,.cons _ t=>.cons r t
 |_,_,i+1,.cons q t=>.cons q (Vals.set r i t)
theorem Vals.append:∀{xs ys:List V} {us ws:List Value},Vals xs us->Vals ys ws->Vals (xs++ys) (us++ws)
 |_,_,_,_,.nil,s=>s
 |_,_,_,_,.cons r t,s=>.cons r (Vals.append t s)
theorem Vals.take:∀{xs:List V} {us:List Value} (n:Nat),Vals xs us->Vals (xs.take n) (us.take n)
 |_,_,0,_=>.nil
 |_,_,_+1,.nil=>.nil
 |_,_,n+1,.cons r t=>.cons r (Vals.take n t)
theorem Vals.drop:∀{xs:List V} {us:List Value} (n:Nat),Vals xs us->Vals (xs.drop n) (us.drop n)
 |_,_,0,r=>r
 |_,_,_+1,.nil=>.nil
 |_,_,n+1,.cons _ t=>Vals.drop n t
noncomputable def gv:Option V->Option Value->Prop
 |some v,some u=>RelV v u
 |none,none=>True
 |_,_=>False
noncomputable def KV{κ:Type}:List (κ×V)->List (κ×Value)->Prop:=Paired λ(p:κ×V) (q:κ×Value)=>p.1=q.1/\RelV p.2 q.2
noncomputable def kV:Key->V
 |.inl i=>.int i
 |.inr x=>.str x
inductive HO where
 |lst (xs:List V)
 |tup (xs:List V)
 |dK (kvs:List (Key×V))|dT (kvs:List (List Key×V))
 |set (S:Int->Bool) (n:Nat)
 |ins (C dx:Addr) (fs:List (Str×V))
 |own (x:Addr)
 |xd (fs:List (Str×V))
 |met (f x:Addr)
 |mi (lo hi:Int)
 |jD (o:Obj) (u:HO)
 |vZ (ps:Array Value)
 |ext (φ:Heap->Prop)
abbrev Hp:=Addr->Option HO
variable{H:Hp}
noncomputable def upd(H:Hp)(a:Addr)(o:HO):Hp:=λb=>if b=a then some o else H b
theorem aa{o:HO}:upd H a o a=some o:=by unfold upd;rw[J6 rfl]
theorem ar{o:HO}(h:b≠a):upd H a o b=H b:=by unfold upd;rw[Jx h]
theorem sJ{o u:HO}:upd (upd H a o) a u=upd H a u:=by
 funext b;unfold upd;split<;>rfl
theorem af{o:HO}(h:H a=some o)(h':H b=none):a≠b:=by
 intro e;subst e;rw[h] at h';cases h'
noncomputable def IM:List Value->Str
 |.str q _::_=>q
 |_=>Str.ofString ""
noncomputable def zV(ps:Array Value):Str:=IM ps.toList
noncomputable def C7(H:Hp)(q:Str)(cv:Value):Prop:=∃(c:Addr) (oc:Obj) (vs:Array Value) (t:Tok),cv=.ref c/\H c=some (.jD oc (.own c))/\oc.data=.fields vs/\vs[1]?=some (.str q t)
noncomputable def dF(h:Heap)(a:Addr)(items:Array Value):Prop:=∃o:Obj,h.get? a=some o/\o.cls=.type "tuple"/\∃n,o.data=.seq items n/\o.dict=none
theorem dF.to(x:dF h a items):IsTup h a items:=let ⟨o,e,c,n,d,_⟩:=x;⟨o,e,c,n,d⟩
theorem dF.new(h:Heap)(items:Array Value):dF (h.push {cls:=.type "tuple",data:=.seq items}) h.objs.size items:=⟨_,JH h rfl,rfl,_,rfl,rfl⟩
theorem dF.lt(x:dF h a items):a<h.objs.size:=x.to.lt
section
variable (P:Program) (w:World)
noncomputable def bA(H:Hp)(h:Heap)(a:Addr):HO->Prop
 |.lst xs=>xs.length<=sizeLine/\∃(its:List Value) (n:Nat),Vals xs its/\h.get? a=some {cls:=.type "list",data:=.seq its.toArray n}
 |.tup xs=>xs.length<=sizeLine/\∃its:List Value,Vals xs its/\dF h a its.toArray
 |.dK kvs=>kvs.length<=sizeLine/\(a == sysModules)=false/\∃vs,KV kvs vs/\h.DictOf (bU P w) a vs
 |.dT kvs=>kvs.length<=sizeLine/\(a == sysModules)=false/\∃xs:List (List Key×Addr×Value),
   Paired (λ(p:List Key×V) (q:List Key×Addr×Value)=>p.1=q.1/\H q.2.1=some (.tup (p.1.map kV))/\RelV p.2 q.2.2) kvs xs /\
   ∃o es ep,h.get? a=some o/\o.ExactDict/\o.data=.dict es ep/\es.toList=xs.map (entryOfKey (tupleKind (bU P w)))/\(xs.map (·.1)).Nodup
 |.set S n=>h.SetOf (intKind P w) a S n
 |.ins C dx fs=>H dx=some (.own a)/\fs.length<=1000/\dx≠a/\h.get? a=some (W.instObj C dx) /\
   ∃mA,h.Ns1 dx mA/\(∀f,gv (fs.lookup f) (mA f))/\PySem.Within mA (fs.map (·.1))
 |.own _=>∃o,h.get? a=some o
 |.xd fs=>∃mA,h.Ns1 a mA/\∀f,gv (fs.lookup f) (mA f)
 |.mi lo hi=>∃t u v,h.get? a=some {cls:=.type "range",data:=.fields #[.int lo t,.int hi u,.int 1 v]}
 |.jD o u=>h.get? a=some o/\bA H h a u
 |.vZ ps=>∃qs:Array Value,h.get? a=some {cls:=.none,data:=.fields qs}/\TriplesOk qs.toList/\∀pos cv,codeAmong pos qs.toList=some cv->C7 H (zV ps) cv
 |.met f x=>h.get? a=some (W.methodObj (.ref f) (.ref x))
 |.ext φ=>φ h/\(∃o,h.get? a=some o)/\∀h1 h2:Heap,φ h1->(∀o,h1.get? a=some o->h2.get? a=some o)->φ h2
noncomputable def f7(H:Hp)(h:Heap):Prop:=∀a o,H a=some o->bA P w H h a o
end
section
variable {P:Program} {w:World} {H H':Hp} {h h':Heap} {a:Addr} {o:HO}
theorem bA.lt(x:bA P w H h a o):a<h.objs.size:=by
 cases o with
 |lst xs=>obtain⟨_,_,_,_,e⟩:=x;exact JI e
 |tup xs=>obtain⟨_,_,_,p⟩:=x;exact p.lt
 |dK kvs=>obtain⟨_,_,_,_,o,_,_,e,_⟩:=x;exact JI e
 |dT kvs=>obtain⟨_,_,_,_,o,_,_,e,_⟩:=x;exact JI e
 |set S n=>obtain⟨o,_,_,_,e,_⟩:=x;exact JI e
 |ins C dx fs=>obtain⟨_,_,_,e,_⟩:=x;exact JI e
 |own y=>obtain⟨_,e⟩:=x;exact JI e
 |xd fs=>obtain⟨_,⟨_,_,_,e,_⟩,_⟩:=x;exact JI e
 |mi lo hi=>obtain⟨_,_,_,e⟩:=x;exact JI e
 |jD ob u=>obtain⟨e,_⟩:=x;exact JI e
 |vZ ps=>obtain⟨_,e,_⟩:=x;exact JI e
 |met f y=>exact JI (show h.get? a=some _ from x)
 |ext φ=>obtain⟨_,⟨_,e⟩,_⟩:=x;exact JI e
theorem Paired.FW{α β:Type}{F G:α->β->Prop}:∀{l₁:List α} {l₂:List β},Paired F l₁ l₂->(∀a b,F a b->G a b)->Paired G l₁ l₂
 |_,_,.nil,_=>.nil
 |_,_,.cons r t,f=>.cons (f _ _ r) (Paired.FW t f)
theorem bA.jt(x:bA P w H h a o)(k:∀b u,(b=a\/H b=some (.own a))->h.get? b=some u->h'.get? b=some u)
  (ho:∀b,H b=some (.own a)->H' b=some (.own a)) (ht:∀b xs,H b=some (.tup xs)->H' b=some (.tup xs)) (hz:∀b o u,H b=some (.jD o u)->H' b=some (.jD o u)):bA P w H' h' a o:=by
 induction o with
 |lst xs=>obtain⟨z,its,n,r,e⟩:=x;exact⟨z,its,n,r,k _ _ (.inl rfl) e⟩
 |tup xs=>obtain⟨z,its,r,ob,e,c⟩:=x;exact⟨z,its,r,ob,k _ _ (.inl rfl) e,c⟩
 |dK kvs=>obtain⟨z,y,vs,r,ob,es,ep,e,c⟩:=x;exact⟨z,y,vs,r,ob,es,ep,k _ _ (.inl rfl) e,c⟩
 |dT kvs =>
  obtain⟨z,y,xs,r,ob,es,ep,e,c⟩:=x;exact⟨z,y,xs,Paired.FW r λp q z=>⟨z.1,ht _ _ z.2.1,z.2.2⟩,ob,es,ep,k _ _ (.inl rfl) e,c⟩
 |set S n=>obtain⟨ob,es,ep,t,e,c⟩:=x;exact⟨ob,es,ep,t,k _ _ (.inl rfl) e,c⟩
 |ins C dx fs =>
  obtain⟨d,z,ne,e,mA,⟨od,es,ep,e2,c⟩,r⟩:=x;exact⟨ho _ d,z,ne,k _ _ (.inl rfl) e,mA,⟨od,es,ep,k _ _ (.inr d) e2,c⟩,r⟩
 |own y=>obtain⟨ob,e⟩:=x;exact⟨ob,k _ _ (.inl rfl) e⟩
 |xd fs=>obtain⟨mA,⟨od,es,ep,e,c⟩,r⟩:=x;exact⟨mA,⟨od,es,ep,k _ _ (.inl rfl) e,c⟩,r⟩
 |mi lo hi=>obtain⟨t,u,v,e⟩:=x;exact⟨t,u,v,k _ _ (.inl rfl) e⟩
 |jD ob u ih=>obtain⟨e,q⟩:=x;exact⟨k _ _ (.inl rfl) e,ih q⟩
 |vZ ps =>
  obtain⟨qs,e,t,f⟩:=x;exact⟨qs,k a _ (.inl rfl) e,t,λpos cv q=>let ⟨c,oc,vs,t',e1,e2,e3⟩:=f pos cv q;⟨c,oc,vs,t',e1,hz _ _ _ e2,e3⟩⟩
 |met f y =>
  have e:h.get? a=some (W.methodObj (.ref f) (.ref y)):=x;show h'.get? a=some (W.methodObj (.ref f) (.ref y));exact k a _ (.inl rfl) e
 |ext φ=>obtain⟨p,⟨o,e⟩,st⟩:=x;exact⟨st _ _ p λo q=>k _ _ (.inl rfl) q,⟨o,k _ _ (.inl rfl) e⟩,st⟩
theorem f7.lt(x:f7 P w H h)(e:H a=some o):a<h.objs.size:=(x a o e).lt
theorem f7.fresh(x:f7 P w H h)(e:h.objs.size<=a):H a=none:=by
 cases q:H a with
 |none=>rfl
 |some u=>exact absurd (JQ (x.lt q) e) (Ll _)
theorem f7.kept(x:f7 P w H h)(k:∀b u,h.get? b=some u->h'.get? b=some u):f7 P w H h':=λa o e =>
 (x a o e).jt (λb u _ q=>k b u q) (λ_ q=>q) (λ_ _ q=>q) λ_ _ _ q=>q
theorem f7.laid(x:f7 P w H h)(k:∀b u,h.get? b=some u->h'.get? b=some u)(hp:h.objs.size<=a)(new:bA P w (upd H a o) h' a o):f7 P w (upd H a o) h':=λb u e=>by
 have hn:=x.fresh hp;by_cases hb:b=a
 ·subst hb;rw[aa] at e;cases e;exact new
 ·rw[ar hb] at e;exact (x b u e).jt (λc v _ q=>k c v q) (λc q=>by rw[ar (af q hn)];exact q) (λc xs q=>by rw[ar (af q hn)];exact q) λc _ _ q=>by rw[ar (af q hn)];exact q
end
noncomputable def Rd(H:Hp)(a:Addr)(u:HO):Prop:=H a=some u\/∃o,H a=some (.jD o u)
theorem Rd.ok{u:HO}(r:Rd H a u)(x:f7 P w H h):bA P w H h a u:=by
 rcases r with r|⟨o,r⟩
 ·exact x a u r
 ·obtain⟨_,q⟩:=x a _ r;exact q
noncomputable def HI:Option HO->Prop
 |some (.lst _)=>True
 |some (.dK _)=>True
 |some (.dT _)=>True
 |some (.set _ _)=>True
 |some (.ins _ _ _)=>True
 |some (.ext _)=>True
 |_=>False
section
variable {P:Program} {w:World} {H:Hp} {h h':Heap} {x e:Addr} {o':HO}
theorem f7.write(ok:f7 P w H h)(mu:HI (H x))(he:e=x\/H e=some (.own x))(k:∀b u,b≠e->h.get? b=some u->h'.get? b=some u)(heo:∃u,h'.get? e=some u)
  (new:bA P w (upd H x o') h' x o'):f7 P w (upd H x o') h':=λb u q=>by
 have nown:∀c y,H c=some (.own y)->c≠x:=λc y r z=>by subst z;rw[r] at mu;exact mu
 have ntup:∀c xs,H c=some (.tup xs)->c≠x:=λc xs r z=>by subst z;rw[r] at mu;exact mu
 have nfrz:∀c o1 u1,H c=some (.jD o1 u1)->c≠x:=λc _ _ r z=>by subst z;rw[r] at mu;exact mu
 by_cases hb:b=x
 ·subst hb;rw[aa] at q;cases q;exact new
 ·rw[ar hb] at q;by_cases hbe:b=e
  ·have q':H b=some (.own x):=by
    rcases he with z|z
    ·exact absurd (hbe.trans z) hb
    ·rw[hbe];exact z
   rw[q] at q';cases q';obtain⟨v,hv⟩:=heo;exact⟨v,by rw[hbe];exact hv⟩
  ·refine (ok b u q).jt (λc v hc r=>k c v ?_ r) (λc r=>by rw[ar (nown c b r)];exact r) (λc xs r=>by rw[ar (ntup c xs r)];exact r) λc _ _ r=>by rw[ar (nfrz c _ _ r)];exact r
   rcases hc with rfl|hc
   ·exact hbe
   ·rintro rfl;rcases he with z|z
    ·exact nown c b hc z
    ·rw[hc] at z;cases z;exact hb rfl
end
structure Un (fs ex:List Addr) (H H':Hp) (h h':Heap):Prop where
 keep:∀b o,h.get? b=some o->H b=none->b∉fs->b∉ex->h'.get? b=some o
 slot:∀b o,h.get? b=some o->H b=none->b∈fs->b∉ex->∃sl,h'.get? b=some {o with slots:=sl}
 free:∀b o,h.get? b=some o->H b=none->b∉ex->H' b=none
 there:∀b o,h.get? b=some o->b∉ex->∃o',h'.get? b=some o'
 lL:∀b xs,H b=some (.tup xs)->H' b=some (.tup xs)
 js:∀b o u,H b=some (.jD o u)->H' b=some (.jD o u)
 iJ:∀b ps,H b=some (.vZ ps)->∃more,H' b=some (.vZ (ps++more))
section
variable {fs fs' ex ex':List Addr} {H H1 H2:Hp} {h h1 h2 h':Heap} {a x e:Addr} {o:HO}
theorem Un.any(u:Un fs ex H H1 h h1){ob:Obj}(q:h.get? b=some ob)(n:H b=none)(hx:b∉ex):∃sl,h1.get? b=some {ob with slots:=sl}:=by
 by_cases hb:b∈fs
 ·exact u.slot b ob q n hb hx
 ·exact⟨ob.slots,u.keep b ob q n hb hx⟩
theorem Un.kept(k:∀b u,h.get? b=some u->h'.get? b=some u):Un fs ex H H h h':=
 ⟨λb ob q _ _ _=>k b ob q,λb ob q _ _ _=>⟨ob.slots,k b ob q⟩,λ_ _ _ n _=>n,λb ob q _=>⟨ob,k b ob q⟩,λ_ _ q=>q,λ_ _ _ q=>q,λ_ ps q=>⟨#[],by rw[q];simp⟩⟩
theorem Un.refl:Un fs ex H H h h:=Un.kept λ_ _ q=>q
theorem Un.laid(k:∀b u,h.get? b=some u->h'.get? b=some u)(hp:h.objs.size<=a)(hn:H a=none):Un fs ex H (upd H a o) h h' where
 keep:=λb u q _ _ _=>k b u q
 slot:=λb u q _ _ _=>⟨u.slots,k b u q⟩
 free:=λb u q n _=>by rw[ar (JS (JQ (JI q) hp))];exact n
 there:=λb u q _=>⟨u,k b u q⟩
 lL:=λb xs q=>by rw[ar (af q hn)];exact q
 js:=λb u xs q=>by rw[ar (af q hn)];exact q
 iJ:=λb ps q=>⟨#[],by rw[ar (af q hn),q];simp⟩
theorem Un.write(mu:HI (H x))(he:e=x\/H e=some (.own x))(k:∀b u,b≠e->h.get? b=some u->h'.get? b=some u)(heo:∃u,h'.get? e=some u):Un fs ex H (upd H x o) h h':=by
 have hx:∀b,H b=none->b≠x:=λb n z=>by subst z;rw[n] at mu;exact mu
 have hb:∀b,H b=none->b≠e:=λb n z=>by
  subst z;rcases he with r|r
  ·exact hx b n r
  ·rw[n] at r;cases r
 have hm:∀b u,H b=some u->¬ HI (some u)->b≠x:=λb u q nm z=>by subst z;rw[q] at mu;exact nm mu
 refine⟨λb u q n _ _=>k b u (hb b n) q,λb u q n _ _=>⟨u.slots,k b u (hb b n) q⟩,λb u q n _=>by rw[ar (hx b n)];exact n,λb u q _=>?_,
  λb xs q=>by rw[ar (hm b _ q λz=>z)];exact q,λb u xs q=>by rw[ar (hm b _ q λz=>z)];exact q,λb ps q=>⟨#[],by rw[ar (hm b _ q λz=>z),q];simp⟩⟩
 by_cases hbe:b=e
 ·subst hbe;exact heo
 ·exact⟨u,k b u hbe q⟩
end
noncomputable def HL(h:Heap)(H:Hp):List Addr:=(List.range h.objs.size).filter λa=>(H a).isSome
noncomputable def lZ(h:Heap)(H:Hp):Heap:=W.hideAll h (HL h H)
theorem vU(h:Heap)(H:Hp):(lZ h H).objs.size=h.objs.size:=W.hideAll_size _ _
theorem ic{o:Obj}(e:h.get? b=some o)(n:H b=none):(lZ h H).get? b=some o:=
 W.hideAll_get _ e λhm=>by
  have q:(H b).isSome=true:=(List.mem_filter.mp hm).2;rw[n] at q;simp at q
theorem AE{o:Obj}(e:(lZ h H).get? b=some o):h.get? b=some o/\H b=none:=by
 have e':h.get? b=some o:=W.of_hideAll (HL h H) e;refine⟨e',?_⟩
 cases q:H b with
 |none=>rfl
 |some x =>
  have hm:b∈HL h H:=List.mem_filter.mpr ⟨K9.mpr (JI e'),by simp[q]⟩
  have z:(lZ h H).get? b=none:=W.hideAll_none (HL h H) hm;rw[z] at e;cases e
noncomputable def Bn(g h:Heap)(L:Addr):List (Addr×Obj):=(List.range h.objs.size).filterMap λa=>if a=L\/(g.get? a).isSome=true then none else (h.get? a).map λo=>(a,o)
noncomputable def rest(g h:Heap)(L d:Addr):List (Addr×Obj):=(Bn g h L).filter λp=>decide (p.1≠d)
noncomputable def dE:List Str:=["by_worth","by_weight","code_of"]
noncomputable def bO(K:W.Frag):List (Addr×Addr×Str):=dE.filterMap λx=>(W.tabIn K x).map λp=>(p.1,p.2,(x++".<locals>.")++"<lambda>")
noncomputable def TabsOk(K:W.Frag)(H:Hp):Prop:=∀t∈bO K,∃more,H t.2.1=some (.vZ (#[.str t.2.2 0]++more))
theorem TabsOk.un{fs ex:List Addr}{H1:Hp}{h1:Heap}(x:TabsOk K H)(u:Un fs ex H H1 h h1):TabsOk K H1:=λt ht=>by
 obtain⟨m,e⟩:=x t ht;obtain⟨m2,e2⟩:=u.iJ _ _ e;exact⟨m++m2,by rw[e2,Array.append_assoc]⟩
noncomputable def E5(mg:Str->Option Value)(h:Heap):Prop:=∃bm ob,mg "__builtins__"=some (.ref bm)/\bm≠builtinsNs/\h.get? bm=some ob/\ob.cls=.type "module"/\ob.dict=some builtinsNs/\ob.data=.plain
structure Mod (K:W.Frag) (mg:Str->Option Value) (base:Heap):Prop where
 tW:K.In base
 glob:base.Ns mainGlobals mg
 blt:∃mb,base.Ns builtinsNs mb/\∀x:Str,x≠"__name__"->mb x=bootBuiltins x
 nolimit:base.NoLimit
 codes:∀t∈bO K,W.CodeHd base t.1 t.2.1
 bm:E5 mg base
structure Cx where
 prog:Program
 w:World
 K:W.Frag
 mg:Str->Option Value
 base:Heap
 A:Around
 N:List Str
 s₀:Shared
 H₀:Hp
 env:Env
 outer:List Env
 stack:List Env
 ex:List Addr
 fn:Str->Bool
 calm:Bool
 pn:List (Addr×Obj)
 xe:Value->Shared->Prop
variable{X:Cx}
noncomputable def jn(l:List Env):List Addr:=l.filterMap (·.frame)
abbrev Cx.fs(X:Cx):List Addr:=jn X.outer
noncomputable def FU(sc:Scope)(x:Str):Prop:=sc.names.lookup x=some .local\/sc.names.lookup x=some .cell\/sc.names.lookup x=some .free
noncomputable def Loc(sc:Scope)(x:Str):Prop:=sc.names.lookup x=some .local\/sc.names.lookup x=some .cell
noncomputable def Look(env:Env)(h:Heap)(m:Str->Option Value)(x:Str)(u:Value):Prop:=
 (env.kindOf x=some .local/\m x=some u)\/((env.kindOf x=some .cell\/env.kindOf x=some .free)/\∃c,env.cells.lookup x=some c/\h.IsCell c (some u))
structure Cx.Ok (X:Cx):Prop where
 mod:Mod X.K X.mg X.base
 kind:X.env.scope.kind=.function
 glob:X.env.globals=mainGlobals
 blt:X.env.builtins=builtinsNs
 above:X.s₀.heap.objs.size<=X.env.locals
 inj:∀x y c,X.env.cells.lookup x=some c->X.env.cells.lookup y=some c->x=y
 has:∀x,(X.env.kindOf x=some .cell\/X.env.kindOf x=some .free)->∃c,X.env.cells.lookup x=some c
 AV:∀x c,X.fn x=true->X.env.cells.lookup x=some c->X.s₀.heap.objs.size<=c
 hd:X.calm=true->X.A.handled=none
 frames:X.A.frames=some X.stack
 C9:X.stack=X.outer\/(X.stack=X.env::X.outer/\X.env.frame=some X.env.locals)
 FE:∀b∈X.ex,b≠X.env.locals/\∀x c,X.env.cells.lookup x=some c->c≠b
 bs:∀b o,X.base.get? b=some o->X.s₀.heap.get? b=some o/\X.H₀ b=none
 sP:X.base.objs.size<=X.s₀.heap.objs.size
 nI:∀b o,X.base.get? b=some o->b∉X.ex
 pP:∀b∈X.ex,b∉X.fs
 gq:X.s₀.heap.FunFrames X.base X.outer
 yn:∀b∈X.fs,X.H₀ b=none
 tabs:TabsOk X.K X.H₀
structure Inv (X:Cx) (pins:List (Addr×Obj)) (σ:List (Option V)) (H:Hp) (s:Shared):Prop where
 ok:X.Ok
 os:s.os=X.s₀.os
 bare:AllBare s.gens
 base:Un X.fs X.ex X.H₀ H X.s₀.heap s.heap
 loc:∃m,s.heap.Ns X.env.locals m/\∀(i:Nat) (x:Str) (v:V),X.N[i]?=some x->σ[i]?=some (some v)->FU X.env.scope x->∃u,RelV v u/\Look X.env s.heap m x u
 cell:∀x c,X.env.cells.lookup x=some c->∃v,s.heap.IsCell c v
 free:H X.env.locals=none
 cu:∀x c,X.env.cells.lookup x=some c->H c=none
 pin:∀p∈X.pn++pins,s.heap.get? p.1=some p.2/\H p.1=none/\p.1≠X.env.locals/\p.1∉X.fs/\∀v,p.2.data≠.cell v
 aN:f7 X.prog X.w H s.heap
 len:σ.length=X.N.length
section
variable {X:Cx} {pins:List (Addr×Obj)} {σ:List (Option V)} {H H':Hp} {s:Shared} {h':Heap}
theorem Cx.Ok.IK(ok:X.Ok){o:Obj}(e:X.base.get? b=some o):b∉X.fs:=λhb=>by
 have:=(ok.gq.mem hb).1;rw[e] at this;cases this
theorem Inv.bs(I:Inv X pins σ H s):∀b o,X.base.get? b=some o->s.heap.get? b=some o/\H b=none:=λb o e =>
 ⟨I.base.keep b o (I.ok.bs b o e).1 (I.ok.bs b o e).2 (I.ok.IK e) (I.ok.nI b o e),I.base.free b o (I.ok.bs b o e).1 (I.ok.bs b o e).2 (I.ok.nI b o e)⟩
theorem Inv.bk(I:Inv X pins σ H s):∀b o,X.base.get? b=some o->s.heap.get? b=some o:=λb o e=>(I.bs b o e).1
theorem Inv.mod(I:Inv X pins σ H s):Mod X.K X.mg X.base:=I.ok.mod
theorem Inv.iA(I:Inv X pins σ H s):X.K.In s.heap:=I.ok.mod.tW.keeps I.bk
theorem Inv.nolimit(I:Inv X pins σ H s):s.heap.NoLimit:=I.ok.mod.nolimit.keeps I.bk
theorem Inv.lt(I:Inv X pins σ H s):X.env.locals<s.heap.objs.size:=let ⟨_,hn,_⟩:=I.loc;hn.lt
theorem Inv.sz(I:Inv X pins σ H s):X.s₀.heap.objs.size<=s.heap.objs.size:=JC I.ok.above (L3 I.lt)
theorem Inv.FR(I:Inv X pins σ H s)(h:s.heap.objs.size<=a):a∉X.fs:=λhb=>by
 obtain⟨_,o,ho,_⟩:=I.ok.gq.mem hb;exact absurd (JQ (JI ho) (JC I.sz h)) (Ll _)
theorem Inv.vx(I:Inv X pins σ H s):∀x c,X.env.cells.lookup x=some c->c≠X.env.locals:=λx c e z=>by
 obtain⟨v,o,ho,hd⟩:=I.cell x c e;obtain⟨m,⟨o',es,ep,ho',hd',_⟩,_⟩:=I.loc;rw[z,ho'] at ho;cases ho;rw[hd'] at hd;cases hd
theorem Inv.gq(I:Inv X pins σ H s):s.heap.FunFrames X.base X.outer:=by
 have all:∀(l:List Env),(∀b∈jn l,b∈X.fs)->X.s₀.heap.FunFrames X.base l->s.heap.FunFrames X.base l:=by
  intro l
  induction l with
  |nil=>intro _ _;trivial
  |cons env r ih =>
   intro hs hl;obtain⟨hk,⟨L,o,hf,hn,ho,hd⟩,hr⟩:=hl;have hL:L∈X.fs:=hs L (by unfold jn;rw[MV,hf];exact J9)
   obtain⟨sl,e⟩:=I.base.slot L o ho (I.ok.yn L hL) hL λz=>I.ok.pP L z hL;exact⟨hk,⟨L,_,hf,hn,e,hd⟩,ih (λb hb=>hs b (by unfold jn;rw[MV,hf];exact J8 _ hb)) hr⟩
 exact all X.outer (λ_ hb=>hb) I.ok.gq
theorem Inv.stack(I:Inv X pins σ H s):s.heap.FunFrames X.base X.stack:=by
 rcases I.ok.C9 with e|⟨e,hf⟩
 ·rw[e];exact I.gq
 ·rw[e];obtain⟨m,hn,_⟩:=I.loc;refine .cons (by rw[I.ok.kind];decide) hf hn ?_ I.gq
  exact Heap.get?_none_of_le (JC I.ok.sP I.ok.above)
theorem Inv.kT(I:Inv X pins σ H s):∀b∈jn X.stack,b∈X.env.locals::X.fs:=λb hb=>by
 rcases I.ok.C9 with e|⟨e,hf⟩
 ·rw[e] at hb;exact J8 _ hb
 ·rw[e] at hb;unfold jn at hb;rw[MV,hf] at hb;exact hb
theorem Inv.j5(I:Inv X pins σ H s):∀b∈jn X.stack,H b=none:=λb hb=>by
 rcases J5.mp (I.kT b hb) with e|hb
 ·rw[e];exact I.free
 ·obtain⟨_,o,ho,_⟩:=I.ok.gq.mem hb;exact I.base.free b o ho (I.ok.yn b hb) λz=>I.ok.pP b z hb
theorem Inv.step{t':Nat}{d':Drawn}(I:Inv X pins σ H s)
  (hch:∀b∈ch,(b∈X.ex\/X.s₀.heap.objs.size<=b)/\b≠X.env.locals/\(∀x c,X.env.cells.lookup x=some c->c≠b)/\∀p∈X.pn++pins,p.1≠b)
  (keep:∀b o,b≠X.env.locals->b∉X.fs->b∉ch->s.heap.get? b=some o->H b=none->h'.get? b=some o)
  (slot:∀b o,b≠X.env.locals->b∈X.fs->b∉ch->s.heap.get? b=some o->H b=none->∃sl,h'.get? b=some {o with slots:=sl}) (free:∀b o,b∉ch->s.heap.get? b=some o->H b=none->H' b=none)
  (there:∀b o,b∉ch->s.heap.get? b=some o->∃o',h'.get? b=some o')
  (lL:∀b xs,H b=some (.tup xs)->H' b=some (.tup xs)) (js:∀b o u,H b=some (.jD o u)->H' b=some (.jD o u)) (iJ:∀b ps,H b=some (.vZ ps)->∃more,H' b=some (.vZ (ps++more)))
  (ns:∀m,s.heap.Ns X.env.locals m->h'.Ns X.env.locals m) (aN:f7 X.prog X.w H' h') (hg:AllBare g') :
  Inv X pins σ H' {s with heap:=h',gens:=g',drawn:=d',toks:=t'}:=by
 have neL:∀b o,X.s₀.heap.get? b=some o->b≠X.env.locals:=λb o e=>JS (JQ (JI e) I.ok.above);have neC:∀b o,X.s₀.heap.get? b=some o->b∉X.ex->b∉ch:=λb o e hx hb=>by
  rcases (hch b hb).1 with z|z
  ·exact hx z
  ·exact absurd (JQ (JI e) z) (Ll _)
 have cellK:∀x c,X.env.cells.lookup x=some c->∀v,s.heap.IsCell c v->h'.IsCell c v:=λx c e v ⟨o,ho,hd⟩=>by
  have nch:c∉ch:=λz=>(hch c z).2.2.1 x c e rfl;by_cases hc:c∈X.fs
  ·obtain⟨sl,q⟩:=slot c o (I.vx x c e) hc nch ho (I.cu x c e);exact⟨_,q,hd⟩
  ·exact⟨o,keep c o (I.vx x c e) hc nch ho (I.cu x c e),hd⟩
 refine⟨I.ok,I.os,hg,⟨λb o e n hb hx=>?_,λb o e n hb hx=>?_,λb o e n hx=>?_,λb o e hx=>?_,λb xs e=>lL b xs (I.base.lL b xs e),λb o xs e=>js b o xs (I.base.js b o xs e),λb ps e=>?_⟩,?_,λx c e=>?_,?_,λx c e=>?_,λp hp=>?_,aN,I.len⟩
 ·exact keep b o (neL b o e) hb (neC b o e hx) (I.base.keep b o e n hb hx) (I.base.free b o e n hx)
 ·obtain⟨sl,e1⟩:=I.base.slot b o e n hb hx;obtain⟨sl',e2⟩:=slot b _ (neL b o e) hb (neC b o e hx) e1 (I.base.free b o e n hx);exact⟨sl',e2⟩
 ·obtain⟨o',e1⟩:=I.base.there b o e hx;exact free b o' (neC b o e hx) e1 (I.base.free b o e n hx)
 ·obtain⟨o',e1⟩:=I.base.there b o e hx;exact there b o' (neC b o e hx) e1
 ·obtain⟨m1,e1⟩:=I.base.iJ b ps e;obtain⟨m2,e2⟩:=iJ b _ e1;exact⟨m1++m2,by rw[e2,Array.append_assoc]⟩
 ·obtain⟨m,hn,hl⟩:=I.loc;refine⟨m,ns m hn,λi x v e1 e2 e3=>?_⟩;obtain⟨u,r,l⟩:=hl i x v e1 e2 e3;refine⟨u,r,?_⟩;rcases l with l|⟨k,c,e,z⟩
  ·exact .inl l
  ·exact .inr ⟨k,c,e,cellK x c e _ z⟩
 ·obtain⟨v,z⟩:=I.cell x c e;exact⟨v,cellK x c e v z⟩
 ·obtain⟨m,⟨o,_,_,ho,_⟩,_⟩:=I.loc;exact free _ o (λz=>(hch _ z).2.1 rfl) ho I.free
 ·obtain⟨v,o,ho,hd⟩:=I.cell x c e;exact free c o (λz=>(hch c z).2.2.1 x c e rfl) ho (I.cu x c e)
 ·obtain⟨e,n,ne,nf,d⟩:=I.pin p hp;have nch:p.1∉ch:=λz=>(hch p.1 z).2.2.2 p hp rfl;exact⟨keep p.1 p.2 ne nf nch e n,free p.1 p.2 nch e n,ne,nf,d⟩
theorem Inv.un{t':Nat}(I:Inv X pins σ H s)(u:Un X.fs [] H H' s.heap h')(aN:f7 X.prog X.w H' h'):Inv X pins σ H' {s with heap:=h',toks:=t'}:=by
 obtain⟨m,⟨o,es,ep,ho,r⟩,_⟩:=id I.loc;obtain⟨sl,hL⟩:=u.any ho I.free (by simp)
 exact I.step (g':=s.gens) (d':=s.drawn) (ch:=[]) (λ_ z=>nomatch z) (λb o _ hb _ e n=>u.keep b o e n hb (by simp)) (λb o _ hb _ e n=>u.slot b o e n hb (by simp)) (λb o _ e n=>u.free b o e n (by simp)) (λb o _ e=>u.there b o e (by simp)) u.lL u.js u.iJ (λm' hm=>by
  obtain⟨o',es',ep',ho',r'⟩:=hm;rw[ho] at ho';cases ho';exact⟨_,es',ep',hL,r'⟩) aN I.bare
theorem Inv.call{t':Nat}{d':Drawn}{ch:List Addr}(I:Inv X pins σ H s)(u:Un (jn X.stack) ch H H' s.heap h')(aN:f7 X.prog X.w H' h')(hg:AllBare g')
  (hch:∀b∈ch,(b∈X.ex\/X.s₀.heap.objs.size<=b)/\b≠X.env.locals/\(∀x c,X.env.cells.lookup x=some c->c≠b)/\∀p∈X.pn++pins,p.1≠b) :
  Inv X pins σ H' {s with heap:=h',gens:=g',drawn:=d',toks:=t'}:=by
 obtain⟨m,⟨o,es,ep,ho,r⟩,_⟩:=id I.loc;obtain⟨sl,hL⟩:=u.any ho I.free λz=>(hch _ z).2.1 rfl;exact I.step (ch:=ch) hch (λb o hL hb hc e n=>u.keep b o e n (λz=>(J5.mp (I.kT b z)).elim hL hb) hc) (λb o _ _ hc e n=>u.any e n hc) (λb o hc e n=>u.free b o e n hc) (λb o hc e=>u.there b o e hc) u.lL u.js u.iJ (λm' hm=>by
  obtain⟨o',es',ep',ho',r'⟩:=hm;rw[ho] at ho';cases ho';exact⟨_,es',ep',hL,r'⟩) aN hg
theorem Inv.turned{t':Nat}{it:Addr}(I:Inv X pins σ H s)(k:∀b o,b≠it->s.heap.get? b=some o->h'.get? b=some o)(hn:H it=none)(hL:it≠X.env.locals)
  (h1:it∈X.ex\/X.s₀.heap.objs.size<=it) (h2:∀x c,X.env.cells.lookup x=some c->c≠it) (h3:∀p∈X.pn++pins,p.1≠it):Inv X pins σ H {s with heap:=h',toks:=t'}:=by
 have nit:∀b u,H b=some u->b≠it:=λb u e z=>by rw[z,hn] at e;cases e
 refine I.step (g':=s.gens) (d':=s.drawn) (ch:=[it]) (λb hb=>?_) (λb o _ _ hc e _=>k b o (λz=>hc (by simp[z])) e) (λb o _ _ hc e _=>⟨o.slots,k b o (λz=>hc (by simp[z])) e⟩) (λ_ _ _ _ n=>n)
  (λb o hc e=>⟨o,k b o (λz=>hc (by simp[z])) e⟩) (λ_ _ e=>e) (λ_ _ _ e=>e) (λb ps e=>⟨#[],by rw[e];simp⟩) (λm hm=>?_) (λb u e=>?_) I.bare
 ·have e:b=it:=by simpa using hb
  subst e;exact⟨h1,hL,h2,h3⟩
 ·obtain⟨o,es,ep,ho,r⟩:=hm;exact⟨o,es,ep,k _ o (Ko hL) ho,r⟩
 ·refine (I.aN b u e).jt (λc v hc q=>k c v ?_ q) (λ_ q=>q) (λ_ _ q=>q) λ_ _ _ q=>q;rcases hc with z|z
  ·rw[z];exact nit b u e
  ·exact nit c _ z
theorem Inv.tok(I:Inv X pins σ H s)(t:Nat):Inv X pins σ H {s with toks:=t}:=I.un (h':=s.heap) (t':=t) Un.refl I.aN
theorem Inv.kept{t':Nat}(I:Inv X pins σ H s)(k:∀b u,s.heap.get? b=some u->h'.get? b=some u):Inv X pins σ H {s with heap:=h',toks:=t'}:=I.un (Un.kept k) (I.aN.kept k)
theorem Inv.laid{o:HO}{t':Nat}(I:Inv X pins σ H s)(k:∀b u,s.heap.get? b=some u->h'.get? b=some u)(hp:s.heap.objs.size<=a)(new:bA X.prog X.w (upd H a o) h' a o):
  Inv X pins σ (upd H a o) {s with heap:=h',toks:=t'}:=I.un (Un.laid k hp (I.aN.fresh hp)) (I.aN.laid k hp new)
theorem Inv.write{x e:Addr}{o:HO}{t':Nat}(I:Inv X pins σ H s)(mu:HI (H x))(he:e=x\/H e=some (.own x))(k:∀b u,b≠e->s.heap.get? b=some u->h'.get? b=some u)(heo:∃u,h'.get? e=some u)
  (new:bA X.prog X.w (upd H x o) h' x o):Inv X pins σ (upd H x o) {s with heap:=h',toks:=t'}:=I.un (Un.write mu he k heo) (I.aN.write mu he k heo new)
theorem Inv.nM{pins':List (Addr×Obj)}(I:Inv X pins σ H s)(h:∀p∈pins',s.heap.get? p.1=some p.2/\H p.1=none/\p.1≠X.env.locals/\p.1∉X.fs/\∀v,p.2.data≠.cell v):Inv X pins' σ H s:=
 ⟨I.ok,I.os,I.bare,I.base,I.loc,I.cell,I.free,I.cu,λp hp=>(Kj.mp hp).elim (λz=>I.pin p (KP _ z)) (h p),I.aN,I.len⟩
theorem ll(hN:N.Nodup)(a:N[i]?=some x)(b:N[j]?=some x):i=j:=by
 obtain⟨h1,e1⟩:=Jv.mp a;obtain⟨h2,e2⟩:=Jv.mp b;exact (List.getElem_inj hN).mp (e1.trans e2.symm)
theorem nq{A:Around}{v:V}{Q:Unit->Shared->Prop}(I:Inv X pins σ H s)(hN:X.N.Nodup)(hi:X.N[i]?=some x)(hx:Loc X.env.scope x)(r:RelV v u)
  (h:∀s',Inv X pins (σ.set i (some v)) H s'->(∃a,Heap.SameBut a s.heap s'.heap/\(a=X.env.locals\/X.env.cells.lookup x=some a))->Q () s') (hf:autoParam (X.fn x=true\/X.env.scope.names.lookup x=some .local) ℜ2):wpAny M A (storeName X.env x u) Q E s:=by
 obtain⟨m,hn,hl⟩:=id I.loc;have hcls:(X.env.scope.kind == .class || (X.env.scope.kind == .module && X.env.locals != X.env.globals))=false:=by rw[I.ok.kind];rfl
 have hiσ:i<σ.length:=by rw[I.len];exact (Jv.mp hi).1
 have vx:=I.vx;have tracked:∀{a:Addr} {h':Heap},(∃o,s.heap.get? a=some o/\H a=none)->Heap.SameBut a s.heap h'->f7 X.prog X.w H h':=λ{a h'} ha hs b ob e=>by
  obtain⟨_,_,hfree⟩:=ha;refine (I.aN b ob e).jt (λc w' hc q=>(hs.2 c ?_).trans q) (λ_ q=>q) (λ_ _ q=>q) λ_ _ _ q=>q;rintro rfl;rcases hc with rfl|hc
  ·rw[hfree] at e;cases e
  ·rw[hfree] at hc;cases hc
 rcases hx with hk|hk
 ·refine wpAny_storeName_local hk hn (λh' hn' hs=>?_) hcls;obtain⟨oL,_,_,hoL,_⟩:=id hn;refine h _ ⟨I.ok,I.os,I.bare,⟨λb o e n hb hx=>?_,λb o e n hb hx=>?_,I.base.free,λb o e hx=>?_,I.base.lL,I.base.js,I.base.iJ⟩,⟨_,hn',λj y v' e1 e2 e3=>?_⟩,λy c e=>?_,I.free,I.cu,λp hp=>?_,tracked ⟨oL,hoL,I.free⟩ hs,by simpa using I.len⟩ ⟨_,hs,.inl rfl⟩
  ·exact (hs.2 b (JS (JQ (JI e) I.ok.above))).trans (I.base.keep b o e n hb hx)
  ·obtain⟨sl,e1⟩:=I.base.slot b o e n hb hx;exact⟨sl,(hs.2 b (JS (JQ (JI e) I.ok.above))).trans e1⟩
  ·obtain⟨o',e1⟩:=I.base.there b o e hx;exact⟨o',(hs.2 b (JS (JQ (JI e) I.ok.above))).trans e1⟩
  ·by_cases hj:j=i
   ·subst hj;rw[hi] at e1;cases e1;rw[Lq hiσ] at e2;cases e2;exact⟨u,r,.inl ⟨hk,by simp⟩⟩
   ·rw[LZ (Ko hj)] at e2;obtain⟨u',r',q⟩:=hl j y v' e1 e2 e3;refine⟨u',r',?_⟩;rcases q with ⟨k,e⟩|⟨k,c,e,z⟩
    ·refine .inl ⟨k,?_⟩;have:y≠x:=λe=>hj (ll hN e1 (e ▸ hi));simp[this,e]
    ·exact .inr ⟨k,c,e,z.sameBut hs (vx y c e)⟩
  ·obtain⟨w',z⟩:=I.cell y c e;exact⟨w',z.sameBut hs (vx y c e)⟩
  ·obtain⟨e,n,ne,nf,d⟩:=I.pin p hp;exact⟨(hs.2 p.1 ne).trans e,n,ne,nf,d⟩
 ·have hfn:X.fn x=true:=by
   rcases hf with z|z
   ·exact z
   ·rw[z] at hk;cases hk
  obtain⟨c,hc⟩:=I.ok.has x (.inl hk);obtain⟨w',z⟩:=I.cell x c hc;refine wpAny_storeName_cell I.ok.kind hk hc z (λh' hc' hs=>?_);obtain⟨oc,hoc,hocd⟩:=id z;refine h {s with heap:=h'} ⟨I.ok,I.os,I.bare,⟨λb o e n hb hx=>?_,λb o e n hb hx=>?_,I.base.free,λb o e hx=>?_,I.base.lL,I.base.js,I.base.iJ⟩,⟨m,hn.sameBut hs (Ko (vx x c hc)),λj y v' e1 e2 e3=>?_⟩,λy c' e=>?_,I.free,I.cu,λp hp=>?_,tracked ⟨oc,hoc,I.cu x c hc⟩ hs,by simpa using I.len⟩ ⟨c,hs,.inr hc⟩
  ·exact (hs.2 b (JS (JQ (JI e) (I.ok.AV x c hfn hc)))).trans (I.base.keep b o e n hb hx)
  ·obtain⟨sl,e1⟩:=I.base.slot b o e n hb hx;exact⟨sl,(hs.2 b (JS (JQ (JI e) (I.ok.AV x c hfn hc)))).trans e1⟩
  ·obtain⟨o',e1⟩:=I.base.there b o e hx;exact⟨o',(hs.2 b (JS (JQ (JI e) (I.ok.AV x c hfn hc)))).trans e1⟩
  ·by_cases hj:j=i
   ·subst hj;rw[hi] at e1;cases e1;rw[Lq hiσ] at e2;cases e2;exact⟨u,r,.inr ⟨.inl hk,c,hc,hc'⟩⟩
   ·rw[LZ (Ko hj)] at e2;obtain⟨u',r',q⟩:=hl j y v' e1 e2 e3;refine⟨u',r',?_⟩;rcases q with q|⟨k,c',e,z'⟩
    ·exact .inl q
    ·refine .inr ⟨k,c',e,z'.sameBut hs ?_⟩;rintro rfl;exact hj (ll hN e1 (I.ok.inj _ _ _ e hc ▸ hi))
  ·by_cases hcc:c'=c
   ·subst hcc;exact⟨_,hc'⟩
   ·obtain⟨w2,z2⟩:=I.cell y c' e;exact⟨w2,z2.sameBut hs hcc⟩
  ·obtain⟨e,n,ne,nf,d⟩:=I.pin p hp;refine⟨(hs.2 p.1 ?_).trans e,n,ne,nf,d⟩;intro q;rw[q,hoc] at e;have q':oc=p.2:=Option.some.inj e;exact d w' (by rw[<- q'];exact hocd)
theorem lF{A:Around}{v:V}{Q:Unit->Shared->Prop}(I:Inv X pins σ H s)(hN:X.N.Nodup)(hi:X.N[i]?=some x)(hx:Loc X.env.scope x)(r:RelV v u)
  (h:∀s',Inv X pins (σ.set i (some v)) H s'->Q () s') (hf:autoParam (X.fn x=true\/X.env.scope.names.lookup x=some .local) ℜ2):wpAny M A (storeName X.env x u) Q E s:=
 nq I hN hi hx r (λs' I' _=>h s' I') hf
theorem Inv.CD(I:Inv X pins σ H s)(ho:s'.os=s.os)(u:Un (jn X.stack) ch H H' s.heap s'.heap)(aN:f7 X.prog X.w H' s'.heap)(hg:AllBare s'.gens)
  (hch:∀b∈ch,(b∈X.ex\/X.s₀.heap.objs.size<=b)/\b≠X.env.locals/\(∀x c,X.env.cells.lookup x=some c->c≠b)/\∀p∈X.pn++pins,p.1≠b):Inv X pins σ H' s':=by
 obtain⟨h',g',d',t',o'⟩:=s';have e:o'=s.os:=ho;subst e;exact I.call (g':=g') (t':=t') (d':=d') u aN hg hch
end
abbrev XK:=Value->Option Addr->Hp->Prop
abbrev St:=List (Option V)
variable{σ:St}
abbrev VK:=V->Hp->Prop
abbrev TE:=St->Hp->VK->Prop
abbrev TT:=St->Hp->(Bool->Hp->Prop)->Prop
abbrev TA:=St->Hp->(List V->Hp->Prop)->Prop
structure Ends where
 nx:St->Hp->Prop
 rt:VK
 bk:St->Hp->Prop:=λ_ _=>False
 ct:St->Hp->Prop:=λ_ _=>False
variable{D:Ends}
abbrev TS:=Ends->St->Hp->Prop
variable{tb:TS}
noncomputable def EP(X:Cx)(pins:List (Addr×Obj))(σ:St)(Q:VK)(u:Value)(s':Shared):Prop:=∃v H',Inv X pins σ H' s'/\RelV v u/\Q v H'
noncomputable def TP(X:Cx)(pins:List (Addr×Obj))(σ:St)(Q:Bool->Hp->Prop)(b:Bool)(s':Shared):Prop:=∃H',Inv X pins σ H' s'/\Q b H'
noncomputable def AP(X:Cx)(pins:List (Addr×Obj))(σ:St)(Q:List V->Hp->Prop)(us:List Value)(s':Shared):Prop:=∃vs H',Inv X pins σ H' s'/\Vals vs us/\Q vs H'
noncomputable def SP(X:Cx)(pins:List (Addr×Obj))(D:Ends)(f:Flow)(s':Shared):Prop:=
 match f with
 |.next=>∃σ' H',Inv X pins σ' H' s'/\D.nx σ' H'
 |.brk=>∃σ' H',Inv X pins σ' H' s'/\D.bk σ' H'
 |.cont=>∃σ' H',Inv X pins σ' H' s'/\D.ct σ' H'
 |.ret u=>∃v σ' H',Inv X pins σ' H' s'/\RelV v u/\D.rt v H'
noncomputable def PE(X:Cx)(e:Expr)(t:TE):Prop:=
 ∀(pins:List (Addr×Obj)) (s:Shared) (σ:St) (H:Hp) (Q:VK),Inv X pins σ H s->t σ H Q->wpAny (model X.prog X.w) X.A (eval e X.env) (EP X pins σ Q) X.xe s
noncomputable def PT(X:Cx)(e:Expr)(t:TT):Prop:=
 ∀(pins:List (Addr×Obj)) (s:Shared) (σ:St) (H:Hp) (Q:Bool->Hp->Prop),Inv X pins σ H s->t σ H Q->wpAny (model X.prog X.w) X.A (isTrue e X.env (eval e X.env)) (TP X pins σ Q) X.xe s
noncomputable def PW(X:Cx)(e:Expr)(t:TT):Prop:=
 ∀(whole:Sem Value) (pins:List (Addr×Obj)) (s:Shared) (σ:St) (H:Hp) (Q:Bool->Hp->Prop),Inv X pins σ H s->t σ H Q->wpAny (model X.prog X.w) X.A (isTrue e X.env whole) (TP X pins σ Q) X.xe s
theorem PW.pt{t:TT}(h:PW X e t):PT X e t:=h _
noncomputable def PA(X:Cx)(es:List Expr)(t:TA):Prop:=
 ∀(pos:Pos) (pins:List (Addr×Obj)) (s:Shared) (σ:St) (H:Hp) (Q:List V->Hp->Prop),Inv X pins σ H s->t σ H Q->wpAny (model X.prog X.w) X.A (spliced (backTo pos (starEach es X.env))) (AP X pins σ Q) X.xe s
noncomputable def PS(X:Cx)(st:Stmt)(t:TS):Prop:=
 ∀(pins:List (Addr×Obj)) (s:Shared) (σ:St) (H:Hp) (D:Ends),Inv X pins σ H s->t D σ H->wpAny (model X.prog X.w) X.A (exec st X.env) (SP X pins D) X.xe s
noncomputable def rD(X:Cx)(st:List Stmt)(t:TS):Prop:=
 ∀(pins:List (Addr×Obj)) (s:Shared) (σ:St) (H:Hp) (D:Ends),Inv X pins σ H s->t D σ H->wpAny (model X.prog X.w) X.A (execs st X.env) (SP X pins D) X.xe s
theorem bR{α:Type}{t:Sem α}{Q Q':α->Shared->Prop}{A:Around}{s:Shared}(h:wpAny M A t Q E s)(hQ:∀a s,Q a s->Q' a s):wpAny M A t Q' E s:=Km h hQ λ_ _ x=>x
section
variable {X:Cx}
noncomputable def uD(i:Nat):TE:=λσ H Q=>∃v,σ[i]?=some (some v)/\Q v H
noncomputable def tC(v:V):TE:=λ_ H Q=>Q v H
theorem Dr{pos:Pos}(hN:X.N[i]?=some x)(hv:FU X.env.scope x)(hd:autoParam ((x ==("__debug__":Str))=false) ℜ1)(eY:autoParam ((x ==("__classdict__":Str))=false) ℜ1):PE X (.Name x pos) (uD i):=by
 intro pins s σ H Q I h;obtain⟨v,e,h⟩:=h;obtain⟨m,hn,hl⟩:=I.loc;obtain⟨u,r,l⟩:=hl i x v hN e hv;have fin:EP X pins σ Q u s:=⟨v,H,I,r,h⟩;rcases l with ⟨hk,hm⟩|⟨hk,c,hc,hcell⟩
 ·exact wpAny_Name (wpAny_loadName_local I.ok.kind hk hn hm fin) hd
 ·rcases hk with hk|hk
  ·exact wpAny_Name (wpAny_loadName_cell I.ok.kind hk hc hcell fin) hd
  ·exact wpAny_Name (wpAny_loadName_free I.ok.kind hk hc hcell fin eY) hd
theorem xt{i j pos}:PE X (.Constant (.int i) j pos) (tC (.int i)):=λ_ _ _ H _ I h=>wpAny_Constant_int ⟨.int i,H,I.tok _,⟨_,rfl⟩,h⟩
theorem CF{b j pos}:PE X (.Constant (.bool b) j pos) (tC (.bl b)):=λ_ _ _ H _ I h=>Constant_bool ⟨.bl b,H,I,rfl,h⟩
theorem zh{j pos}:PE X (.Constant .none j pos) (tC .aG):=λ_ _ _ H _ I h=>Constant_none ⟨.aG,H,I,rfl,h⟩
theorem yE{x j pos}:PE X (.Constant (.str x) j pos) (tC (.str x)):=λ_ _ _ H _ I h=>Calls.Constant_str ⟨.str x,H,I.tok _,⟨_,rfl⟩,h⟩
noncomputable def Gl(X:Cx)(x:Str):Prop:=X.env.kindOf x=some .globalImplicit
theorem ib{s:Shared}{pos:Pos}(I:Inv X pins σ H s)(hg:Gl X x)(hm:X.mg x=some u)(h:Q u s)
  (hd:autoParam ((x ==("__debug__":Str))=false) ℜ1):wpAny (model X.prog X.w) X.A (eval (.Name x pos) X.env) Q E s:=
 Nl I.ok.kind hg (Calls.loadGlobal_global (by rw[I.ok.glob];exact I.mod.glob.keeps I.bk) hm h) hd
theorem fN{s:Shared}{pos:Pos}(I:Inv X pins σ H s)(hg:Gl X x)(hm:X.mg x=none)(hv:bootBuiltins x=some u)(h:Q u s)
  (hn:autoParam (x≠"__name__") ℜ1) (hd:autoParam ((x ==("__debug__":Str))=false) ℜ1):wpAny (model X.prog X.w) X.A (eval (.Name x pos) X.env) Q E s:=by
 obtain⟨mb,h1,h2⟩:=I.mod.blt;exact Nl I.ok.kind hg (Calls.loadGlobal_builtin (by rw[I.ok.glob];exact I.mod.glob.keeps I.bk) hm (by rw[I.ok.blt];exact h1.keeps I.bk) ((h2 x hn).trans hv) h) hd
theorem sL{v:V}{pos:Pos}(hg:Gl X x)(hm:X.mg x=some u)(r:RelV v u)(hd:autoParam ((x ==("__debug__":Str))=false) ℜ1):PE X (.Name x pos) (tC v):=
 λ_ _ _ H _ I h=>ib I hg hm ⟨v,H,I,r,h⟩ hd
theorem BK{v:V}{pos:Pos}(hg:Gl X x)(hm:X.mg x=none)(hv:bootBuiltins x=some u)(r:RelV v u)(hn:autoParam (x≠"__name__") ℜ1)(hd:autoParam ((x ==("__debug__":Str))=false) ℜ1):PE X (.Name x pos) (tC v):=
 λ_ _ _ H _ I h=>fN I hg hm hv ⟨v,H,I,r,h⟩ hn hd
variable {a b:Expr} {ta tb:TE} {pos:Pos}
variable {tA tB':TT} {rest:List Expr}
noncomputable def zM(t u:TT):TT:=λσ H Q=>t σ H λc H1=>if c=true then u σ H1 Q else Q false H1
noncomputable def FJ(t u:TT):TT:=λσ H Q=>t σ H λc H1=>if c=true then Q true H1 else u σ H1 Q
noncomputable def zF(t:TT):TT:=λσ H Q=>t σ H λc H1=>Q (!c) H1
theorem Co(ha:PT X a tA):PW X (.BoolOp .And [a] pos) tA:=by
 intro wh pins s σ H Q I h;refine isTrue_and (bR (ha pins s σ H Q I h) λc s1 e=>?_)
 cases c with
 |true=>exact isTrue_and_nil e
 |false=>exact e
theorem De(ha:PT X a tA):PW X (.BoolOp .Or [a] pos) tA:=by
 intro wh pins s σ H Q I h;refine isTrue_or (bR (ha pins s σ H Q I h) λc s1 e=>?_)
 cases c with
 |false=>exact isTrue_or_nil e
 |true=>exact e
theorem E6(ha:PT X a tA)(hb:PW X (.BoolOp .And (b::rest) pos) tB'):PW X (.BoolOp .And (a::b::rest) pos) (zM tA tB'):=by
 intro wh pins s σ H Q I h;refine isTrue_and (bR (ha pins s σ H _ I h) λc s1 hq7=>?_);obtain⟨H1,I1,q1⟩:=hq7
 cases c with
 |true=>exact hb wh pins s1 σ H1 Q I1 q1
 |false=>exact⟨H1,I1,q1⟩
theorem HA(ha:PT X a tA)(hb:PW X (.BoolOp .Or (b::rest) pos) tB'):PW X (.BoolOp .Or (a::b::rest) pos) (FJ tA tB'):=by
 intro wh pins s σ H Q I h;refine isTrue_or (bR (ha pins s σ H _ I h) λc s1 hq8=>?_);obtain⟨H1,I1,q1⟩:=hq8
 cases c with
 |true=>exact⟨H1,I1,q1⟩
 |false=>exact hb wh pins s1 σ H1 Q I1 q1
theorem Eo(ha:PT X a tA):PT X (.UnaryOp .Not a pos) (zF tA):=by
 intro pins s σ H Q I h;exact isTrue_not (ha pins s σ H (λc H1=>Q (!c) H1) I h)
noncomputable def ql(ta tb:TE):TE:=λσ H Q=>ta σ H λx H1=>∃c,x=.bl c/\if c=true then tb σ H1 Q else Q (.bl false) H1
theorem EJ{op}{t:TE}(h:PE X a t):PE X (.BoolOp op [a] pos) t:=λpins s σ H Q I hw=>BoolOp_one (h pins s σ H Q I hw)
theorem Eh(ha:PE X a ta)(hb:PE X (.BoolOp .And (b::rest) pos) tb):PE X (.BoolOp .And (a::b::rest) pos) (ql ta tb):=by
 intro pins s σ H Q I h;refine BoolOp_and (bR (ha pins s σ H _ I h) λv s1 hq9=>?_);obtain⟨x,H1,I1,r1,q1⟩:=hq9;obtain⟨c,rfl,q1⟩:=q1;cases r1;refine Mz ?_
 cases c with
 |true=>exact hb pins s1 σ H1 Q I1 q1
 |false=>exact⟨.bl false,H1,I1,rfl,q1⟩
noncomputable def Gu(t:TT)(ta tb:TE):TE:=λσ H Q=>t σ H λc H1=>if c=true then ta σ H1 Q else tb σ H1 Q
theorem xf{c:Expr}(hc:PT X c tA)(ha:PE X a ta)(hb:PE X b tb):PE X (.IfExp c a b pos) (Gu tA ta tb):=by
 intro pins s σ H Q I h;refine wpAny_IfExp (bR (hc pins s σ H _ I h) λd s1 hq12=>?_);obtain⟨H1,I1,q1⟩:=hq12
 cases d with
 |true=>exact ha pins s1 σ H1 Q I1 q1
 |false=>exact hb pins s1 σ H1 Q I1 q1
end
noncomputable def bB(K:W.Frag)(H:Hp)(a:Addr)(xs:List V):Prop:=
 Rd H a (.lst xs) \/
  ∃(o:Obj) (its:Array Value) (n:Nat),K.lookup a=some o/\o.cls=.type "list"/\o.dict=none/\o.data=.seq its n/\its.size<=sizeLine/\Vals xs its.toList
noncomputable def bb(K:W.Frag)(H:Hp)(a:Addr)(xs:List V):Prop:=
 Rd H a (.tup xs) \/
  ∃(o:Obj) (its:Array Value) (n:Nat),K.lookup a=some o/\o.cls=.type "tuple"/\o.data=.seq its n/\its.size<=sizeLine/\Vals xs its.toList
noncomputable def HZ:Value->Option V
 |.none=>some .aG
 |.bool b=>some (.bl b)
 |.int i _=>some (.int i)
 |.str x _=>some (.str x)
 |.bytes b _=>some (.q5 b)
 |.float b _=>some (.HG b)
 |.ref a=>some (.ref a)
 |.type n=>some (.ty n)
 |_=>none
theorem RelV.abs{x:V}(r:RelV x u):HZ u=some x:=by
 cases x with
 |aG=>cases r;rfl
 |bl _=>cases r;rfl
 |int _=>obtain⟨t,rfl⟩:=r;rfl
 |str _=>obtain⟨t,rfl⟩:=r;rfl
 |q5 _=>obtain⟨t,rfl⟩:=r;rfl
 |HG _=>obtain⟨t,rfl⟩:=r;rfl
 |ref _=>cases r;rfl
 |ty _=>cases r;rfl
theorem RelV.inj{x y:V}(r:RelV x u)(q:RelV y u):x=y:=Option.some.inj (r.abs.symm.trans q.abs)
theorem Vals.inj:∀{xs ys:List V} {us:List Value},Vals xs us->Vals ys us->xs=ys
 |_,_,_,.nil,.nil=>rfl
 |_,_,_,.cons r t,.cons r' t'=>by rw[r.inj r',Vals.inj t t']
section
variable {X:Cx} {pins:List (Addr×Obj)} {σ:St} {H:Hp} {s:Shared} {a:Addr} {xs ys:List V}
theorem bB.of(h:H a=some (.lst xs)):bB K H a xs:=.inl (.inl h)
theorem bb.of(h:H a=some (.tup xs)):bb K H a xs:=.inl (.inl h)
theorem Inv.list(I:Inv X pins σ H s)(h:bB X.K H a xs):∃its:List Value,Vals xs its/\PlainL s.heap a its.toArray/\xs.length<=sizeLine:=by
 rcases h with h|⟨o,its,n,hk,hc,hd,hs,hz,r⟩
 ·obtain⟨z,its,n,r,e⟩:=h.ok I.aN;exact⟨its,r,⟨_,n,e,rfl,rfl,rfl⟩,z⟩
 ·refine⟨its.toList,r,⟨o,n,I.iA a o hk,hc,hd,by simpa using hs⟩,?_⟩
  have e:=r.length;simp only[Kc] at e;lia
theorem Inv.tuple(I:Inv X pins σ H s)(h:bb X.K H a xs):∃its:List Value,Vals xs its/\IsTup s.heap a its.toArray/\xs.length<=sizeLine:=by
 rcases h with h|⟨o,its,n,hk,hc,hs,hz,r⟩
 ·obtain⟨z,its,r,p⟩:=h.ok I.aN;exact⟨its,r,p.to,z⟩
 ·refine⟨its.toList,r,⟨o,I.iA a o hk,hc,n,by simpa using hs⟩,?_⟩
  have e:=r.length;simp only[Kc] at e;lia
theorem Inv.kO(I:Inv X pins σ H s)(h:bB X.K H a xs)(h':bB X.K H a ys):xs=ys:=by
 obtain⟨its,r,⟨o,n,e,_,_,d⟩,_⟩:=I.list h;obtain⟨its',r',⟨o',n',e',_,_,d'⟩,_⟩:=I.list h';rw[e] at e';cases e';rw[d] at d'
 injection d' with d1 _
 have:its=its':=by simpa using Kk Array.toList d1
 subst this;exact r.inj r'
theorem Inv.iI(I:Inv X pins σ H s)(h:bb X.K H a xs)(h':bb X.K H a ys):xs=ys:=by
 obtain⟨its,r,⟨o,e,_,n,d⟩,_⟩:=I.tuple h;obtain⟨its',r',⟨o',e',_,n',d'⟩,_⟩:=I.tuple h';rw[e] at e';cases e';rw[d] at d'
 injection d' with d1 _
 have:its=its':=by simpa using Kk Array.toList d1
 subst this;exact r.inj r'
end
abbrev Cx.l_(X:Cx)(E:Value->Shared->Prop):Cx:={X with xe:=E}
abbrev Cx.vO(X:Cx):Cx:=X.l_ λ_ _=>False
theorem Cx.Ok.l_(ok:X.Ok)(E:Value->Shared->Prop):(X.l_ E).Ok:=
 ⟨ok.mod,ok.kind,ok.glob,ok.blt,ok.above,ok.inj,ok.has,ok.AV,ok.hd,ok.frames,ok.C9,ok.FE,ok.bs,ok.sP,ok.nI,ok.pP,ok.gq,ok.yn,ok.tabs⟩
theorem Cx.Ok.fQ(ok:(X.l_ E).Ok):X.Ok:=
 ⟨ok.mod,ok.kind,ok.glob,ok.blt,ok.above,ok.inj,ok.has,ok.AV,ok.hd,ok.frames,ok.C9,ok.FE,ok.bs,ok.sP,ok.nI,ok.pP,ok.gq,ok.yn,ok.tabs⟩
section
variable {X:Cx} {pins:List (Addr×Obj)} {σ:St} {H:Hp} {s:Shared} {E:Value->Shared->Prop}
theorem Inv.l_(I:Inv X pins σ H s)(E:Value->Shared->Prop):Inv (X.l_ E) pins σ H s:=⟨I.ok.l_ E,I.os,I.bare,I.base,I.loc,I.cell,I.free,I.cu,I.pin,I.aN,I.len⟩
theorem Inv.fQ(I:Inv (X.l_ E) pins σ H s):Inv X pins σ H s:=⟨I.ok.fQ,I.os,I.bare,I.base,I.loc,I.cell,I.free,I.cu,I.pin,I.aN,I.len⟩
theorem SP.fQ{f:Flow}(h:SP (X.l_ E) pins D f s'):SP X pins D f s':=by
 cases f with
 |next=>obtain⟨σ',H',I,q⟩:=h;exact⟨σ',H',I.fQ,q⟩
 |brk=>obtain⟨σ',H',I,q⟩:=h;exact⟨σ',H',I.fQ,q⟩
 |cont=>obtain⟨σ',H',I,q⟩:=h;exact⟨σ',H',I.fQ,q⟩
 |ret u=>obtain⟨v,σ',H',I,r,q⟩:=h;exact⟨v,σ',H',I.fQ,r,q⟩
theorem rD.vO{st:List Stmt}{t:TS}(h:rD X.vO st t):rD X st t:=λpins s σ H D I hw =>
 Km (h pins s σ H D (I.l_ _) hw) (λ_ _ q=>q.fQ) λ_ _ z=>False.elim z
end
section
variable {X:Cx} {st:Stmt} {rest:List Stmt} {t u:TS} {e:Expr} {te:TE} {pos:Pos}
noncomputable def qf:TS:=λD σ H=>D.nx σ H
noncomputable def vi(t u:TS):TS:=λD σ H=>t {D with nx:=u D} σ H
theorem BN:rD X [] qf:=λ_ _ σ H _ I h=>MJ ⟨σ,H,I,h⟩
theorem zW(h1:PS X st t)(h2:rD X rest u):rD X (st::rest) (vi t u):=by
 intro pins s σ H D I h;refine wpAny_execs_cons (bR (h1 pins s σ H {D with nx:=u D} I h) λf s1 q=>?_)
 cases f with
 |next =>
  obtain⟨σ',H',I',q⟩:=q;exact h2 pins s1 σ' H' D I' q
 |ret v=>exact q
 |brk=>exact q
 |cont=>exact q
theorem Ce(h1:PS X st t):rD X [st] t:=by
 intro pins s σ H D I h;refine wpAny_execs_cons (bR (h1 pins s σ H D I h) λf s1 q=>?_)
 cases f with
 |next=>exact MJ q
 |ret v=>exact q
 |brk=>exact q
 |cont=>exact q
theorem Inv.quiet{s:Shared}(I:Inv X pins σ H s):interactive X.env=false:=by simp[interactive,I.ok.kind]
noncomputable def p_(te:TE):TS:=λD σ H=>te σ H λ_ H1=>D.nx σ H1
theorem A6(he:PE X e te)(hs:autoParam (swapsWith e none pos.line X.env=pure false) ℜ0):PS X (.Expr e pos) (p_ te):=by
 intro pins s σ H D I h;exact wpAny_Expr_any (bR (he pins s σ H _ I h) λv s1 ⟨x,H1,I1,r1,q1⟩=>⟨σ,H1,I1,q1⟩) I.quiet hs
noncomputable def zl(te:TE):TS:=λD σ H=>te σ H D.rt
theorem Dm(he:PE X e te):PS X (.Return (some e) pos) (zl te):=by
 intro pins s σ H D I h;exact wpAny_Return_some (bR (he pins s σ H _ I h) λv s1 ⟨x,H1,I1,r1,q1⟩=>⟨x,σ,H1,I1,r1,q1⟩)
noncomputable def vR(c:TT)(t u:TS):TS:=λD σ H=>c σ H λb H1=>if b=true then t D σ H1 else u D σ H1
theorem Gi{c:Expr}{a b:List Stmt}{tc:TT}(hc:PT X c tc)(ha:rD X a t)(hb:rD X b u):PS X (.If c a b pos) (vR tc t u):=by
 intro pins s σ H D I h;refine wpAny_If (bR (hc pins s σ H _ I h) λd s1 hq13=>?_);obtain⟨H1,I1,q1⟩:=hq13
 cases d with
 |true=>exact ha pins s1 σ H1 D I1 q1
 |false=>exact hb pins s1 σ H1 D I1 q1
end
abbrev TG:=V->St->Hp->(St->Hp->Prop)->Prop
abbrev wu:=List V->St->Hp->(St->Hp->Prop)->Prop
noncomputable def PG(X:Cx)(target:Expr)(t:TG):Prop:=
 ∀(pins:List (Addr×Obj)) (s:Shared) (σ:St) (H:Hp) (v:V) (u:Value) (Q:St->Hp->Prop),Inv X pins σ H s->RelV v u->t v σ H Q ->
  wpAny (model X.prog X.w) X.A (assign target X.env u) (λ_ s'=>∃σ' H',Inv X pins σ' H' s'/\Q σ' H') X.xe s
noncomputable def Gv(X:Cx)(ts:List Expr)(t:wu):Prop:=
 ∀(pins:List (Addr×Obj)) (s:Shared) (σ:St) (H:Hp) (vs:List V) (us:List Value) (Q:St->Hp->Prop),Inv X pins σ H s->Vals vs us->t vs σ H Q ->
  wpAny (model X.prog X.w) X.A (assignInOrder ((assignEach ts X.env).map (·.2)) us) (λ_ s'=>∃σ' H',Inv X pins σ' H' s'/\Q σ' H') X.xe s
abbrev Bd:=V->V->V->Hp->(Hp->Prop)->Prop
noncomputable def DR(X:Cx)(t:Bd):Prop:=
 ∀(pins:List (Addr×Obj)) (s:Shared) (σ:St) (H:Hp) (o i v:V) (ov iv u:Value) (Q:Hp->Prop),Inv X pins σ H s->RelV o ov->RelV i iv->RelV v u->t o i v H Q ->
  wpAny (model X.prog X.w) X.A (setItem ov iv u) (λ_ s'=>∃H',Inv X pins σ H' s'/\Q H') X.xe s
section
variable {X:Cx} {pos:Pos}
noncomputable def aZ(i:Nat):TG:=λv σ H Q=>Q (σ.set i (some v)) H
theorem B1(hN:X.N.Nodup)(hi:X.N[i]?=some x)(hx:Loc X.env.scope x)(hf:autoParam (X.fn x=true\/X.env.scope.names.lookup x=some .local) ℜ2):PG X (.Name x pos) (aZ i):=by
 intro pins s σ H v u Q I r h;exact wpAny_assign_Name (lF I hN hi hx r (λs' I'=>⟨_,H,I',h⟩) hf)
noncomputable def n5:wu:=λvs σ H Q=>vs=[]/\Q σ H
noncomputable def eV(t:TG)(u:wu):wu:=λvs σ H Q=>∃v r,vs=v::r/\t v σ H λσ' H'=>u r σ' H' Q
theorem As:Gv X [] n5:=by
 intro pins s σ H vs us Q I r h;obtain⟨e,h⟩:=h;subst e;cases r;exact assignInOrder_nil ⟨σ,H,I,h⟩
theorem zJ{t:TG}{u:wu}(h1:PG X e t)(h2:Gv X es u)
  (hs:autoParam ((assignEach (e::es) X.env).map (·.2)=assign e X.env::(assignEach es X.env).map (·.2)) ℜ0):Gv X (e::es) (eV t u):=by
 intro pins s σ H vs us Q I r h;obtain⟨v,vr,e1,h⟩:=h;subst e1
 cases r with
 |cons r rr =>
  rw[hs];refine assignInOrder_cons (bR (h1 pins s σ H _ _ _ I r h) λ_ s1 hq14=>?_);obtain⟨σ1,H1,I1,q1⟩:=hq14;exact h2 pins s1 σ1 H1 _ _ Q I1 rr q1
noncomputable def og(K:W.Frag)(n:Nat)(t:wu):TG:=λv σ H Q=>∃a xs,v=.ref a/\bb K H a xs/\xs.length=n/\t xs σ H Q
theorem ED{k:Nat}{t:wu}{n:Nat}(hc:X.calm=true)(h:Gv X es t)
  (hn:autoParam ((assignEach es X.env).length=n) ℜ0) (hst:autoParam ((assignEach es X.env).findIdx? (·.1)=none) ℜ0):PG X (.Tuple es k pos) (og X.K n t):=by
 intro pins s σ H v u Q I r hw;obtain⟨a,xs,e1,hq,hl,hw⟩:=hw;subst e1;cases r;obtain⟨its,rv,ht,hz⟩:=I.tuple hq;refine assign_Tuple_tuple (I.ok.hd hc) ht (by simp[hn,<- hl,rv.length]) hst λh' hx=>?_
 have I1:Inv X pins σ H {s with heap:=h'}:=I.kept (t':=s.toks) λb o e=>hx b o (JS (JI e)) e
 exact h pins _ σ H xs _ Q I1 (by simpa using rv) hw
noncomputable def xh(to ti:TE)(t:Bd):TG:=λv σ H Q=>to σ H λo H1=>ti σ H1 λi H2=>t o i v H2 λH3=>Q σ H3
theorem Dg{o i:Expr}{to ti:TE}{t:Bd}(ho:PE X o to)(hi:PE X i ti)(hs:DR X t)
  (ha:autoParam (∀v,assign (.Subscript o i pos) X.env v=(do
   let ov <- holding [v] (eval o X.env)
   let iv <- holding [v,ov] (eval i X.env)
   standAt pos
   holding [v,ov,iv] (setItem ov iv v)
   release [v,ov,iv] [])) ℜ3):PG X (.Subscript o i pos) (xh to ti t):=by
 intro pins s σ H v u Q I r h;rw[ha];refine Js (Ky (bR (ho pins s σ H _ I h) λov s1 hq15=>?_));obtain⟨x,H1,I1,r1,q1⟩:=hq15;refine Js (Ky (bR (hi pins s1 σ H1 _ I1 q1) λiv s2 hq16=>?_));obtain⟨y,H2,I2,r2,q2⟩:=hq16;refine Js (Nm (Js (Ky (bR (hs pins s2 σ H2 x y v ov iv u _ I2 r1 r2 r q2) λ_ s3 hq17=>?_))));obtain⟨H3,I3,q3⟩:=hq17;exact wpAny_release ⟨σ,H3,I3,q3⟩
noncomputable def lH(te:TE)(g:TG):TS:=λD σ H=>te σ H λx H1=>g x σ H1 D.nx
theorem Fh{te:TE}{g:TG}(he:PE X e te)(hg:PG X tg g)(hs:autoParam (swapsWithSole [tg] e pos.line X.env=pure false) ℜ0)(hw:autoParam (swappedStores [tg] e X.env=pure none) ℜ0)
  (h1:autoParam ((assignEach [tg] X.env).map (·.2)=[assign tg X.env]) ℜ0):PS X (.Assign [tg] e pos) (lH te g):=by
 intro pins s σ H D I h;refine wpAny_Assign_stores (bR (he pins s σ H _ I h) λv s1 hq18=>?_) hs hw;obtain⟨x,H1,I1,r1,q1⟩:=hq18;rw[h1];exact bR (hg pins s1 σ H1 x v _ I1 r1 q1) λ_ s2 q=>q
theorem EX{te:TE}{pos':Pos}(hN:X.N.Nodup)(hi:X.N[i]?=some x)(hx:Loc X.env.scope x)(he:PE X e te)(hs:autoParam (swapsWith e (some (.Name x pos')) pos.line X.env=pure false) ℜ0)(hf:autoParam (X.fn x=true\/X.env.scope.names.lookup x=some .local) ℜ2):
  PS X (.Assign [.Name x pos'] e pos) (lH te (aZ i)):=by
 intro pins s σ H D I h;refine wpAny_Assign_Name (bR (he pins s σ H _ I h) λv s1 hq19=>?_) hs;obtain⟨y,H1,I1,r1,q1⟩:=hq19;exact lF I1 hN hi hx r1 (λs2 I2=>⟨_,H1,I2,q1⟩) hf
end
section
variable {X:Cx} {pos:Pos}
noncomputable def w6(c:TT)(tb:TS):TS:=λD σ H=>∃W:Nat->St->Hp->Prop,(∃m,W m σ H)/\∀m σ H,W m σ H ->
 c σ H λb H1=>if b=true then ∃N:St->Hp->Prop,(∀σ' H',N σ' H'->∃m',m'<m/\W m' σ' H')/\tb {D with nx:=N,ct:=N,bk:=D.nx} σ H1 else D.nx σ H1
theorem xV{c:Expr}{tc:TT}(hp:PassesOwn (model X.prog X.w) X.A X.env X.xe)(hc:PT X c tc)(hb:rD X body tb):PS X (.While c body [] pos) (w6 tc tb):=by
 intro pins s σ H D I h;obtain⟨W,⟨m0,w0⟩,turn⟩:=h;refine wpAny_While (codeAny_whileLoop (λn s'=>∃σ' H',Inv X pins σ' H' s'/\W n σ' H') ?_ m0 ⟨σ,H,I,w0⟩);rintro n s1 ⟨σ1,H1,I1,w1⟩;refine Lu hp (bR (hc pins s1 σ1 H1 _ I1 (turn n σ1 H1 w1)) λb s2 hq28=>?_);obtain⟨H2,I2,q2⟩:=hq28
 cases b with
 |true =>
  obtain⟨N,hN,q2⟩:=q2;rw[J6 rfl];refine Lu hp (bR (hb pins s2 σ1 H2 _ I2 q2) λf s3 q3=>?_)
  cases f with
  |next =>
   obtain⟨σ3,H3,I3,n3⟩:=q3;obtain⟨m',hm,w3⟩:=hN σ3 H3 n3;exact⟨m',hm,σ3,H3,I3,w3⟩
  |cont =>
   obtain⟨σ3,H3,I3,n3⟩:=q3;obtain⟨m',hm,w3⟩:=hN σ3 H3 n3;exact⟨m',hm,σ3,H3,I3,w3⟩
  |brk=>exact q3
  |ret v=>exact q3
 |false =>
  rw[Jx JE];exact MJ ⟨σ1,H2,I2,q2⟩
end
structure It where
 go:Nat->Hp->Prop
 CI:Nat->Hp->V->Hp->Prop
 stop:Nat->Hp->Prop
noncomputable def me(X:Cx)(pins:List (Addr×Obj))(H:Hp)(b:Addr):Prop:=
 H b=none/\b≠X.env.locals/\b∉X.fs/\(b∈X.ex\/X.s₀.heap.objs.size<=b)/\(∀x c,X.env.cells.lookup x=some c->c≠b)/\∀p∈X.pn++pins,p.1≠b
theorem Inv.pN{H':Hp}{s:Shared}(I:Inv X pins σ H s)(hb:s.heap.objs.size<=b)(hn:H' b=none):me X pins H' b:=by
 refine⟨hn,KZ (JQ I.lt hb),I.FR hb,.inr (JC I.sz hb),λx c e z=>?_,λp hp z=>?_⟩
 ·obtain⟨v,q⟩:=I.cell x c e;exact absurd (JQ q.lt (by rw[z];exact hb)) (Ll _)
 ·exact absurd (JQ (JI (I.pin p hp).1) (by rw[z];exact hb)) (Ll _)
structure Turn (P:Program) (w:World) (K:W.Frag) (tg:Expr) (J:It) (fp:List Addr) (it:Addr) (tn:Nat->Heap->Prop):Prop where
 mem:it∈fp
 obj:∀i h,tn i h->∀b∈fp,∃o,h.get? b=some o/\∀v,o.data≠.cell v
 keep:∀i h h',tn i h->(∀b∈fp,∀o,h.get? b=some o->h'.get? b=some o)->tn i h'
 item:∀(X:Cx),X.prog=P->X.w=w->X.K=K->X.calm=true->∀(i:Nat) (pins:List (Addr×Obj)) (s:Shared) (σ:St) (H:Hp) (E:Value->Shared->Prop),Inv X pins σ H s->(∀b∈fp,me X pins H b)->tn i s.heap->J.go i H ->
  wpAny (model P w) X.A (pyNext (.ref it)) (λr s1=>∃u,r=some u /\
   wpAny (model P w) X.A (letOwnedTupleGo tg (.ref it) u) (λ_ s2=>∃x H',Inv X pins σ H' s2/\RelV x u/\J.CI i H x H'/\tn (i+1) s2.heap/\∀b∈fp,H' b=none) E s1) E s
 done:∀(X:Cx),X.prog=P->X.w=w->X.K=K->X.calm=true->∀(i:Nat) (pins:List (Addr×Obj)) (s:Shared) (σ:St) (H:Hp) (E:Value->Shared->Prop),Inv X pins σ H s->(∀b∈fp,me X pins H b)->tn i s.heap->J.stop i H ->
  wpAny (model P w) X.A (pyNext (.ref it)) (λr s1=>r=none/\Inv X pins σ H s1) E s
 self:∀(A:Around) (i:Nat) (s:Shared) (Q:Value->Shared->Prop) (E:Value->Shared->Prop),tn i s.heap->Q (.ref it) s->wpAny (model P w) A (pyIter (.ref it)) Q E s
abbrev TI:=St->Hp->(It->Hp->Prop)->Prop
noncomputable def Ik(X:Cx)(pins:List (Addr×Obj))(σ:St)(tg:Expr)(R:It->Hp->Prop)(itv:Value)(s2:Shared):Prop:=
 ∃(it:Addr) (fp:List Addr) (tn:Nat->Heap->Prop) (J:It) (H':Hp),itv=.ref it/\Inv X pins σ H' s2/\Turn X.prog X.w X.K tg J fp it tn/\tn 0 s2.heap/\(∀b∈fp,me X pins H' b)/\R J H'
noncomputable def PI(X:Cx)(tg iter:Expr)(wi:TI):Prop:=
 ∀(pins:List (Addr×Obj)) (s:Shared) (σ:St) (H:Hp) (R:It->Hp->Prop),Inv X pins σ H s->wi σ H R ->
  wpAny (model X.prog X.w) X.A (eval iter X.env) (λv s1=>wpAny (model X.prog X.w) X.A (pyIter v) (Ik X pins σ tg R) X.xe s1) X.xe s
theorem xa{A:Around}{s:Shared}{it:Addr}{o:Obj}{n:String}{vs:Array Value}{Q:Unit->Shared->Prop}(ho:s.heap.get? it=some o)(hc:o.cls=.type n)(hd:o.data=.fields vs)
    (hn:["enumerate","zip","dict_itemiterator","dict_reverseitemiterator","odict_iterator","itertools.zip_longest","itertools.pairwise"].contains n=false) (hQ:Q () s):wpAny M A (letOwnedTupleGo tg (.ref it) u) Q E s:=by
  unfold letOwnedTupleGo
  cases tg<;>first
    |exact Jz hQ
    | (cases u<;>first
        |exact Jz hQ
        | (refine Js (wpAny_load ho ?_)
           rw[hc,hd];show wpAny M A (if (["enumerate","zip","dict_itemiterator","dict_reverseitemiterator","odict_iterator","itertools.zip_longest","itertools.pairwise"].contains n && vs[0]? == some (rawInt _))=true then _ else _) Q E s
           rw[Jx (by intro h;rw[hn,M_] at h;cases h)]
           exact Jz hQ))
noncomputable def we(K:W.Frag)(a:Addr):It:=
 ⟨λi H=>∃xs x,bB K H a xs/\xs[i]?=some x,λi H x H'=>H'=H/\∀xs,bB K H a xs->xs[i]?=some x,λi H=>∃xs,bB K H a xs/\xs.length<=i⟩
noncomputable def vC(K:W.Frag)(a:Addr):It:=
 ⟨λi H=>∃xs x,bb K H a xs/\xs[i]?=some x,λi H x H'=>H'=H/\∀xs,bb K H a xs->xs[i]?=some x,λi H=>∃xs,bb K H a xs/\xs.length<=i⟩
noncomputable def Cv(lo:Int)(n:Nat):It:=⟨λi _=>i<n,λi H x H'=>H'=H/\x=.int (lo+i),λi _=>n<=i⟩
theorem mZ(a it:Addr):Turn P w K tg (we K a) [it] it (λi h=>h.IsListIter it a i) where
 mem:=by simp
 obj:=λi h st b hb=>by
  have e:b=it:=by simpa using hb
  subst e;obtain⟨o,e,c,d⟩:=st;exact⟨o,e,λv z=>by rw[d] at z;cases z⟩
 keep:=λi h h' st k=>st.at λo e=>k it (by simp) o e
 item:=by
  intro X hP hw hK hc i pins s σ H E I hf st hg;subst hP hw hK;obtain⟨xs,x,hq,hx⟩:=hg;obtain⟨its,rv,p,hz⟩:=I.list hq;obtain⟨u,hu,ru⟩:=rv.get hx;obtain⟨f0,f1,f2,f3,f4,f5⟩:=hf it (by simp)
  refine NS st p.isList (x:=u) (by simpa using hu) λh' st' sb=>?_
  have I1:Inv X pins σ H {s with heap:=h'}:=I.turned (t':=s.toks) (λb o hb e=>(sb.2 b hb).trans e) f0 f1 f3 f4 f5
  obtain⟨o,e,c,d⟩:=id st';exact⟨u,rfl,xa (s:={s with heap:=h'}) e c d (by decide) ⟨x,H,I1,ru,⟨rfl,λys hy=>by rw[I.kO hy hq];exact hx⟩,st',λb hb=>(hf b hb).1⟩⟩
 done:=by
  intro X hP hw hK hc i pins s σ H E I hf st hg;subst hP hw hK;obtain⟨xs,hq,hx⟩:=hg;obtain⟨its,rv,p,hz⟩:=I.list hq;obtain⟨f0,f1,f2,f3,f4,f5⟩:=hf it (by simp)
  have hl:=rv.length;exact wpAny_pyNext_list_end (I.ok.hd hc) st p.isList (by simp;lia) λh' eb=>⟨rfl,I.turned (t':=s.toks) (λb o hb e=>eb b o hb e) f0 f1 f3 f4 f5⟩
 self:=λ_ _ _ _ _ st h=>wpAny_pyIter_listiter st h
theorem jT(a it:Addr):Turn P w K tg (vC K a) [it] it (λi h=>h.IsTupleIter it a i) where
 mem:=by simp
 obj:=λi h st b hb=>by
  have e:b=it:=by simpa using hb
  subst e;obtain⟨o,e,c,d⟩:=st;exact⟨o,e,λv z=>by rw[d] at z;cases z⟩
 keep:=λi h h' st k=>st.at λo e=>k it (by simp) o e
 item:=by
  intro X hP hw hK hc i pins s σ H E I hf st hg;subst hP hw hK;obtain⟨xs,x,hq,hx⟩:=hg;obtain⟨its,rv,p,hz⟩:=I.tuple hq;obtain⟨u,hu,ru⟩:=rv.get hx;obtain⟨f0,f1,f2,f3,f4,f5⟩:=hf it (by simp)
  refine wpAny_pyNext_tuple_item st (show s.heap.IsTuple a its.toArray from p) (x:=u) (by simpa using hu) λh' st' sb=>?_
  have I1:Inv X pins σ H {s with heap:=h'}:=I.turned (t':=s.toks) (λb o hb e=>(sb.2 b hb).trans e) f0 f1 f3 f4 f5
  obtain⟨o,e,c,d⟩:=id st';exact⟨u,rfl,xa (s:={s with heap:=h'}) e c d (by decide) ⟨x,H,I1,ru,⟨rfl,λys hy=>by rw[I.iI hy hq];exact hx⟩,st',λb hb=>(hf b hb).1⟩⟩
 done:=by
  intro X hP hw hK hc i pins s σ H E I hf st hg;subst hP hw hK;obtain⟨xs,hq,hx⟩:=hg;obtain⟨its,rv,p,hz⟩:=I.tuple hq;obtain⟨f0,f1,f2,f3,f4,f5⟩:=hf it (by simp)
  have hl:=rv.length;exact wpAny_pyNext_tuple_end (I.ok.hd hc) st (show s.heap.IsTuple a its.toArray from p) (by simp;lia) λh' eb=>⟨rfl,I.turned (t':=s.toks) (λb o hb e=>eb b o hb e) f0 f1 f3 f4 f5⟩
 self:=λ_ _ _ _ _ st h=>wpAny_pyIter_tupleiter st h
theorem rL{w:World}{K:PySem.W.Frag}(it:Addr)(lo:Int)(n:Nat):Turn P w K tg (Cv lo n) [it] it (λi h=>IsRangeIter h it (lo+(i:Nat)*1) ((n:Int)-(i:Nat)) 1) where
 mem:=by simp
 obj:=λi h st b hb=>by
  have e:b=it:=by simpa using hb
  subst e;exact⟨_,st,λv z=>by
   have z':Data.fields _=Data.cell v:=z
   cases z'⟩
 keep:=λi h h' st k=>k it (by simp) _ st
 item:=by
  intro X hP hw hK hc i pins s σ H E I hf st hg;subst hP hw hK;obtain⟨f0,f1,f2,f3,f4,f5⟩:=hf it (by simp)
  have W:=Walks.range (prog:=X.prog) (w:=X.w) (I.ok.hd hc) it lo 1 n;refine W.item i s _ _ hg st λv h' tk hv st' kk=>?_;obtain⟨t,rfl⟩:=hv;have I1:Inv X pins σ H {s with heap:=h',toks:=tk}:=I.turned (λb o hb e=>kk b o (by simpa using hb) e) f0 f1 f3 f4 f5
  refine⟨_,rfl,xa (s:={s with heap:=h',toks:=tk}) (n:="range_iterator") st' rfl rfl (by decide) ⟨.int (lo+i),H,I1,⟨t,?_⟩,⟨rfl,rfl⟩,st',λb hb=>(hf b hb).1⟩⟩
  rw[Int.mul_one]
 done:=by
  intro X hP hw hK hc i pins s σ H E I hf st hg;subst hP hw hK;obtain⟨f0,f1,f2,f3,f4,f5⟩:=hf it (by simp)
  exact wpAny_pyNext_range_end (I.ok.hd hc) st (by have:n<=i:=hg;lia) λh' eb=>⟨rfl,I.turned (t':=s.toks) (λb o hb e=>eb b o hb e) f0 f1 f3 f4 f5⟩
 self:=λ_ _ _ _ _ st h=>wpAny_pyIter_rangeiter st h
section
variable {X:Cx} {tg:Expr}
theorem xF{s:Shared}{R:It->Hp->Prop}{lo hi:Int}{t u v:Tok}{tk:Nat}(I:Inv X pins σ H s)(h1:-(2^62)<=lo)(h2:lo<2^62)(h3:-(2^62)<=hi)(h4:hi<2^62)
  (q:R (Cv lo (hi-lo).toNat) H):wpAny (model X.prog X.w) X.A (pyIter (.ref s.heap.objs.size)) (Ik X pins σ tg R) E {s with heap:=s.heap.push {cls:=.type "range",data:=.fields #[.int lo t,.int hi u,.int 1 v]},toks:=tk}:=by
 refine wpAny_pyIter_range (IsRange.new ..) (small_one h1 h2 h3 h4) ?_;have I1:Inv X pins σ H {s with heap:=s.heap.push {cls:=.type "range",data:=.fields #[.int lo t,.int hi u,.int 1 v]},toks:=tk}:=I.kept λb o e=>Jw _ e
 refine⟨(s.heap.push {cls:=.type "range",data:=.fields #[.int lo t,.int hi u,.int 1 v]}).objs.size,[(s.heap.push {cls:=.type "range",data:=.fields #[.int lo t,.int hi u,.int 1 v]}).objs.size],_,_,H,rfl,
  I1.kept (t':=tk) λb o e=>Jw _ e,rL _ lo (hi-lo).toNat,?_,λb hb=>?_,q⟩
 ·have e1:lo+((0:Nat):Int)*1=lo:=by simp
  have e2:(((hi-lo).toNat:Nat):Int)-((0:Nat):Int)=Builtin.Range.rangeSize lo hi 1:=by rw[rangeSize_one];split<;>lia
  show IsRangeIter _ _ (lo+((0:Nat):Int)*1) ((((hi-lo).toNat:Nat):Int)-((0:Nat):Int)) 1;rw[e1,e2];exact JH _ rfl
 ·have e:b=(s.heap.push {cls:=.type "range",data:=.fields #[.int lo t,.int hi u,.int 1 v]}).objs.size:=by simpa using hb
  subst e;exact I1.pN (J7 _) (I1.aN.fresh (J7 _))
noncomputable def m6(ta:TA):TI:=λσ H R=>ta σ H λvs H1=>∃j:Int,vs=[.int j]/\-(2^62)<=j/\j<2^62/\R (Cv 0 j.toNat) H1
theorem uY{a:Expr}{ta:TA}{p pos:Pos}(hg:Gl X "range")(hm:X.mg "range"=none)(ha:PA X [a] ta)(hs:autoParam (starEach [a] X.env=[(false,eval a X.env)]) ℜ0):PI X tg (.Call (.Name "range" p) [a] [] pos) (m6 ta):=by
 intro pins s σ H R I h;refine Call_ (fN I hg hm boot_range (KW (bR (ha pos pins s σ H _ I h) λus s1 hq31=>?_) hs rfl));obtain⟨vs,H1,I1,r1,q1⟩:=hq31;obtain⟨j,e,q1,q2,q⟩:=q1;subst e
 cases r1 with
 |cons r rr =>
  cases rr;obtain⟨t,rfl⟩:=r;exact call_range_1 (xF I1 (by lia) (by lia) q1 q2 (by simpa using q))
noncomputable def Fo(wi:TI)(g:TG)(tb:TS):TS:=λD σ H=>wi σ H λJ H1=>∃W:Nat->Nat->St->Hp->Prop,(∃m,W 0 m σ H1)/\∀i m σ H,W i m σ H ->
 (J.stop i H/\D.nx σ H)\/(J.go i H/\∃N:St->Hp->Prop,(∀σ' H',N σ' H'->∃m',m'<m/\W (i+1) m' σ' H')/\∀x H',J.CI i H x H'->g x σ H' λσ2 H2=>tb {D with nx:=N,ct:=N,bk:=D.nx} σ2 H2)
noncomputable def iF(fp:List Addr)(h:Heap):List (Addr×Obj):=fp.filterMap λb=>(h.get? b).map λo=>(b,o)
theorem dM{o:Obj}(hb:b∈fp)(e:h.get? b=some o):(b,o)∈iF fp h:=Mn.mpr ⟨b,hb,by rw[e];rfl⟩
theorem vj{p:Addr×Obj}(hp:p∈iF fp h):p.1∈fp/\h.get? p.1=some p.2:=by
 obtain⟨b,hb,e⟩:=Mn.mp hp
 cases q:h.get? b with
 |none=>rw[q] at e;cases e
 |some o =>
  rw[q] at e;have e':(b,o)=p:=Option.some.inj e;subst e';exact⟨hb,q⟩
theorem Inv.pinned{s:Shared}(I:Inv X pins σ H s)(hf:∀b∈fp,me X pins H b)(ho:∀b∈fp,∃o,s.heap.get? b=some o/\∀v,o.data≠.cell v):Inv X (pins++iF fp s.heap) σ H s:=
 I.nM λp hp=>(Kj.mp hp).elim (λz=>I.pin p (JP _ z)) λz=>by
  obtain⟨hb,e⟩:=vj z;obtain⟨f0,f1,f2,_⟩:=hf p.1 hb;obtain⟨o,e',d⟩:=ho p.1 hb;rw[e] at e';cases e';exact⟨e,f0,f1,f2,d⟩
theorem Inv.fL{pl:List (Addr×Obj)}{s:Shared}(I:Inv X (pins++pl) σ H s):Inv X pins σ H s:=I.nM λp hp=>I.pin p (JP _ (KP _ hp))
theorem DE{iter:Expr}{wi:TI}{g:TG}{pos:Pos}(hp:PassesOwn (model X.prog X.w) X.A X.env X.xe)(hc:X.calm=true)(hi:PI X tg iter wi)(hg:PG X tg g)(hb:rD X body tb)
  (hs:autoParam (∀x,foldedSetIterable iter X.env x=pure x) ℜ3):PS X (.For tg iter body [] pos) (Fo wi g tb):=by
 intro pins s σ H D I h;refine wpAny_For (bR (hi pins s σ H _ I h) λv s1 h1=>bR h1 λitv s2 h2=>?_) hs;obtain⟨it,fp,tn,J,H2,e,I2,T,st2,f2,W,⟨m0,w0⟩,turn⟩:=h2;subst e;have stat:∀{H':Hp},(∀b∈fp,H' b=none)->∀b∈fp,me X pins H' b:=λhn b hb=>⟨hn b hb,(f2 b hb).2⟩;refine codeAny_forLoop_any (λn s'=>∃i σ' H',Inv X pins σ' H' s'/\tn i s'.heap/\(∀b∈fp,H' b=none)/\W i n σ' H') ?_ m0 ⟨0,σ,H2,I2,st2,λb hb=>(f2 b hb).1,w0⟩;rintro n s3 ⟨i,σ3,H3,I3,st3,fr3,w3⟩;rcases turn i n σ3 H3 w3 with ⟨stop,qn⟩|⟨go,N,hN,step⟩
 ·refine Lu hp (bR (T.done X rfl rfl rfl hc i pins s3 σ3 H3 X.xe I3 (stat fr3) st3 stop) λr s4 hq33=>?_);obtain⟨hr,I4⟩:=hq33;subst hr;exact MJ ⟨σ3,H3,I4,qn⟩
 ·refine Lu hp (bR (T.item X rfl rfl rfl hc i pins s3 σ3 H3 X.xe I3 (stat fr3) st3 go) λr s4 hq34=>?_);obtain⟨u,hr,h4⟩:=hq34;subst hr;refine Lu hp (bR h4 λ_ s5 hq35=>?_);obtain⟨x,H5,I5,r5,y5,st5,fr5⟩:=hq35;have I5':=I5.pinned (stat fr5) (T.obj _ _ st5);refine Lu hp (bR (hg _ s5 σ3 H5 x u _ I5' r5 (step x H5 y5)) λ_ s6 hq36=>?_);obtain⟨σ6,H6,I6,q6⟩:=hq36;refine Lu hp (bR (hb _ s6 σ6 H6 _ I6 q6) λf s7 q7=>?_);have again:∀{σ7:St} {H7:Hp},Inv X (pins++iF fp s5.heap) σ7 H7 s7->N σ7 H7->∃m,m<n/\∃i σ' H',Inv X pins σ' H' s7/\tn i s7.heap/\(∀b∈fp,H' b=none)/\W i m σ' H':=λ{σ7 H7} I7 n7=>by
   obtain⟨m',hm,w7⟩:=hN σ7 H7 n7;refine⟨m',hm,i+1,σ7,H7,I7.fL,T.keep _ _ _ st5 λb hb o e=>(I7.pin (b,o) (JP _ (JP _ (dM hb e)))).1,λb hb=>?_,w7⟩;obtain⟨o,e,d⟩:=T.obj _ _ st5 b hb;exact (I7.pin (b,o) (JP _ (JP _ (dM hb e)))).2.1
  cases f with
  |next=>obtain⟨σ7,H7,I7,n7⟩:=q7;exact again I7 n7
  |cont=>obtain⟨σ7,H7,I7,n7⟩:=q7;exact again I7 n7
  |brk=>obtain⟨σ7,H7,I7,q7⟩:=q7;exact⟨σ7,H7,I7.fL,q7⟩
  |ret v=>obtain⟨x7,σ7,H7,I7,r7,q7⟩:=q7;exact⟨x7,σ7,H7,I7.fL,r7,q7⟩
end
theorem yL{K:PySem.W.Frag}{g:TG}(Pv:Nat->St->Hp->Prop)(h0:Pv 0 σ H)(hl:∀i σ H,i<=xs.length->Pv i σ H->bB K H a xs)
  (hs:∀i x σ H,xs[i]?=some x->Pv i σ H->g x σ H λσ2 H2=>tb {D with nx:=Pv (i+1),ct:=Pv (i+1),bk:=D.nx} σ2 H2) (hd:∀σ H,Pv xs.length σ H->D.nx σ H) :
  ∃W:Nat->Nat->St->Hp->Prop,(∃m,W 0 m σ H)/\∀i m σ H,W i m σ H ->
   ((we K a).stop i H/\D.nx σ H)\/((we K a).go i H/\∃N:St->Hp->Prop,(∀σ' H',N σ' H'->∃m',m'<m/\W (i+1) m' σ' H')/\∀x H',(we K a).CI i H x H'->g x σ H' λσ2 H2=>tb {D with nx:=N,ct:=N,bk:=D.nx} σ2 H2):=by
 refine⟨λi m σ H=>m=xs.length-i/\i<=xs.length/\Pv i σ H,⟨xs.length,by simp,JL _,h0⟩,?_⟩
 rintro i m σ H ⟨rfl,hi,p⟩;have q:=hl i σ H hi p;by_cases hlt:i<xs.length
 ·refine .inr ⟨⟨xs,xs[i],q,by simp[hlt]⟩,Pv (i+1),λσ' H' p'=>⟨xs.length-(i+1),by lia,rfl,hlt,p'⟩,λx H' y=>?_⟩
  obtain⟨e,y⟩:=y;subst e;exact hs i x σ _ (y xs q) p
 ·have e:i=xs.length:=by lia
  subst e;exact .inl ⟨⟨xs,q,J7 _⟩,hd σ H p⟩
theorem BC{K:PySem.W.Frag}{g:TG}(Pv:Nat->St->Hp->Prop)(h0:Pv 0 σ H)(hl:∀i σ H,i<=xs.length->Pv i σ H->bb K H a xs)
  (hs:∀i x σ H,xs[i]?=some x->Pv i σ H->g x σ H λσ2 H2=>tb {D with nx:=Pv (i+1),ct:=Pv (i+1),bk:=D.nx} σ2 H2) (hd:∀σ H,Pv xs.length σ H->D.nx σ H) :
  ∃W:Nat->Nat->St->Hp->Prop,(∃m,W 0 m σ H)/\∀i m σ H,W i m σ H ->
   ((vC K a).stop i H/\D.nx σ H)\/((vC K a).go i H/\∃N:St->Hp->Prop,(∀σ' H',N σ' H'->∃m',m'<m/\W (i+1) m' σ' H')/\∀x H',(vC K a).CI i H x H'->g x σ H' λσ2 H2=>tb {D with nx:=N,ct:=N,bk:=D.nx} σ2 H2):=by
 refine⟨λi m σ H=>m=xs.length-i/\i<=xs.length/\Pv i σ H,⟨xs.length,by simp,JL _,h0⟩,?_⟩
 rintro i m σ H ⟨rfl,hi,p⟩;have q:=hl i σ H hi p;by_cases hlt:i<xs.length
 ·refine .inr ⟨⟨xs,xs[i],q,by simp[hlt]⟩,Pv (i+1),λσ' H' p'=>⟨xs.length-(i+1),by lia,rfl,hlt,p'⟩,λx H' y=>?_⟩
  obtain⟨e,y⟩:=y;subst e;exact hs i x σ _ (y xs q) p
 ·have e:i=xs.length:=by lia
  subst e;exact .inl ⟨⟨xs,q,J7 _⟩,hd σ H p⟩
theorem uC{lo:Int}{n:Nat}{g:TG}(Pv:Nat->St->Hp->Prop)(h0:Pv 0 σ H)
  (hs:∀i σ H,i<n->Pv i σ H->g (.int (lo+i)) σ H λσ2 H2=>tb {D with nx:=Pv (i+1),ct:=Pv (i+1),bk:=D.nx} σ2 H2) (hd:∀σ H,Pv n σ H->D.nx σ H) :
  ∃W:Nat->Nat->St->Hp->Prop,(∃m,W 0 m σ H)/\∀i m σ H,W i m σ H ->
   ((Cv lo n).stop i H/\D.nx σ H)\/((Cv lo n).go i H/\∃N:St->Hp->Prop,(∀σ' H',N σ' H'->∃m',m'<m/\W (i+1) m' σ' H')/\∀x H',(Cv lo n).CI i H x H'->g x σ H' λσ2 H2=>tb {D with nx:=N,ct:=N,bk:=D.nx} σ2 H2):=by
 refine⟨λi m σ H=>m=n-i/\i<=n/\Pv i σ H,⟨n,by simp,JL _,h0⟩,?_⟩
 rintro i m σ H ⟨rfl,hi,p⟩;by_cases hlt:i<n
 ·refine .inr ⟨hlt,Pv (i+1),λσ' H' p'=>⟨n-(i+1),by lia,rfl,hlt,p'⟩,λx H' y=>?_⟩
  obtain⟨e,y⟩:=y;subst e y;exact hs i σ _ hlt p
 ·have e:i=n:=by lia
  subst e;exact .inl ⟨J7 _,hd σ H p⟩
abbrev R2:=V->V->Hp->VK->Prop
variable{r:R2}
noncomputable def cB(X:Cx)(f:Value->Value->Sem Value)(r:R2):Prop:=
 ∀(pins:List (Addr×Obj)) (s:Shared) (σ:St) (H:Hp) (x y:V) (v u:Value) (Q:VK),Inv X pins σ H s->RelV x v->RelV y u->r x y H Q ->
  wpAny (model X.prog X.w) X.A (f v u) (EP X pins σ Q) X.xe s
noncomputable def HV(X:Cx)(f:Value->Sem Value)(r:V->Hp->VK->Prop):Prop:=
 ∀(pins:List (Addr×Obj)) (s:Shared) (σ:St) (H:Hp) (x:V) (v:Value) (Q:VK),Inv X pins σ H s->RelV x v->r x H Q ->
  wpAny (model X.prog X.w) X.A (f v) (EP X pins σ Q) X.xe s
noncomputable def a_(X:Cx)(f:Value)(r:List V->Hp->VK->Prop):Prop:=
 ∀(pins:List (Addr×Obj)) (s:Shared) (σ:St) (H:Hp) (xs:List V) (us:List Value) (Q:VK),Inv X pins σ H s->Vals xs us->r xs H Q ->
  wpAny (model X.prog X.w) X.A (call f us) (EP X pins σ Q) X.xe s
noncomputable def Ir(X:Cx)(r:V->Hp->(Bool->Hp->Prop)->Prop):Prop:=
 ∀(pins:List (Addr×Obj)) (s:Shared) (σ:St) (H:Hp) (x:V) (v:Value) (Q:Bool->Hp->Prop),Inv X pins σ H s->RelV x v->r x H Q ->
  wpAny (model X.prog X.w) X.A (truthy v) (TP X pins σ Q) X.xe s
noncomputable def zL(r:R2)(ta tb:TE):TE:=λσ H Q=>ta σ H λx H1=>tb σ H1 λy H2=>r x y H2 Q
noncomputable def Gb(r:V->Hp->VK->Prop)(ta:TE):TE:=λσ H Q=>ta σ H λx H1=>r x H1 Q
noncomputable def rI(C:Int->Int->Prop)(g:Int->Int->V):R2:=λx y H Q=>∃i j,x=.int i/\y=.int j/\C i j/\Q (g i j) H
noncomputable def zr(g:Int->Int->V):R2:=λx y H Q=>∃i j,x=.int i/\y=.int j/\Q (g i j) H
noncomputable def rU(g:Int->V):V->Hp->VK->Prop:=λx H Q=>∃i,x=.int i/\Q (g i) H
section
variable {X:Cx} {a b c:Expr} {ta tb tc:TE} {pos:Pos}
theorem DY(ha:PE X a ta)(hb:PE X b tb){s:Shared}{R:V->V->Hp->Prop}(I:Inv X pins σ H s)
  (h:ta σ H λx H1=>tb σ H1 λy H2=>R x y H2)  
  (hf:∀v u s2 x y H2,Inv X pins σ H2 s2->RelV x v->RelV y u->R x y H2->wpAny (model X.prog X.w) X.A (f v u) Q X.xe s2) :
  wpAny (model X.prog X.w) X.A (eval a X.env) (λv s₁=>wpAny (model X.prog X.w) X.A (eval b X.env) (λu s₂=>wpAny (model X.prog X.w) X.A (f v u) Q X.xe s₂) X.xe s₁) X.xe s:=by
 refine bR (ha pins s σ H _ I h) λv s1 hq37=>?_;obtain⟨x,H1,I1,r1,q1⟩:=hq37;refine bR (hb pins s1 σ H1 _ I1 q1) λu s2 hq38=>?_;obtain⟨y,H2,I2,r2,q2⟩:=hq38;exact hf v u s2 x y H2 I2 r1 r2 q2
theorem Hw{op:Operator}(ho:cB X (binaryOp op) r)(ha:PE X a ta)(hb:PE X b tb):PE X (.BinOp a op b pos) (zL r ta tb):=by
 intro pins s σ H Q I h;exact wpAny_BinOp (DY ha hb I h λv u s2 x y H2 I2 rx ry q=>ho pins s2 σ H2 x y v u Q I2 rx ry q)
theorem FI{op:UnaryOp}{r:V->Hp->VK->Prop}(ho:HV X (unaryOp op) r)(ha:PE X a ta):PE X (.UnaryOp op a pos) (Gb r ta):=by
 intro pins s σ H Q I h;exact UnaryOp_ (bR (ha pins s σ H _ I h) λv s1 ⟨x,H1,I1,r1,q1⟩=>ho pins s1 σ H1 x v Q I1 r1 q1)
theorem GY{C:Int->Int->Prop}
  (rule:∀(i j:Int) (t u:Tok) (s:Shared) (Q:Value->Shared->Prop) (E:Value->Shared->Prop),C i j->Q (.int (g i j) s.toks) {s with toks:=s.toks+1}->wpAny (model X.prog X.w) X.A (f (.int i t) (.int j u)) Q E s) :
  cB X f (rI C λi j=>.int (g i j)):=by
 intro pins s σ H x y v u Q I rx ry h;obtain⟨i,j,rfl,rfl,hc,q⟩:=h;obtain⟨t,rfl⟩:=rx;obtain⟨t',rfl⟩:=ry;exact rule i j t t' s _ _ hc ⟨.int (g i j),H,I.tok _,⟨_,rfl⟩,q⟩
theorem Gs
  (rule:∀(i j:Int) (t u:Tok) (s:Shared) (Q:Value->Shared->Prop) (E:Value->Shared->Prop),Q (.int (g i j) s.toks) {s with toks:=s.toks+1}->wpAny (model X.prog X.w) X.A (f (.int i t) (.int j u)) Q E s) :
  cB X f (zr λi j=>.int (g i j)):=by
 intro pins s σ H x y v u Q I rx ry h;obtain⟨i,j,rfl,rfl,q⟩:=h;obtain⟨t,rfl⟩:=rx;obtain⟨t',rfl⟩:=ry;exact rule i j t t' s _ _ ⟨.int (g i j),H,I.tok _,⟨_,rfl⟩,q⟩
theorem AW{g:Int->Int->Bool}
  (rule:∀(i j:Int) (t u:Tok) (s:Shared) (Q:Value->Shared->Prop) (E:Value->Shared->Prop),Q (.bool (g i j)) s->wpAny (model X.prog X.w) X.A (f (.int i t) (.int j u)) Q E s) :
  cB X f (zr λi j=>.bl (g i j)):=by
 intro pins s σ H x y v u Q I rx ry h;obtain⟨i,j,rfl,rfl,q⟩:=h;obtain⟨t,rfl⟩:=rx;obtain⟨t',rfl⟩:=ry;exact rule i j t t' s _ _ ⟨.bl (g i j),H,I,rfl,q⟩
noncomputable def IA(i j:Int):Prop:=0<j/\j<1073741824
noncomputable def GD(i j:Int):Prop:=0<=j/\j<=1000000/\i.natAbs<2^64
noncomputable def xY(i j:Int):Prop:=(-(2^64)<i/\i<2^64)\/(-(2^64)<j/\j<2^64)
theorem xY.ok{i j:Int}(h:xY i j):IntMulOk i j:=by
 rcases h with ⟨h1,h2⟩|⟨h1,h2⟩
 ·exact .of_left (intBits_le_64 h1 h2)
 ·exact .of_right (intBits_le_64 h1 h2)
theorem xb:cB X (binaryOp .Add) (zr λi j=>.int (i+j)):=Gs λ_ _ _ _ _ _ _ q=>add_int q
theorem cO:cB X (binaryOp .Sub) (zr λi j=>.int (i-j)):=Gs λ_ _ _ _ _ _ _ q=>sub_int q
theorem Fb:cB X (binaryOp .Mult) (rI xY λi j=>.int (i*j)):=GY λ_ _ _ _ _ _ _ hc q=>mul_int q hc.ok
theorem n9:cB X (binaryOp .FloorDiv) (rI IA λi j=>.int (i / j)):=GY λi j _ _ _ _ _ hc q=>by
 have h1:(0:Int)<j:=hc.1;have h2:j<1073741824:=hc.2;exact floordiv_int (by lia) (by rw[Int.fdiv_eq_ediv_of_nonneg i (by lia)];exact q) (.inl (PyProof.noPylong_small (by lia)))
theorem eI:cB X (binaryOp .Mod) (rI (λ_ j=>0<j) λi j=>.int (i % j)):=GY λi j _ _ _ _ _ hc q=>by
 have h1:(0:Int)<j:=hc;exact mod_int' (by lia) (by rw[Int.fmod_eq_emod_of_nonneg i (by lia)];exact q)
theorem w_:cB X (binaryOp .Pow) (rI GD λi j=>.int (i^j.toNat)):=GY λ_ _ _ _ _ _ _ hc q=>pow_int_small hc.1 hc.2.1 hc.2.2 q
theorem EV:cB X (binaryOp .LShift) (rI GD λi j=>.int (i*2^j.toNat)):=GY λ_ _ _ _ _ _ _ hc q=>lshift_int_small hc.1 hc.2.1 hc.2.2 q
theorem Jj{f:Value->Sem Value}{g:Int->Int}
  (rule:∀(i:Int) (t:Tok) (s:Shared) (Q:Value->Shared->Prop) (E:Value->Shared->Prop),Q (.int (g i) s.toks) {s with toks:=s.toks+1}->wpAny (model X.prog X.w) X.A (f (.int i t)) Q E s) :
  HV X f (rU λi=>.int (g i)):=by
 intro pins s σ H x v Q I rx h;obtain⟨i,rfl,q⟩:=h;obtain⟨t,rfl⟩:=rx;exact rule i t s _ _ ⟨.int (g i),H,I.tok _,⟨_,rfl⟩,q⟩
theorem dc:HV X (unaryOp .USub) (rU λi=>.int (-i)):=Jj λ_ _ _ _ _ q=>neg_int q
end
noncomputable def FV:V->V->Bool
 |.aG,.aG=>true|.aG,.int _=>true|.int _,.aG=>true|.aG,.bl _=>true|.bl _,.aG=>true|.aG,.str _=>true|.str _,.aG=>true
 |.int _,.int _=>true|.bl _,.bl _=>true|.str _,.str _=>true|.q5 _,.q5 _=>true
 |.int _,.str _=>true|.str _,.int _=>true|.bl _,.str _=>true|.str _,.bl _=>true
 |_,_=>false
noncomputable def Eg:R2:=λx y H Q=>FV x y=true/\Q (.bl (decide (x=y))) H
noncomputable def Hv:R2:=λx y H Q=>FV x y=true/\Q (.bl (!decide (x=y))) H
theorem sx{i j:Int}:decide (V.int i=V.int j)=(i == j):=by
 rw[LF];simp
theorem Ab{i j:Bool}:decide (V.bl i=V.bl j)=(i == j):=by
 rw[LF];simp
theorem sS{i j:Str}:decide (V.str i=V.str j)=(i == j):=by
 rw[LF];simp
theorem tN{i j:Array UInt8}:decide (V.q5 i=V.q5 j)=(i.toList == j.toList):=by
 rw[LF];cases i;cases j;simp
section
variable {X:Cx} {a b c:Expr} {ta tb tc:TE} {pos:Pos}
theorem aO{s:Shared}{Q:VK}{k k':Bool}(I:Inv X pins σ H s)(q:Q (.bl k) H)(e:k=k'):EP X pins σ Q (.bool k') s:=by
 subst e;exact⟨.bl k,H,I,rfl,q⟩
theorem CU:cB X (compareOp .Eq) Eg:=by
 intro pins s σ H x y v u Q I rx ry h;obtain⟨hs,q⟩:=h
 cases x with
 |aG =>
  cases rx
  cases y with
  |aG=>cases ry;exact PySem.EqNone.eq_none_none (aO I q (by simp))
  |bl j=>cases ry;exact PySem.EqNone.eq_none_bool (aO I q (by simp))
  |int j=>obtain⟨t',rfl⟩:=ry;exact PySem.EqNone.eq_none_int (aO I q (by simp))
  |str j=>obtain⟨t',rfl⟩:=ry;exact PySem.EqNone.eq_none_str (aO I q (by simp))
  |_=>exact absurd (show false=true from hs) JE
 |bl i =>
  cases rx
  cases y with
  |aG=>cases ry;exact PySem.EqNone.eq_bool_none (aO I q (by simp))
  |bl j=>cases ry;exact eq_bool (aO I q Ab)
  |str j=>obtain⟨t',rfl⟩:=ry;exact PySem.EqMixed.eq_bool_str (aO I q (by simp))
  |_=>exact absurd (show false=true from hs) JE
 |int i =>
  obtain⟨t,rfl⟩:=rx
  cases y with
  |aG=>cases ry;exact PySem.EqNone.eq_int_none (aO I q (by simp))
  |int j=>obtain⟨t',rfl⟩:=ry;exact eq_int (aO I q sx)
  |str j=>obtain⟨t',rfl⟩:=ry;exact PySem.EqMixed.eq_int_str (aO I q (by simp))
  |_=>exact absurd (show false=true from hs) JE
 |str i =>
  obtain⟨t,rfl⟩:=rx
  cases y with
  |aG=>cases ry;exact PySem.EqNone.eq_str_none (aO I q (by simp))
  |bl j=>cases ry;exact PySem.EqMixed.eq_str_bool (aO I q (by simp))
  |int j=>obtain⟨t',rfl⟩:=ry;exact PySem.EqMixed.eq_str_int (aO I q (by simp))
  |str j=>obtain⟨t',rfl⟩:=ry;exact eq_str (aO I q sS)
  |_=>exact absurd (show false=true from hs) JE
 |q5 i =>
  obtain⟨t,rfl⟩:=rx
  cases y with
  |q5 j=>obtain⟨t',rfl⟩:=ry;exact W.eq_bytes (aO I q tN)
  |_=>exact absurd (show false=true from hs) JE
 |_=>cases y<;>exact absurd (show false=true from hs) JE
theorem CQ:cB X (compareOp .NotEq) Hv:=by
 intro pins s σ H x y v u Q I rx ry h;obtain⟨hs,q⟩:=h
 cases x with
 |aG =>
  cases rx
  cases y with
  |aG=>cases ry;exact PySem.EqNone.ne_none_none (aO I q (by simp))
  |bl j=>cases ry;exact PySem.EqNone.ne_none_bool (aO I q (by simp))
  |int j=>obtain⟨t',rfl⟩:=ry;exact PySem.EqNone.ne_none_int (aO I q (by simp))
  |str j=>obtain⟨t',rfl⟩:=ry;exact PySem.EqNone.ne_none_str (aO I q (by simp))
  |_=>exact absurd (show false=true from hs) JE
 |bl i =>
  cases rx
  cases y with
  |aG=>cases ry;exact PySem.EqNone.ne_bool_none (aO I q (by simp))
  |bl j=>cases ry;exact ne_bool (aO I q (Kk not Ab))
  |str j=>obtain⟨t',rfl⟩:=ry;exact PySem.EqMixed.ne_bool_str (aO I q (by simp))
  |_=>exact absurd (show false=true from hs) JE
 |int i =>
  obtain⟨t,rfl⟩:=rx
  cases y with
  |aG=>cases ry;exact PySem.EqNone.ne_int_none (aO I q (by simp))
  |int j=>obtain⟨t',rfl⟩:=ry;exact ne_int (aO I q (Kk not sx))
  |str j=>obtain⟨t',rfl⟩:=ry;exact PySem.EqMixed.ne_int_str (aO I q (by simp))
  |_=>exact absurd (show false=true from hs) JE
 |str i =>
  obtain⟨t,rfl⟩:=rx
  cases y with
  |aG=>cases ry;exact PySem.EqNone.ne_str_none (aO I q (by simp))
  |bl j=>cases ry;exact PySem.EqMixed.ne_str_bool (aO I q (by simp))
  |int j=>obtain⟨t',rfl⟩:=ry;exact PySem.EqMixed.ne_str_int (aO I q (by simp))
  |str j=>obtain⟨t',rfl⟩:=ry;exact ne_str (aO I q (Kk not sS))
  |_=>exact absurd (show false=true from hs) JE
 |q5 i =>
  obtain⟨t,rfl⟩:=rx
  cases y with
  |q5 j=>obtain⟨t',rfl⟩:=ry;exact W.ne_bytes (aO I q (Kk not tN))
  |_=>exact absurd (show false=true from hs) JE
 |_=>cases y<;>exact absurd (show false=true from hs) JE
theorem e8:cB X (compareOp .Lt) (zr λi j=>.bl (decide (i<j))):=AW λ_ _ _ _ _ _ _ q=>lt_int q
theorem HB:cB X (compareOp .LtE) (zr λi j=>.bl (decide (i<=j))):=AW λ_ _ _ _ _ _ _ q=>le_int q
theorem kB:cB X (compareOp .Gt) (zr λi j=>.bl (decide (j<i))):=AW λ_ _ _ _ _ _ _ q=>gt_int q
theorem sI:cB X (compareOp .GtE) (zr λi j=>.bl (decide (j<=i))):=AW λ_ _ _ _ _ _ _ q=>ge_int q
theorem vq:cB X (compareOp .In) (λx y H Q=>∃i j,x=.str i/\y=.str j/\Q (.bl (!(Builtin.Str.occurrences j i 0 j.length 1).isEmpty)) H):=by
 intro pins s σ H x y v u Q I rx ry h;obtain⟨i,j,rfl,rfl,q⟩:=h;obtain⟨t,rfl⟩:=rx;obtain⟨t',rfl⟩:=ry;exact in_str (aO I q rfl)
theorem cR:cB X (compareOp .Is) (λx y H Q=>y=.aG/\Q (.bl (decide (x=.aG))) H):=by
 intro pins s σ H x y v u Q I rx ry h;obtain⟨rfl,q⟩:=h;cases ry;refine is_none_gen (aO I q ?_)
 cases x<;>first
  | (cases rx;rfl)
  | (obtain⟨t,rfl⟩:=rx;rfl)
theorem gY:cB X (compareOp .IsNot) (λx y H Q=>y=.aG/\Q (.bl (!decide (x=.aG))) H):=by
 intro pins s σ H x y v u Q I rx ry h;obtain⟨rfl,q⟩:=h;cases ry;refine isnot_none_gen (aO I q ?_)
 cases x<;>first
  | (cases rx;rfl)
  | (obtain⟨t,rfl⟩:=rx;rfl)
theorem cB.or{r':R2}(h:cB X f r)(h':cB X f r'):cB X f (λx y H Q=>r x y H Q\/r' x y H Q):=by
 intro pins s σ H x y v u Q I rx ry q;rcases q with q|q
 ·exact h pins s σ H x y v u Q I rx ry q
 ·exact h' pins s σ H x y v u Q I rx ry q
theorem B8{op:CmpOp}(ho:cB X (compareOp op) r)(ha:PE X a ta)(hb:PE X b tb)(hm:behindInMarks op b=false):PE X (.Compare a [op] [b] pos) (zL r ta tb):=by
 intro pins s σ H Q I h;exact wpAny_Compare1 (DY ha hb I h λv u s2 x y H2 I2 rx ry q=>ho pins s2 σ H2 x y v u Q I2 rx ry q) hm
noncomputable def pR(t:TE):TT:=λσ H Q=>t σ H λx H'=>∃k,x=.bl k/\Q k H'
theorem Ba{op:CmpOp}(ho:cB X (compareOp op) r)(ha:PE X a ta)(hb:PE X b tb)(hm:behindInMarks op b=false):PT X (.Compare a [op] [b] pos) (pR (zL r ta tb)):=by
 intro pins s σ H Q I h;refine wpAny_isTrue_Compare1 (bR (ha pins s σ H _ I h) λv s1 ⟨x,H1,I1,r1,q1⟩=>bR (hb pins s1 σ H1 _ I1 q1) λu s2 ⟨y,H2,I2,r2,q2⟩=>
  bR (ho pins s2 σ H2 x y v u _ I2 r1 r2 q2) λc s3 ⟨z,H3,I3,r3,k,e,q3⟩=>?_) hm
 subst e;cases r3;exact Mz ⟨H3,I3,q3⟩
noncomputable def kF(r r':R2)(ta tb tc:TE):TE:=λσ H Q=>ta σ H λx H1=>tb σ H1 λy H2=>r x y H2 λz H3=>∃k,z=.bl k /\
 (if k=true then tc σ H3 λw' H4=>r' y w' H4 Q else Q (.bl false) H3)
theorem wO{op op':CmpOp}{r':R2}(ho:cB X (compareOp op) r)(ho':cB X (compareOp op') r')(ha:PE X a ta)(hb:PE X b tb)(hc:PE X c tc)
  (hm:autoParam (lastMarks [op,op'] [b,c]=false) ℜ5):PE X (.Compare a [op,op'] [b,c] pos) (kF r r' ta tb tc):=by
 intro pins s σ H Q I h;refine Compare_chain (bR (ha pins s σ H _ I h) λv s1 ⟨x,H1,I1,r1,q1⟩=>chain_link (bR (hb pins s1 σ H1 _ I1 q1) λu s2 ⟨y,H2,I2,r2,q2⟩=>
  bR (ho pins s2 σ H2 x y v u _ I2 r1 r2 q2) λd s3 ⟨z,H3,I3,r3,k,e,q3⟩=>?_)) hm
 subst e;cases r3;refine Mz ?_
 cases k with
 |false=>exact ite_ff ⟨.bl false,H3,I3,rfl,q3⟩
 |true=>exact ite_tt (chain_last (bR (hc pins s3 σ H3 _ I3 q3) λw' s4 ⟨z',H4,I4,r4,q4⟩=>ho' pins s4 σ H4 y z' u w' Q I4 r2 r4 q4))
noncomputable def xG(K:W.Frag)(x:V)(H:Hp)(k:Bool):Prop:=
 match x with
 |.aG=>k=false
 |.bl b=>k=b
 |.int i=>k=(i != 0)
 |.str y=>y.length<=sizeLine/\k=((y.length:Int) != 0)
 |.q5 y=>y.size<=sizeLine/\k=((y.size:Int) != 0)
 |.ref p=>(∃xs,bB K H p xs/\k=!xs.isEmpty)\/(∃xs,bb K H p xs/\k=!xs.isEmpty)\/∃kvs,H p=some (.dK kvs)/\k=!kvs.isEmpty
 |_=>False
theorem sm{κ:Type}{kvs:List (κ×V)}{vs:List (κ×Value)}(r:KV kvs vs):(!vs.isEmpty)=!kvs.isEmpty:=by
 cases r<;>rfl
theorem kP{its:List Value}(r:Vals xs its):(!its.toArray.isEmpty)=!xs.isEmpty:=by
 cases r<;>simp
theorem iE:(sizeLine:Nat)<2^63:=by rw[K_];decide
theorem DP:Ir X (λx H Q=>∃k,xG X.K x H k/\Q k H):=by
 intro pins s σ H x v Q I rx h;obtain⟨k,e,q⟩:=h;have hl:=iE;have hs:sizeLine=16777216:=K_
 cases x with
 |aG =>
  cases rx;have e':k=false:=e;subst e';exact truthy_none ⟨H,I,q⟩
 |bl b =>
  cases rx;have e':k=b:=e;subst e';exact Mz ⟨H,I,q⟩
 |int i =>
  obtain⟨t,rfl⟩:=rx;have e':k=(i != 0):=e;subst e';exact PySem.P.truthy_int ⟨H,I,q⟩
 |str y =>
  obtain⟨t,rfl⟩:=rx;obtain⟨hy,e'⟩:y.length<=sizeLine/\k=((y.length:Int) != 0):=e;subst e';exact PySem.P.truthy_str (by lia) ⟨H,I.tok _,q⟩
 |q5 y =>
  obtain⟨t,rfl⟩:=rx;obtain⟨hy,e'⟩:y.size<=sizeLine/\k=((y.size:Int) != 0):=e;subst e';exact W.truthy_bytes (by lia) ⟨H,I.tok _,q⟩
 |ref p =>
  cases rx;have e':(∃xs,bB X.K H p xs/\k=!xs.isEmpty)\/(∃xs,bb X.K H p xs/\k=!xs.isEmpty)\/∃kvs,H p=some (.dK kvs)/\k=!kvs.isEmpty:=e;rcases e' with ⟨xs,hx,e'⟩|⟨xs,hx,e'⟩|⟨kvs,hx,e'⟩
  ·subst e';obtain⟨its,r,pl,hz⟩:=I.list hx;have hlen:=r.length;exact wpAny_truthy_list pl.isList (by simp only[Jy];lia) ⟨H,I.tok _,by rw[kP r];exact q⟩
  ·subst e';obtain⟨its,r,pl,hz⟩:=I.tuple hx;have hlen:=r.length;exact truthy_tuple pl (by simp only[Jy];lia) ⟨H,I.tok _,by rw[kP r];exact q⟩
  ·subst e';obtain⟨hz,hS,vs,r,m⟩:kvs.length<=sizeLine/\(p == sysModules)=false/\∃vs,KV kvs vs/\s.heap.DictOf (bU X.prog X.w) p vs:=I.aN p _ hx;have hlen:kvs.length=vs.length:=Paired.length r;exact wpAny_truthy_dict hS m (by lia) ⟨H,I.tok _,by rw[sm r];exact q⟩
 |_=>exact (show False from e).elim
theorem yw(ha:PE X a ta)(he:∀whole,isTrue a X.env whole=(do let v <- whole;standAt a.pos;holding [v] (truthy v))):
  PT X a (λσ H Q=>ta σ H λx H'=>∃k,xG X.K x H' k/\Q k H'):=by
 intro pins s σ H Q I h;exact isTrue_plain (bR (ha pins s σ H _ I h) λv s1 ⟨x,H1,I1,r1,q1⟩=>DP pins s1 σ H1 x v Q I1 r1 q1) (he _)
theorem kM:cB X (binaryOp .Add) (λx y H Q=>∃i j,x=.str i/\y=.str j/\i.length+j.length<=sizeLine/\Q (.str (i++j)) H):=by
 intro pins s σ H x y v u Q I rx ry h;obtain⟨i,j,rfl,rfl,hz,q⟩:=h;obtain⟨t,rfl⟩:=rx;obtain⟨t',rfl⟩:=ry;exact add_str (λt' tk=>⟨.str (i++j),H,I.tok _,⟨_,rfl⟩,q⟩) hz
theorem vals1{x:V}(r:Vals [x] us):∃u,us=[u]/\RelV x u:=by
 cases r with
 |cons r1 r2=>cases r2;exact⟨_,rfl,r1⟩
theorem vals2{x y:V}(r:Vals [x,y] us):∃u w',us=[u,w']/\RelV x u/\RelV y w':=by
 cases r with
 |cons r1 r2 =>
  cases r2 with
  |cons r3 r4=>cases r4;exact⟨_,_,rfl,r1,r3⟩
theorem xC:a_ X (.builtin "abs") (λxs H Q=>∃i,xs=[.int i]/\Q (.int (if i<0 then -i else i)) H):=by
 intro pins s σ H xs us Q I r h;obtain⟨i,rfl,q⟩:=h;obtain⟨u,rfl,t,rfl⟩:=vals1 r;exact call_abs_int λu tk=>⟨.int (if i<0 then -i else i),H,I.tok _,⟨_,rfl⟩,q⟩
theorem u9(hc:X.calm=true):a_ X (.builtin "min") (λxs H Q=>∃i j,xs=[.int i,.int j]/\Q (.int (if j<i then j else i)) H):=by
 intro pins s σ H xs us Q I r h;obtain⟨i,j,rfl,q⟩:=h;obtain⟨u,w',rfl,⟨t,rfl⟩,⟨t',rfl⟩⟩:=vals2 r;refine min_two_ints (I.ok.hd hc) λh' tk k=>⟨_,H,I.kept k,?_,q⟩;by_cases hj:j<i
 ·rw[J6 hj,J6 hj];exact⟨_,rfl⟩
 ·rw[Jx hj,Jx hj];exact⟨_,rfl⟩
theorem mq:a_ X (.type "int") (λxs H Q=>(∃i,xs=[.int i]/\Q (.int i) H)\/∃k,xs=[.bl k]/\Q (.int (if k then 1 else 0)) H):=by
 intro pins s σ H xs us Q I r h;rcases h with ⟨i,rfl,q⟩|⟨k,rfl,q⟩
 ·obtain⟨u,rfl,t,rfl⟩:=vals1 r;exact call_int_int ⟨.int i,H,I,⟨_,rfl⟩,q⟩
 ·obtain⟨u,rfl,r1⟩:=vals1 r;cases r1;exact call_int_bool ⟨.int (if k then 1 else 0),H,I.tok _,⟨_,rfl⟩,q⟩
theorem oi:a_ X (.type "str") (λxs H Q=>∃i,xs=[.int i]/\i.natAbs.log2<1920/\Q (.str (toString i)) H):=by
 intro pins s σ H xs us Q I r h;obtain⟨i,rfl,hz,q⟩:=h;obtain⟨u,rfl,t,rfl⟩:=vals1 r;exact PySem.P.str_of_int hz ⟨.str _,H,I.tok _,⟨_,rfl⟩,q⟩
noncomputable def G_(K:W.Frag)(x:V)(H:Hp)(n:Nat):Prop:=
 match x with
 |.str y=>y.length<=sizeLine/\n=y.length
 |.q5 y=>y.size<=sizeLine/\n=y.size
 |.ref p=>(∃xs,bB K H p xs/\n=xs.length)\/∃xs,bb K H p xs/\n=xs.length
 |_=>False
theorem hZ:a_ X (.builtin "len") (λxs H Q=>∃x n,xs=[x]/\G_ X.K x H n/\Q (.int n) H):=by
 intro pins s σ H xs us Q I r h;obtain⟨x,n,rfl,e,q⟩:=h;obtain⟨u,rfl,rx⟩:=vals1 r;have hl:=iE;have hs:sizeLine=16777216:=K_
 cases x with
 |str y =>
  obtain⟨t,rfl⟩:=rx;obtain⟨hy,e'⟩:y.length<=sizeLine/\n=y.length:=e;subst e';exact len_str (by lia) ⟨.int _,H,I.tok _,⟨_,rfl⟩,q⟩
 |q5 y =>
  obtain⟨t,rfl⟩:=rx;obtain⟨hy,e'⟩:y.size<=sizeLine/\n=y.size:=e;subst e';exact W.len_bytes (by lia) ⟨.int _,H,I.tok _,⟨_,rfl⟩,q⟩
 |ref p =>
  cases rx;have e':(∃xs,bB X.K H p xs/\n=xs.length)\/∃xs,bb X.K H p xs/\n=xs.length:=e;rcases e' with ⟨xs,hx,e'⟩|⟨xs,hx,e'⟩
  ·subst e';obtain⟨its,r',pl,hz⟩:=I.list hx;have hlen:=r'.length;exact Calls.call_len_list pl.isList (by simp only[Jy];lia) ⟨.int xs.length,H,I.tok _,⟨_,by simp only[Jy];rw[hlen]⟩,q⟩
  ·subst e';obtain⟨its,r',pl,hz⟩:=I.tuple hx;have hlen:=r'.length;exact len_tuple pl (by simp only[Jy];lia) ⟨.int xs.length,H,I.tok _,⟨_,by simp only[Jy];rw[hlen]⟩,q⟩
 |_=>exact (show False from e).elim
end
structure rW (h:Heap) (x dx C:Addr) (mA:Str->Option Value):Prop where
 obj:h.get? x=some (W.instObj C dx)
 ns:h.Ns1 dx mA
 ne:dx≠x
theorem u7{dx:Addr}(n:h.Ns1 dx mA):∃od,h.get? dx=some od/\∀name,W.lookIn name od=some (mA name):=by
 obtain⟨o,es,ep,ho,hd,hk,_,hm⟩:=n;refine⟨o,ho,λname=>?_⟩;have e:=hm name;unfold nsFind findBy at e;rw[<- Array.find?_toList] at e;unfold W.lookIn;rw[hd];dsimp only;split
 ·rename_i y q;rw[q] at e;exact Kk some e
 ·rename_i q;rw[q] at e;have a:es.toList.any (·.refKey)=false:=by
   rw[List.any_eq_false];intro y hy;obtain⟨z,t,hkey⟩:=hk y (Array.mem_toList_iff.mp hy);simp[DictEntry.refKey,hkey]
  have a':¬ es.toList.any (·.refKey)=true:=by rw[a];exact JE
  rw[Jx a'];exact Kk some e
theorem rW.look{x dx:Addr}(I:rW h x dx C mA):∃od,W.InstAt h x (W.instObj C dx) C (some od)/\∀name,W.lookIn name od=some (mA name):=
 let ⟨od,ho,hl⟩:=u7 I.ns
 ⟨od,⟨I.obj,rfl,rfl,ho⟩,hl⟩
section
variable {prog:Program} {w:World} {A:Around} {E:Value->Shared->Prop} {s:Shared} {K:W.Frag} {x dx C f:Addr} {mA:Str->Option Value} {name:Str} {v:Value}
theorem get_map{expr:Bool}(X:K.In s.heap)(I:rW s.heap x dx C mA)(hg:W.plainGet K C name=true)(hh:W.hasDictIn K C=true)
  (ha:W.findIn K (.ref C) name=some none) (hv:mA name=some v) (hv':W.handedIn v=true) (h:Q v {s with toks:=s.toks+1}) :
  wpAny (model prog w) A (getAttr (.ref x) name expr) Q E s:=by
 obtain⟨od,J,hl⟩:=I.look;exact W.get_value X J (Ov hg).1 (W.findObj_own hh ha rfl (by rw[hl,hv])) hv' h
theorem yv{Q:Value×List Value->Shared->Prop}(X:K.In s.heap)(I:rW s.heap x dx C mA)(hg:W.plainGet K C name=true)
  (hf:W.findIn K (.ref C) name=some (some (.ref f))) (ht:W.isFn K (.ref f)=true) (hv:mA name=none) (h:Q (.ref f,[.ref x]) s) :
  wpAny (model prog w) A (getMethod (.ref x) name pl) Q E s:=by
 obtain⟨od,J,hl⟩:=I.look;exact W.method_fn X J (Ov hg).1 (Ov hg).2 hf (LG.mp ht) (by show (W.lookIn name od).map (·.isSome)=some false;rw[hl,hv];rfl) h
theorem Cb{ns:List Str}{Q:Unit->Shared->Prop}(X:K.In s.heap)(I:rW s.heap x dx C mA)
  (hs:W.findIn K (.ref C) "__setattr__"=some (some (.builtin "object.__setattr__"))) (hp:W.plainOver K C=true) (ht:W.takerIn K C name=some none) (hh:W.hasDictIn K C=true)
  (hw:PySem.Within mA ns) (hsz:ns.length<=sizeLine)
  (h:∀h',rW h' x dx C (λy=>if y=name then some v else mA y)->Heap.SameBut dx s.heap h'->Q () {s with heap:=h',toks:=s.toks+2}) :
  wpAny (model prog w) A (setAttr (.ref x) name v) Q E s:=by
 obtain⟨od,J,hl⟩:=I.look;refine W.set_plain X J hs (W.osa_open (s:={s with toks:=s.toks+1}) (r:=none) X J hp ht λb=>?_)
 obtain⟨cd,hc,hd'⟩:=W.any_some hh;have hx:s.heap.get? x=some ⟨.ref C,some dx,.plain,#[]⟩:=I.obj;refine Js (Jz (Js (Js (wpAny_loadPart hx (Js (W.Looks.here (s:={s with toks:=s.toks+1}) (W.looks_clsIn X hc) ?_))))))
 rw[hd'];refine Jz (a:=some dx) (Js (Jz (Js ?_)));refine wpAny_nsSet1 (s:={s with toks:=s.toks+1}) I.ns λh' hn2 hs2=>?_
 obtain⟨oD,esD,epD,hoD,hdD,hcD⟩:=hn2.count (PySem.Within.cons name v hw);refine Js (wpAny_lookBehind hoD (by rw[hdD];exact pastItsLine_dict (JC hcD (by rw[JD];lia))) ?_)
 exact Jz (h _ ⟨(hs2.2 _ (Ko I.ne)).trans I.obj,hn2,I.ne⟩ hs2)
theorem wF{R:Result->Shared->Prop}{vs:List Value}(X:K.In s.heap)(hm:W.makesIn K C=true)
  (hi:W.findIn K (.ref C) "__init__"=some (some (.ref f))) (hf:W.typeIn K (.ref f)=some (.type "function"))
  (h:codeAny (model prog w) (A.under (.builtin "type.__call__" ⟨.ref C::vs,kw⟩)) (.call (.ref f) ⟨.ref (s.heap.objs.size+1)::vs,kw⟩) (W.InitBack (s.heap.objs.size+1) R)
   {s with heap:=(s.heap.push W.emptyDict).push (W.instObj C s.heap.objs.size)}) :
  codeAny (model prog w) A (.call (.ref C) ⟨vs,kw⟩) R s:=by
 obtain⟨hh,g,d,t,os⟩:=s;exact W.make_core (W.makes_of X hm) (Of X hi) (λself=>W.bind_fn X self hf) (.inl rfl) h
end
noncomputable def dI(f:Str)(v:V):List (Str×V)->List (Str×V)
 |[]=>[(f,v)]
 | (g,x)::r=>if g=f then (g,v)::r else (g,x)::dI f v r
theorem ji(f g:Str)(v:V):∀fs:List (Str×V),(dI f v fs).lookup g=if g=f then some v else fs.lookup g
 |[]=>by
  show List.lookup g [(f,v)]=_;by_cases h:g=f
  ·have hb:(g == f)=true:=LG.mpr h;simp only[List.lookup,hb,J6 h]
  ·have hb:(g == f)=false:=Kf.mpr h;simp only[List.lookup,hb,Jx h]
 | (k,x)::r=>by
  have ih:=ji f g v r;rw[show dI f v ((k,x)::r)=(if k=f then (k,v)::r else (k,x)::dI f v r) from rfl]
  by_cases hk:k=f
  ·rw[J6 hk];by_cases h:g=k
   ·have hb:(g == k)=true:=LG.mpr h;simp only[List.lookup,hb,J6 (h.trans hk)]
   ·have hb:(g == k)=false:=Kf.mpr h;simp only[List.lookup,hb,Jx (λe:g=f=>h (e.trans hk.symm))]
  ·rw[Jx hk];by_cases h:g=k
   ·have hb:(g == k)=true:=LG.mpr h;simp only[List.lookup,hb,Jx (λe:g=f=>hk (h.symm.trans e))]
   ·have hb:(g == k)=false:=Kf.mpr h;simp only[List.lookup,hb];exact ih
theorem iT(f:Str)(v:V):∀fs:List (Str×V),f∈(dI f v fs).map (·.1)/\∀g,g∈fs.map (·.1)->g∈(dI f v fs).map (·.1)
 |[]=>⟨by simp[dI],λg h=>by simp at h⟩
 | (k,x)::r=>by
  obtain⟨i1,i2⟩:=iT f v r;rw[show dI f v ((k,x)::r)=(if k=f then (k,v)::r else (k,x)::dI f v r) from rfl]
  by_cases hk:k=f
  ·rw[J6 hk];subst hk;exact⟨by simp,λg h=>by simpa using h⟩
  ·rw[Jx hk];refine⟨?_,λg h=>?_⟩
   ·rw[JY];exact J8 _ i1
   ·rw[JY] at h ⊢;rcases J5.mp h with e|e
    ·exact J5.mpr (.inl e)
    ·exact J8 _ (i2 g e)
theorem jf(f:Str)(v:V):∀fs:List (Str×V),(dI f v fs).length<=fs.length+1
 |[]=>by simp[dI]
 | (k,x)::r=>by
  have ih:=jf f v r;rw[show dI f v ((k,x)::r)=(if k=f then (k,v)::r else (k,x)::dI f v r) from rfl]
  by_cases hk:k=f
  ·rw[J6 hk,JD,JD];lia
  ·rw[Jx hk,JD,JD];lia
theorem gv.some_of{v:V}(r:gv (some v) o):∃u,o=some u/\RelV v u:=by
 cases o with
 |none=>exact (show False from r).elim
 |some u=>exact⟨u,rfl,r⟩
theorem gv.none_of(r:gv none o):o=none:=by
 cases o with
 |none=>rfl
 |some u=>exact (show False from r).elim
theorem uK{v:V}(r:RelV v u):W.handedIn u=true:=by
 cases v with
 |aG=>cases (show u=Value.none from r);rfl
 |bl b=>cases (show u=Value.bool b from r);rfl
 |int i=>obtain⟨t,e⟩:=(show ∃t,u=Value.int i t from r);cases e;rfl
 |str x=>obtain⟨t,e⟩:=(show ∃t,u=Value.str x t from r);cases e;rfl
 |q5 b=>obtain⟨t,e⟩:=(show ∃t,u=Value.bytes b t from r);cases e;rfl
 |HG b=>obtain⟨t,e⟩:=(show ∃t,u=Value.float b t from r);cases e;rfl
 |ref a=>cases (show u=Value.ref a from r);rfl
 |ty n=>cases (show u=Value.type n from r);rfl
section
variable {P:Program} {w:World} {H H':Hp} {h h':Heap} {a C dx:Addr} {fs fs':List (Str×V)}
theorem nv(aN:f7 P w H h)(e:H a=some (.ins C dx fs)):∃mA,rW h a dx C mA/\(∀f,gv (fs.lookup f) (mA f))/\PySem.Within mA (fs.map (·.1))/\fs.length<=1000/\H dx=some (.own a):=by
 obtain⟨d,z,ne,ob,mA,n,r,q⟩:=(show bA P w H h a (.ins C dx fs) from aN a _ e);exact⟨mA,⟨ob,n,ne⟩,r,q,z,d⟩
end
structure lI (K:W.Frag) (C:Addr):Prop where
 pg:W.plainGet K C Str.empty=true
 hd:W.hasDictIn K C=true
 po:W.plainOver K C=true
 sa:W.findIn K (.ref C) "__setattr__"=some (some (.builtin "object.__setattr__"))
theorem lI.get(c:lI K C)(f:Str):W.plainGet K C f=true:=c.pg
noncomputable def bN(K:W.Frag)(C:Addr)(f:Str):Prop:=W.findIn K (.ref C) f=some none
theorem bN.GB{f:Str}(n:bN K C f):W.takerIn K C f=some none:=by
 unfold W.takerIn;rw[show W.findIn K (.ref C) f=some none from n];rfl
structure Meth (K:W.Frag) (C:Addr) (m:Str) (f:Addr):Prop where
 at_:W.findIn K (.ref C) m=some (some (.ref f))
 fn:W.isFn K (.ref f)=true
 kp:W.keepIn K (.ref f)=true
section
variable {X:Cx} {pins:List (Addr×Obj)} {σ:St} {H:Hp} {s:Shared} {a C dx:Addr} {fs:List (Str×V)} {f:Str} {v:V} {A:Around} {E:Value->Shared->Prop}
theorem rC{b:Bool}(I:Inv X pins σ H s)(e:H a=some (.ins C dx fs))(c:lI X.K C)(n:bN X.K C f)(l:fs.lookup f=some v)
  (h:∀u s',Inv X pins σ H s'->RelV v u->Q u s'):wpAny (model X.prog X.w) A (getAttr (.ref a) f b) Q E s:=by
 obtain⟨mA,O,r,_,_,_⟩:=nv I.aN e;obtain⟨u,hu,ru⟩:=gv.some_of (v:=v) (o:=mA f) (by rw[<- l];exact r f)
 exact get_map I.iA O (c.get f) c.hd n hu (uK ru) (h u _ (I.tok _) ru)
theorem j_{m:Str}{g:Addr}{Q:Value×List Value->Shared->Prop}(I:Inv X pins σ H s)(e:H a=some (.ins C dx fs))(c:lI X.K C)(k:Meth X.K C m g)(l:fs.lookup m=none)
  (h:Q (.ref g,[.ref a]) s):wpAny (model X.prog X.w) A (getMethod (.ref a) m pl) Q E s:=by
 obtain⟨mA,O,r,_,_,_⟩:=nv I.aN e;have hn:mA m=none:=gv.none_of (by rw[<- l];exact r m)
 exact yv I.iA O (c.get m) k.at_ k.fn hn h
theorem rE{y:V}{Q:Unit->Shared->Prop}(I:Inv X pins σ H s)(e:H a=some (.ins C dx fs))(c:lI X.K C)(n:bN X.K C f)(hl:fs.length<1000)(ry:RelV y u)
  (h:∀s',Inv X pins σ (upd H a (.ins C dx (dI f y fs))) s'->Q () s'):wpAny (model X.prog X.w) A (setAttr (.ref a) f u) Q E s:=by
 obtain⟨mA,O,r,wi,_,ho⟩:=nv I.aN e;have hz:(fs.map (·.1)).length<=sizeLine:=by rw[Jt,K_];lia
 refine Cb I.iA O c.sa c.po n.GB c.hd wi hz λh' O' sb=>h _ ?_;have hd:∃o,h'.get? dx=some o:=let ⟨o,_,_,e',_⟩:=O'.ns;⟨o,e'⟩
 refine I.write (x:=a) (e:=dx) (by rw[e];exact True.intro) (.inr ho) (λb q hb z=>(sb.2 b hb).trans z) hd ?_
 refine⟨by rw[ar O.ne];exact ho,?_,O.ne,O'.obj,_,O'.ns,λg=>?_,λg hg=>?_⟩
 ·have:=jf f y fs;lia
 ·show gv ((dI f y fs).lookup g) (if g=f then some u else mA g)
  rw[ji];by_cases q:g=f
  ·rw[J6 q,J6 q];exact ry
  ·rw[Jx q,Jx q];exact r g
 ·by_cases q:g=f
  ·rw[q];exact (iT f y fs).1
  ·refine (iT f y fs).2 g (wi g λz=>hg ?_);show (if g=f then some u else mA g)=none
   rw[Jx q];exact z
theorem Inv.made(I:Inv X pins σ H s):Inv X pins σ (upd (upd H s.heap.objs.size (.own (s.heap.objs.size+1))) (s.heap.objs.size+1) (.ins C s.heap.objs.size []))
  {s with heap:=(s.heap.push W.emptyDict).push (W.instObj C s.heap.objs.size)}:=by
 have e1:(s.heap.push W.emptyDict).get? s.heap.objs.size=some W.emptyDict:=JH s.heap rfl;have e2:((s.heap.push W.emptyDict).push (W.instObj C s.heap.objs.size)).get? (s.heap.objs.size+1)=some (W.instObj C s.heap.objs.size):=by
  have:=JH (s.heap.push W.emptyDict) (o:=W.instObj C s.heap.objs.size) rfl
  rwa [KQ] at this
 have e3:(s.heap.push W.emptyDict).Ns s.heap.objs.size (λ_=>none):=⟨W.emptyDict,#[],_,e1,rfl,(λe he=>absurd he (by simp)),λ_=>rfl⟩
 have I1:=I.laid (a:=s.heap.objs.size) (o:=.own (s.heap.objs.size+1)) (h':=s.heap.push W.emptyDict) (t':=s.toks) (λb u q=>Jw _ q) (J7 _) ⟨_,e1⟩;refine I1.laid (a:=s.heap.objs.size+1) (o:=.ins C s.heap.objs.size []) (t':=s.toks) (λb u q=>Jw _ q) (N9 (KQ _ _)) ?_;have ne:s.heap.objs.size≠s.heap.objs.size+1:=JS (L_ _);refine⟨by rw[ar ne,aa],JL _,ne,e2,λ_=>none,(Heap.Ns1.of_empty e3).at λo q=>Jw _ q,λ_=>True.intro,λy hy=>absurd rfl hy⟩
theorem BP{prog:Program}{env:Env}{f:Str}{pos:Pos}{s:Shared}(hb:attributeBase e f env (eval e env)=eval e env)
  (h:wpAny (model prog w) A (eval e env) (λo s₁=>wpAny (model prog w) A (getAttr o f true) Q E s₁) E s):wpAny (model prog w) A (eval (.Attribute e f pos) env) Q E s:=
 Attribute_any_ h (by rw[arm_eval_Attribute,hb])
end
noncomputable def yk(K:W.Frag)(ta:TE)(f:Str):TE:=λσ H Q=>ta σ H λx H1=>∃a C dx fs v,x=.ref a/\H1 a=some (.ins C dx fs)/\lI K C/\bN K C f/\fs.lookup f=some v/\Q v H1
noncomputable def yR(K:W.Frag)(ta tv:TE)(f:Str):TS:=λD σ H=>tv σ H λy H1=>ta σ H1 λx H2=>∃a C dx fs,x=.ref a/\H2 a=some (.ins C dx fs)/\lI K C/\bN K C f/\fs.length<1000 /\
 D.nx σ (upd H2 a (.ins C dx (dI f y fs)))
section
variable {X:Cx} {o e value:Expr} {f:Str} {pos pos' tpos:Pos} {ta tv:TE}
theorem ES(he:PE X e ta)(hb:attributeBase e f X.env (eval e X.env)=eval e X.env):PE X (.Attribute e f pos) (yk X.K ta f):=by
 intro pins s σ H Q I h;refine BP hb (bR (he pins s σ H _ I h) λu s1 hq40=>?_);obtain⟨x,H1,I1,rx,a,C,dx,fs,v,ex,ea,c,n,l,q⟩:=hq40;subst ex;obtain rfl:u=Value.ref a:=rx;exact rC I1 ea c n l λu' s2 I2 ru=>⟨v,H1,I2,ru,q⟩
theorem DF(ha:PE X o ta)(hv:PE X value tv)(hs:swapsWith value (some (.Attribute o f pos')) pos.line X.env=pure false):PS X (.Assign [.Attribute o f pos'] value pos) (yR X.K ta tv f):=by
 intro pins s σ H D I h;refine plainObj_wpAny_Assign_Attribute (bR (hv pins s σ H _ I h) λu s1 ⟨y,H1,I1,ry,q⟩=>bR (ha pins s1 σ H1 _ I1 q) λov s2 hq42=>?_) hs;obtain⟨x,H2,I2,rx,a,C,dx,fs,ex,ea,c,n,l,q2⟩:=hq42;subst ex;obtain rfl:ov=Value.ref a:=rx;exact rE I2 ea c n l ry λs3 I3=>⟨σ,_,I3,q2⟩
end
structure b9 (k:Nat) (A:Around):Prop where
 hd:A.handled=none
 dp:A.depth+3*k+5<recursionLimit
 un:A.units+16*k+200<cLine
 gd:A.guards=some []
theorem b9.mono{k:Nat}{A:Around}(r:b9 k A)(h:j<=k):b9 j A:=⟨r.hd,by have:=r.dp;lia,by have:=r.un;lia,r.gd⟩
theorem b9.deeper{k:Nat}{A:Around}(r:b9 (k+1) A)(env:Env):b9 k (A.deeper env):=
 ⟨r.hd,by have:=r.dp;show A.depth+1+3*k+5<_;lia,by have:=r.un;show A.units+3+16*k+200<_;lia,r.gd⟩
theorem b9.in1{k:Nat}{A:Around}(r:b9 (k+1) A):b9 k A.in1:=
 ⟨r.hd,by have:=r.dp;show A.depth+3*k+5<_;lia,by have:=r.un;show A.units+1+16*k+200<_;lia,r.gd⟩
theorem rq{A:Around}:(A.under (.builtin "type.__call__" ⟨.ref C::us,kw⟩)).depth=A.depth+1:=by
 first|rfl|simp[Around.under,Code.weight,Code.isCreation,Code.isGuard,Code.isCaller,Code.frames,Code.isFrame,guardIds]
theorem rO{A:Around}:(A.under (.builtin "type.__call__" ⟨.ref C::us,kw⟩)).units=A.units+1:=by
 first|rfl|simp[Around.under,Code.cUnits,Code.frames,Code.isFrame]
theorem b9.make{k:Nat}{A:Around}(r:b9 (k+1) A)(C:Addr)(us:List Value)(kw:List (Str×Value)):b9 k (A.under (.builtin "type.__call__" ⟨.ref C::us,kw⟩)):=
 ⟨r.hd,by have:=r.dp;rw[rq];lia,by have:=r.un;rw[rO];lia,by have h:=r.gd;first|exact h | (simp[Around.under,Code.guards,Code.isGuard,guardIds];exact h)⟩
theorem b9.depth{k:Nat}{A:Around}(r:b9 k A):A.depth<recursionLimit:=by have:=r.dp;lia
theorem b9.units{k:Nat}{A:Around}(r:b9 k A):A.units+64<cLine:=by have:=r.un;lia
noncomputable def nL:TA:=λ_ H Q=>Q [] H
noncomputable def jb(ta:TE)(tr:TA):TA:=λσ H Q=>ta σ H λx H1=>tr σ H1 λxs H2=>Q (x::xs) H2
section
variable {X:Cx} {e:Expr} {es:List Expr} {te:TE} {t:TA} {pos:Pos}
theorem xg:PA X [] nL:=λ_ _ _ _ H Q I h=>Calls.spliced_nil ⟨[],H,I,.nil,h⟩
theorem sv(ha:PE X e te)(hr:PA X es t)(hs:autoParam (starEach (e::es) X.env=(false,eval e X.env)::starEach es X.env) ℜ0):PA X (e::es) (jb te t):=by
 intro pos pins s σ H Q I h;rw[hs];show wpAny _ _ (spliced ((false,eval e X.env)::backTo pos (starEach es X.env))) _ _ s;refine Calls.spliced_cons (bR (ha pins s σ H _ I h) λu s1 hq46=>?_);obtain⟨x,H1,I1,r1,q1⟩:=hq46;exact bR (hr pos pins s1 σ H1 _ I1 q1) λus s2 ⟨xs,H2,I2,r2,q2⟩=>⟨x::xs,H2,I2,.cons r1 r2,q2⟩
noncomputable def wJ(t:TA):TE:=λσ H Q=>t σ H λxs H1=>xs.length<=sizeLine/\∀p,H1 p=none->Q (.ref p) (upd H1 p (.tup xs))
noncomputable def wI(t:TA):TE:=λσ H Q=>t σ H λxs H1=>xs.length<=sizeLine/\∀p,H1 p=none->Q (.ref p) (upd H1 p (.lst xs))
theorem Dt{x1}(h:PA X es t):PE X (.Tuple es x1 pos) (wJ t):=by
 intro pins s σ H Q I hq;refine wpAny_Tuple_spliced (bR (h pos pins s σ H _ I hq) λus s1 ⟨xs,H1,I1,r,z,q⟩=>⟨by rw[<- r.length];exact z,?_⟩)
 have hf:H1 s1.heap.objs.size=none:=I1.aN.fresh (J7 _);refine⟨.ref s1.heap.objs.size,upd H1 s1.heap.objs.size (.tup xs),I1.laid (t':=s1.toks) (λb u e=>Jw _ e) (J7 _) ?_,rfl,q _ hf⟩;exact⟨z,us,r,⟨_,JH _ rfl,rfl,_,rfl,rfl⟩⟩
theorem Ec(h:PA X es t):PE X (.List es pos) (wI t):=by
 intro pins s σ H Q I hq;refine wpAny_List_spliced (bR (h pos pins s σ H _ I hq) λus s1 ⟨xs,H1,I1,r,z,q⟩=>⟨by rw[<- r.length];exact z,?_⟩)
 have hf:H1 s1.heap.objs.size=none:=I1.aN.fresh (J7 _);refine⟨.ref s1.heap.objs.size,upd H1 s1.heap.objs.size (.lst xs),I1.laid (t':=s1.toks) (λb u e=>Jw _ e) (J7 _) ?_,rfl,q _ hf⟩;exact⟨z,us,0,r,JH _ rfl⟩
end
abbrev Sp:=List V->Hp->VK->XK->Prop
abbrev oI:=List Env->Hp->Shared->XK->Value->Shared->Prop
variable{CX:oI}
structure qQ (P:Program) (w:World) (K:W.Frag) (mg:Str->Option Value) (base:Heap) (A:Around) (outer:List Env) (s:Shared) (H:Hp):Prop where
 frames:A.frames=some outer
 mod:Mod K mg base
 bs:∀b o,base.get? b=some o->s.heap.get? b=some o/\H b=none
 sP:base.objs.size<=s.heap.objs.size
 gq:s.heap.FunFrames base outer
 yn:∀b∈jn outer,H b=none
 aN:f7 P w H s.heap
 bare:AllBare s.gens
 tabs:TabsOk K H
noncomputable def CE(outer:List Env)(P:Program)(w:World)(H:Hp)(s:Shared)(Q:VK)(u:Value)(s':Shared):Prop:=
 ∃v H',s'.os=s.os/\AllBare s'.gens/\Un (jn outer) [] H H' s.heap s'.heap/\f7 P w H' s'.heap/\RelV v u/\Q v H'
noncomputable def CR(CX:oI)(outer:List Env)(P:Program)(w:World)(H:Hp)(s:Shared)(Q:VK)(E:XK)(r:Result)(s':Shared):Prop:=
 match r with
 |.ok (.ret u)=>CE outer P w H s Q u s'
 |.ok _=>False
 |.error e=>CX outer H s E e s'
structure bT (P:Program) (w:World) (K:W.Frag) (mg:Str->Option Value) (base:Heap) (CX:oI) (k:Nat) (f:Addr) (fd:FuncData) (ps:List Str) (sp:Sp):Prop where
 len:∀vs H Q E,sp vs H Q E->vs.length=ps.length
 run:∀(A:Around) (outer:List Env) (s:Shared) (H:Hp) (args:Args) (us:List Value) (vs:List V) (Q:VK) (E:XK),b9 k A->qQ P w K mg base A outer s H->BindsTo s fd args (ps.zip us)->Vals vs us->sp vs H Q E ->
  codeAny (model P w) A (.call (.ref f) args) (CR CX outer P w H s Q E) s
theorem bT.mono{k:Nat}{f:Addr}{ps:List Str}{sp:Sp}(F:bT P w K mg base CX j f fd ps sp)(h:j<=k):
  bT P w K mg base CX k f fd ps sp:=⟨F.len,λA outer s H args us vs Q E hr=>F.run A outer s H args us vs Q E (hr.mono h)⟩
theorem qQ.make{A:Around}{s:Shared}(e:qQ P w K mg base A outer s H)(C:Addr)(us:List Value)(kw:List (Str×Value)):
  qQ P w K mg base (A.under (.builtin "type.__call__" ⟨.ref C::us,kw⟩)) outer s H:=⟨by first|exact e.frames | (simpa[Around.under,Code.envs,Code.isFrame,pushEnvs] using e.frames),e.mod,e.bs,e.sP,e.gq,e.yn,e.aN,e.bare,e.tabs⟩
section
variable {X:Cx} {pins:List (Addr×Obj)} {σ:St} {H:Hp} {s s':Shared}
theorem Inv.EC(I:Inv X pins σ H s):qQ X.prog X.w X.K X.mg X.base X.A X.stack s H:=
 ⟨I.ok.frames,I.ok.mod,I.bs,JC I.ok.sP I.sz,I.stack,I.j5,I.aN,I.bare,I.ok.tabs.un I.base⟩
theorem Inv.after{Q:VK}(I:Inv X pins σ H s)(h:CE X.stack X.prog X.w H s Q u s'):EP X pins σ Q u s':=by
 obtain⟨v,H',os,bare,un,aN,r,q⟩:=h;obtain⟨hh,g,d,t,os'⟩:=s';obtain rfl:os'=s.os:=os;exact⟨v,H',I.call (h':=hh) (g':=g) (d':=d) (t':=t) (ch:=[]) un aN bare (λb z=>absurd z (by simp)),r,q⟩
end
noncomputable def la(sp:Sp)(dvs:List V)(E:XK)(t:TA):TE:=λσ H Q=>t σ H λvs H1=>sp (vs++dvs) H1 Q E
noncomputable def qa(C:Addr)(m:Str)(sp:Sp)(dvs:List V)(E:XK)(ta:TE)(t:TA):TE:=λσ H Q=>ta σ H λx H1=>∃a dx fs,x=.ref a/\H1 a=some (.ins C dx fs)/\fs.lookup m=none /\
 t σ H1 λvs H2=>sp (x::(vs++dvs)) H2 Q E
noncomputable def p9(C:Addr)(sp:Sp)(dvs:List V)(E:XK)(t:TA):TE:=λσ H Q=>t σ H λvs H1=>∀x dx,H1 x=none->H1 dx=none->dx≠x ->
 sp (.ref x::(vs++dvs)) (upd (upd H1 dx (.own x)) x (.ins C dx [])) (λv H2=>v=.aG/\Q (.ref x) H2) E
noncomputable def Binds(K:W.Frag)(fd:FuncData)(ps:List Str)(ds:List Value):Prop:=
 ∀(s:Shared) (us:List Value),K.In s.heap->(us++ds).length=ps.length->BindsTo s fd ⟨us,[]⟩ (ps.zip (us++ds))
theorem Binds.all{ps:List Str}(h:∀us:List Value,us.length=ps.length->bindArgs fd ⟨us,[]⟩=pure (ps.zip us)):Binds K fd ps []:=λs us _ hl=>by
 rw[Kq] at hl ⊢;exact .of_eq (h us hl)
noncomputable def Passes(CX:oI)(X:Cx)(E:XK):Prop:=∀(pins:List (Addr×Obj)) (σ:St) (H:Hp) (s:Shared) (e:Value) (s':Shared),Inv X pins σ H s->CX X.stack H s E e s'->X.xe e s'
section
variable {X:Cx} {CX:oI} {k:Nat} {f C:Addr} {fd:FuncData} {ps:List Str} {sp:Sp} {dvs:List V} {ds:List Value} {E:XK} {x m:Str} {p pos apos:Pos} {e o:Expr} {es:List Expr} {ta:TE} {t:TA}
theorem yB{s:Shared}{Q:VK}{vs:List V}(F:bT X.prog X.w X.K X.mg X.base CX k f fd ps sp)(hr:b9 k X.A)(hb:Binds X.K fd ps ds)(hd:Vals dvs ds)(hx:Passes CX X E)
  (I:Inv X pins σ H s) (r:Vals vs us) (h:sp (vs++dvs) H Q E):wpAny (model X.prog X.w) X.A (call (.ref f) us) (EP X pins σ Q) X.xe s:=by
 have r2:Vals (vs++dvs) (us++ds):=r.append hd;have hl:(us++ds).length=ps.length:=by rw[<- r2.length];exact F.len _ _ _ _ h
 refine N0 (NA (F.run X.A X.stack s H ⟨us,[]⟩ (us++ds) (vs++dvs) Q E hr I.EC (hb s us I.iA hl) r2 h) λr s' hq=>?_)
 cases r with
 |error e=>exact hx pins σ H s e s' I hq
 |ok fl =>
  cases fl with
  |ret u=>exact I.after hq
  |next=>exact False.elim hq
  |brk=>exact False.elim hq
  |cont=>exact False.elim hq
theorem A9(F:bT X.prog X.w X.K X.mg X.base CX k f fd ps sp)(hr:b9 k X.A)(hg:Gl X x)(hm:X.mg x=some (.ref f))(hk:W.keepIn X.K (.ref f)=true)(hb:Binds X.K fd ps ds)(hd:Vals dvs ds)(hx:Passes CX X E)
  (ha:PA X (e::es) t) (hdb:autoParam ((x ==("__debug__":Str))=false) ℜ1) (he:autoParam (starEach (e::es) X.env=(false,eval e X.env)::starEach es X.env) ℜ0) (hpl:autoParam ((backTo pos (starEach es X.env)).any (·.1)=false) ℜ0) :
  PE X (.Call (.Name x p) (e::es) [] pos) (la sp dvs E t):=by
 intro pins s σ H Q I h;refine LH (ib I hg hm ?_ hdb);refine Oz (h₀:=X.base) I.ok.mod.tW hk (bR (ha pos pins s σ H _ I h) λus s1 ⟨vs,H1,I1,r,q⟩=>⟨I1.iA,?_⟩) he hpl;exact yB F hr hb hd hx I1 r q
theorem zB{pl:Sem Bool}(he:PE X o ta)(c:lI X.K C)(hm:Meth X.K C m f)(F:bT X.prog X.w X.K X.mg X.base CX k f fd ps sp)(hr:b9 k X.A)(hb:Binds X.K fd ps ds)(hd:Vals dvs ds)(hx:Passes CX X E)
  (ht:autoParam (eval (.Call (.Attribute o m apos) [] [] pos) X.env=(do
   let ov <- eval o X.env
   standAt apos.atName
   let (f,first) <- holding [ov] (getMethod ov m pl)
   callWith pos f first (backTo pos (starEach [] X.env)) (backToKw pos (keywordEach [] X.env)))) ℜ0) :
  PE X (.Call (.Attribute o m apos) [] [] pos) (qa C m sp dvs E ta nL):=by
 intro pins s σ H Q I h;refine W.methodCall_KW (pl:=pl) (bR (he pins s σ H _ I h) λu s1 hq48=>?_) ht;obtain⟨x,H1,I1,rx,a,dx,fs,ex,ea,l,q⟩:=hq48;subst ex;obtain rfl:u=Value.ref a:=rx;refine j_ I1 ea c hm l ?_;exact W.callWith_K0 (first:=[.ref a]) I1.iA hm.kp (yB (us:=[.ref a]) (vs:=[.ref a]) F hr hb hd hx I1 (.cons rfl .nil) q)
structure Mk (K:W.Frag) (C f:Addr):Prop where
 makes:W.makesIn K C=true
 init:W.findIn K (.ref C) "__init__"=some (some (.ref f))
 fn:W.isFn K (.ref f)=true
 kp:W.keepIn K (.ref C)=true
theorem yu{s:Shared}{Q:VK}{vs:List V}(M:Mk X.K C f)(F:bT X.prog X.w X.K X.mg X.base CX k f fd ps sp)(hr:b9 (k+1) X.A)(hb:Binds X.K fd ps ds)(hd:Vals dvs ds)
  (hx:Passes CX X E) (I:Inv X pins σ H s) (r:Vals vs us)
  (h:∀x dx,H x=none->H dx=none->dx≠x->sp (.ref x::(vs++dvs)) (upd (upd H dx (.own x)) x (.ins C dx [])) (λv H2=>v=.aG/\Q (.ref x) H2) E) :
  wpAny (model X.prog X.w) X.A (call (.ref C) us) (EP X pins σ Q) X.xe s:=by
 have hq:=h (s.heap.objs.size+1) s.heap.objs.size (I.aN.fresh (Lg _)) (I.aN.fresh (J7 _)) (JS (L_ _));have I2:=Inv.made (C:=C) I;have r2:Vals (V.ref (s.heap.objs.size+1)::(vs++dvs)) (Value.ref (s.heap.objs.size+1)::(us++ds)):=.cons rfl (r.append hd);have hl:(Value.ref (s.heap.objs.size+1)::us++ds).length=ps.length:=by
  have e:=r2.length;rw[F.len _ _ _ _ hq] at e;exact e.symm
 refine N0 (wF (f:=f) I.iA M.makes M.init (LG.mp M.fn) (NA (F.run _ X.stack _ _ ⟨Value.ref (s.heap.objs.size+1)::us,[]⟩ (Value.ref (s.heap.objs.size+1)::(us++ds)) _ _ E (hr.make C us [])
  (I2.EC.make C us []) (hb _ (Value.ref (s.heap.objs.size+1)::us) I2.iA hl) r2 hq) λr s' hq'=>?_))
 cases r with
 |error e=>exact hx pins σ _ _ e s' I2 hq'
 |ok fl =>
  cases fl with
  |ret u =>
   obtain⟨v,H',I3,rv,ev,q3⟩:=I2.after hq';subst ev;exact⟨rv,⟨V.ref (s.heap.objs.size+1),H',I3,rfl,q3⟩⟩
  |next=>exact False.elim hq'
  |brk=>exact False.elim hq'
  |cont=>exact False.elim hq'
theorem Ck(M:Mk X.K C f)(F:bT X.prog X.w X.K X.mg X.base CX k f fd ps sp)(hr:b9 (k+1) X.A)(hg:Gl X x)(hm:X.mg x=some (.ref C))(hb:Binds X.K fd ps ds)(hd:Vals dvs ds)(hx:Passes CX X E)
  (ha:PA X (e::es) t) (hdb:autoParam ((x ==("__debug__":Str))=false) ℜ1) (he:autoParam (starEach (e::es) X.env=(false,eval e X.env)::starEach es X.env) ℜ0) (hpl:autoParam ((backTo pos (starEach es X.env)).any (·.1)=false) ℜ0) :
  PE X (.Call (.Name x p) (e::es) [] pos) (p9 C sp dvs E t):=by
 intro pins s σ H Q I h;refine LH (ib I hg hm ?_ hdb);refine Oz (h₀:=X.base) I.ok.mod.tW M.kp (bR (ha pos pins s σ H _ I h) λus s1 ⟨vs,H1,I1,r,q⟩=>⟨I1.iA,?_⟩) he hpl;exact yu M F hr hb hd hx I1 r q
end
noncomputable def PK(X:Cx)(kws:List Keyword)(t:TA):Prop:=
 ∀(pos:Pos) (pins:List (Addr×Obj)) (s:Shared) (σ:St) (H:Hp) (Q:List V->Hp->Prop),Inv X pins σ H s->t σ H Q->wpAny (model X.prog X.w) X.A (evalAll ((backToKw pos (keywordEach kws X.env)).map (·.2))) (AP X pins σ Q) X.xe s
section
variable {X:Cx} {CX:oI} {k:Nat} {f C:Addr} {fd:FuncData} {ps ks:List Str} {sp:Sp} {E:XK} {x m:Str} {p pos apos kpos:Pos} {e o:Expr} {es:List Expr} {kws:List Keyword} {te ta:TE} {t tk:TA} {nm:Option Str}
theorem Ef:PK X [] nL:=λ_ _ _ _ H Q I h=>wpAny_evalAll_nil ⟨[],H,I,.nil,h⟩
theorem B_(ha:PE X e te)(hr:PK X kws t):PK X (⟨nm,e,kpos⟩::kws) (jb te t):=by
 intro pos pins s σ H Q I h;show wpAny _ _ (evalAll ((do let v <- eval e X.env;standAt pos;pure v)::(backToKw pos (keywordEach kws X.env)).map (·.2))) _ _ s
 refine wpAny_evalAll_cons (Js (bR (ha pins s σ H _ I h) λu s1 ⟨x,H1,I1,r1,q1⟩=>Js (Nm (Jz ?_))));exact bR (hr pos pins s1 σ H1 _ I1 q1) λus s2 ⟨xs,H2,I2,r2,q2⟩=>⟨x::xs,H2,I2,.cons r1 r2,q2⟩
variable {g:List Value->List Value->List Value} {gV:List V->List V->List V}
end
structure av (N P:List Str) (sc:Scope):Prop where
 kind:sc.kind=.function
 co:sc.isCoroutine=false
 gen:sc.isGenerator=false
 nd:N.Nodup
 pre:N.take P.length=P
 par:∀x∈P,sc.names.lookup x=some .local\/sc.names.lookup x=some .cell
 Fe:∀y∈sc.names,y.2≠.free
theorem mU:∀{binds:List (Str×Value)} {m:Str->Option Value},(∀v,(x,v)∉binds)->bindL kindOf binds m x=m x
 |[],_,_=>rfl
 | (n,v)::r,m,h=>by
  unfold bindL;rw[mU λw hw=>h w (J8 _ hw)];split
  ·have:x≠n:=by rintro rfl;exact h v J9
   simp[this]
  ·rfl
theorem nj:∀{binds:List (Str×Value)} {m:Str->Option Value},(∀v,(x,v)∉binds)->bindC kindOf binds m x=m x
 |[],_,_=>rfl
 | (n,v)::r,m,h=>by
  unfold bindC;rw[nj λw hw=>h w (J8 _ hw)];split
  ·rfl
  ·have:x≠n:=by rintro rfl;exact h v J9
   simp[this]
theorem mO{v:Value}:∀{P:List Str} {vs:List Value} {i:Nat} {m:Str->Option Value},P.Nodup->P[i]?=some x->vs[i]?=some v->kindOf x=some .local ->
  bindL kindOf (P.zip vs) m x=some v
 |[],_,_,_,_,h,_,_=>by simp at h
 |_::_,[],_,_,_,_,h,_=>by simp at h
 |p::P,w::vs,0,m,nd,h1,h2,hk=>by
  simp at h1 h2;subst h1;subst h2;show bindL kindOf ((p,w)::P.zip vs) m p=_;unfold bindL;rw[mU λv hv=>(KY.mp nd).1 (NP hv).1,J6 hk];simp
 |p::P,w::vs,i+1,m,nd,h1,h2,hk=>by
  show bindL kindOf ((p,w)::P.zip vs) m x=_;unfold bindL;exact mO (i:=i) (KY.mp nd).2 (by simpa using h1) (by simpa using h2) hk
theorem mY{v:Value}:∀{P:List Str} {vs:List Value} {i:Nat} {m:Str->Option Value},P.Nodup->P[i]?=some x->vs[i]?=some v->kindOf x≠some .local ->
  bindC kindOf (P.zip vs) m x=some v
 |[],_,_,_,_,h,_,_=>by simp at h
 |_::_,[],_,_,_,_,h,_=>by simp at h
 |p::P,w::vs,0,m,nd,h1,h2,hk=>by
  simp at h1 h2;subst h1;subst h2;show bindC kindOf ((p,w)::P.zip vs) m p=_;unfold bindC;rw[nj λv hv=>(KY.mp nd).1 (NP hv).1,Jx hk];simp
 |p::P,w::vs,i+1,m,nd,h1,h2,hk=>by
  show bindC kindOf ((p,w)::P.zip vs) m x=_;unfold bindC;exact mY (i:=i) (KY.mp nd).2 (by simpa using h1) (by simpa using h2) hk
noncomputable def start(N:List Str)(vs:List V):St:=vs.map some++List.replicate (N.length-vs.length) none
noncomputable def fE(CX:oI)(P:Program)(w:World)(K:W.Frag)(mg:Str->Option Value)(base:Heap)(N:List Str)(qual:Str)(scope:Scope)(f:Addr)(cd:Value)(A:Around)(outer:List Env)(s:Shared)(H:Hp)(E:XK):Cx where
 prog:=P
 w:=w
 K:=K
 mg:=mg
 base:=base
 A:=A.deeper (envOfC qual scope s.heap.objs.size f cd)
 N:=N
 s₀:=s
 H₀:=H
 env:=envOfC qual scope s.heap.objs.size f cd
 outer:=outer
 stack:=envOfC qual scope s.heap.objs.size f cd::outer
 ex:=[]
 calm:=true
 fn:=λ_=>true
 pn:=[]
 xe:=λe s'=>wpAny (model P w) (A.deeper (envOfC qual scope s.heap.objs.size f cd)) (leaving (envOfC qual scope s.heap.objs.size f cd) e) (λ_ s''=>CX outer H s E e s'') (λe' s''=>CX outer H s E e' s'') s'
theorem oU{sc:Scope}{n:Nat}(h:sc.names.lookup x=some .cell):∃c,(cellsFrom n sc.names []).lookup x=some c:=by
 have q:=W.cellsFrom_some sc.names n [] (.inl h);exact NB.mp q
theorem uF{ps:List Str}{qual:Str}{f:Addr}{cd:Value}{A:Around}{s s1:Shared}{E:XK}{vs:List V}
  (S:av N ps scope) (hd:A.handled=none) (e0:qQ P w K mg base A outer s H) (hl:vs.length=ps.length) (r:Vals vs us)
  (x:InCallC s s.heap.objs.size (bindL (envOfC qual scope s.heap.objs.size f cd).kindOf (ps.zip us) λ_=>none) (cellsFrom (s.heap.objs.size+1) scope.names []) (bindC (envOfC qual scope s.heap.objs.size f cd).kindOf (ps.zip us) λ_=>none) s1) :
  Inv (fE CX P w K mg base N qual scope f cd A outer s H E) [] (start N vs) H s1:=by
 have hpl:ps.length<=N.length:=by have:=Kk List.length S.pre;rw[JK] at this;lia
 obtain⟨h1,tk,rfl,hk⟩:=x.done;have noA:∀b:Addr,b∉(fE CX P w K mg base N qual scope f cd A outer s H E).ex:=λb z=>absurd (show b∈([]:List Addr) from z) (by simp)
 refine⟨⟨e0.mod,S.kind,rfl,rfl,J7 _,λy z c h1 h2=>?_,λy hy=>?_,λy c _ h=>?_,λ_=>hd,Around.frames_deeper e0.frames,.inr ⟨rfl,rfl⟩,λb z=>absurd z (noA b),e0.bs,e0.sP,λb _ _=>noA b,λb z=>absurd z (noA b),e0.gq,e0.yn,e0.tabs⟩,
  rfl,e0.bare,Un.kept hk,⟨_,x.toInCall.ns,λi y v h1 h2 h3=>?_⟩,λy c h=>⟨_,x.cell y c h⟩,e0.aN.fresh (J7 _),λy c h=>?_,λp hp=>absurd (show p∈([]:List (Addr×Obj)) from hp) (by simp),e0.aN.kept hk,?_⟩
 ·exact name_of_addr x.apart (PySem.mem_of_lookup h1) (PySem.mem_of_lookup h2)
 ·have hy:scope.names.lookup y=some .cell\/scope.names.lookup y=some .free:=hy;rcases hy with hy|hy
  ·exact oU hy
  ·exact absurd rfl (S.Fe _ (PySem.mem_of_lookup hy))
 ·exact L3 (x.above y c (PySem.mem_of_lookup h))
 ·have hi:i<vs.length:=by
   unfold start at h2;by_cases hi:i<vs.length
   ·exact hi
   ·rw[JO (by simpa using hi)] at h2
    rw[NK] at h2
    split at h2<;>cases h2
  have ha:vs[i]?=some v:=by
   unfold start at h2;rw[JU (by simpa using hi),JA] at h2
   cases e:vs[i]? with
   |none=>rw[e] at h2;cases h2
   |some a=>rw[e] at h2;cases h2;rfl
  obtain⟨u,hu,rv⟩:=r.get ha;have hp:ps[i]?=some y:=by
   rw[<- S.pre,NC (by lia)];exact h1
  have ndP:ps.Nodup:=by rw[<- S.pre];exact S.nd.sublist (List.take_sublist _ _)
  refine⟨u,rv,?_⟩;rcases S.par y (K2 hp) with k|k
  ·exact .inl ⟨k,mO ndP hp hu k⟩
  ·obtain⟨c,e⟩:=oU (n:=s.heap.objs.size+1) k;refine .inr ⟨.inl k,c,e,?_⟩;have q:=x.cell y c e;rw[mY ndP hp hu (by show scope.names.lookup y≠_;rw[k];decide)] at q
   exact q
 ·exact e0.aN.fresh (L3 (x.above y c (PySem.mem_of_lookup h)))
 ·unfold start;show _=N.length;rw[Ju,Jt,JJ];lia
theorem x9{k:Nat}{f:Addr}{name qual:Str}{params:Arguments}{dV kV doc pm cdv ct oc:Value}{an od:Option Addr}
  {osl:Array (Option Value)} {ps:List Str} {sp:Sp} (lk:K.lookup f=some ⟨oc,od,.func (W.fnOf name qual params body scope dV kV doc pm an cdv ct),osl⟩) (eY:W.codeIn K cdv qual=true) (S:av N ps scope)
  (len:∀vs H Q E,sp vs H Q E->vs.length=ps.length)
  (hbody:∀(A:Around) (outer:List Env) (s:Shared) (H:Hp) (vs:List V) (Q:VK) (E:XK),b9 k (A.deeper (envOfC qual scope s.heap.objs.size f cdv))->sp vs H Q E ->
   ∃t,rD (fE CX P w K mg base N qual scope f cdv A outer s H E) body t/\t {nx:=λ_ H'=>Q .aG H',rt:=Q} (start N vs) H) :
  bT P w K mg base CX (k+1) f (W.fnOf name qual params body scope dV kV doc pm an cdv ct) ps sp:=by
 refine⟨len,λA outer s H args us vs Q E hr e0 hb r lS=>?_⟩;have hl:=len _ _ _ _ lS;have KX:K.In s.heap:=e0.mod.tW.keeps λb o e=>(e0.bs b o e).1;have lim:s.heap.NoLimit:=e0.mod.nolimit.keeps λb o e=>(e0.bs b o e).1;have hkind:∀y∈ps.zip us,scope.names.lookup y.1=some .local\/(scope.names.lookup y.1=some .cell/\((cellsFrom (s.heap.objs.size+1) scope.names []).lookup y.1).isSome=true):=λ⟨n,v⟩ hy=>by
  rcases S.par n (NP hy).1 with q|q
  ·exact .inl q
  ·exact .inr ⟨q,W.cellsFrom_some _ _ _ (.inl q)⟩
 refine codeAny_call_function hr.depth (KX _ _ lk) rfl S.co S.gen rfl (W.codeRec_of KX eY) (hb _ _ _ _ ?_);refine wpAny_newFunctionEnv_cells S.kind hkind λenv he s1 x=>?_;subst he;refine⟨lim.keeps x.toInCall.keep,codeAny_func ?_⟩;obtain⟨t,ht,hq⟩:=hbody A outer s H vs Q E (hr.deeper _) lS;have I:Inv (fE CX P w K mg base N qual scope f cdv A outer s H E) [] (start N vs) H s1:=uF S hr.hd e0 hl r x;refine Km (ht [] s1 (start N vs) H _ I hq) (λfl s' hs=>?_) λe s' hs=>hs;have fin:∀{σ':St} {H':Hp} {v:V} {u:Value},Inv (fE CX P w K mg base N qual scope f cdv A outer s H E) [] σ' H' s'->RelV v u->Q v H'->CE outer P w H s Q u s':=
  λ{σ' H' v u} J rv q=>⟨v,H',J.os,J.bare,J.base,J.aN,rv,q⟩
 cases fl with
 |ret u =>
  obtain⟨v,σ',H',J,rv,q⟩:=hs;exact fin J rv q
 |next =>
  obtain⟨σ',H',J,q⟩:=hs;exact fin (v:=V.aG) (u:=Value.none) J rfl q
 |brk =>
  obtain⟨_,_,_,q⟩:=hs;exact False.elim q
 |cont =>
  obtain⟨_,_,_,q⟩:=hs;exact False.elim q
section
variable {X:Cx} {x:Str} {p pos:Pos} {e:Expr} {es:List Expr} {t:TA} {id T:String} {r:List V->Hp->VK->Prop}
noncomputable def Ar(r:List V->Hp->VK->Prop)(t:TA):TE:=λσ H Q=>t σ H λvs H1=>r vs H1 Q
theorem yo(hc:a_ X (.builtin id) r)(hg:Gl X x)(hm:X.mg x=none)(hv:bootBuiltins x=some (.builtin id))(ha:PA X (e::es) t)(hn:autoParam (x≠"__name__") ℜ1)(hdb:autoParam ((x ==("__debug__":Str))=false) ℜ1)
  (he:autoParam (starEach (e::es) X.env=(false,eval e X.env)::starEach es X.env) ℜ0) (hpl:autoParam ((backTo pos (starEach es X.env)).any (·.1)=false) ℜ0):PE X (.Call (.Name x p) (e::es) [] pos) (Ar r t):=by
 intro pins s σ H Q I h;refine LH (fN I hg hm hv ?_ hn hdb);exact PyProof.Rows.callWith_builtin1 (bR (ha pos pins s σ H _ I h) λus s1 ⟨vs,H1,I1,r1,q1⟩=>hc pins s1 σ H1 vs us Q I1 r1 q1) he hpl
theorem uI(hc:a_ X (.type T) r)(hg:Gl X x)(hm:X.mg x=none)(hv:bootBuiltins x=some (.type T))(ha:PA X (e::es) t)(hn:autoParam (x≠"__name__") ℜ1)(hdb:autoParam ((x ==("__debug__":Str))=false) ℜ1)
  (he:autoParam (starEach (e::es) X.env=(false,eval e X.env)::starEach es X.env) ℜ0) (hpl:autoParam ((backTo pos (starEach es X.env)).any (·.1)=false) ℜ0):PE X (.Call (.Name x p) (e::es) [] pos) (Ar r t):=by
 intro pins s σ H Q I h;refine LH (fN I hg hm hv ?_ hn hdb);exact KW (bR (ha pos pins s σ H _ I h) λus s1 ⟨vs,H1,I1,r1,q1⟩=>hc pins s1 σ H1 vs us Q I1 r1 q1) he hpl
end
end L2
namespace HT
open PySem PyProof.Rows
section
variable {prog:Program} {w:World} {A:Around} {E:Value->Shared->Prop} {s:Shared}
theorem A7{t b:Addr}{vs ws:List Value}{Q:Value->Shared->Prop}(ht:IsTup s.heap t vs.toArray)(hb:IsTup s.heap b ws.toArray)(hv:vs≠[])
  (h1:ws=[]->Q (.ref t) s) (h2:ws≠[]->Q (.ref s.heap.objs.size) {s with heap:=s.heap.push {cls:=.type "tuple",data:=.seq (vs++ws).toArray}})
  (hsz:vs.length+ws.length<=sizeLine):wpAny (model prog w) A (binaryOp .Add (.ref t) (.ref b)) Q E s:=by
 obtain⟨⟨cls,dd,data,sl⟩,ho,hc,n,hd⟩:=id ht;obtain⟨⟨cls2,dd2,data2,sl2⟩,ho2,hc2,n2,hd2⟩:=id hb;simp only at hc hd hc2 hd2;subst hc hd hc2 hd2;have e:vs.toArray++ws.toArray=(vs++ws).toArray:=by simp
 by_cases hw:ws=[]
 ·exact concat_meets ⟨_,ho,rfl⟩ ⟨_,ho2,rfl⟩ noFill_tuple_add seq_tuple_add PySem.F.slot_tuple_add PySem.F.entry_tuple_add (PySem.F.args_tuple_add_2 _ _)
   (tuple_addW1 t b vs.toArray ws.toArray n n2 dd dd2 sl sl2 (by simpa using hv) (by simp[hw])) ⟨ho,ho2,h1 hw⟩
 ·refine concat_meets ⟨_,ho,rfl⟩ ⟨_,ho2,rfl⟩ noFill_tuple_add seq_tuple_add PySem.F.slot_tuple_add PySem.F.entry_tuple_add (PySem.F.args_tuple_add_2 _ _)
   (tuple_addW2 t b vs.toArray ws.toArray n n2 dd dd2 sl sl2 (by simpa using hv) (by simpa using hw) (by rw[List.size_toArray,List.size_toArray];exact hsz)) ⟨ho,ho2,?_⟩
  rw[e];exact h2 hw
noncomputable def bD(n d:Nat):Option Int->Nat
 |none=>d
 |some v=>if v<0 then (v+(n:Int)).toNat else min v.toNat n
theorem dH(n d:Nat):bD n d none=d:=rfl
theorem fo(n d k:Nat):bD n d (some (k:Int))=min k n:=by
 show (if (k:Int)<0 then ((k:Int)+(n:Int)).toNat else min (k:Int).toNat n)=min k n
 rw[if_neg (by lia),Int.toNat_natCast]
theorem rP(n d:Nat)(hd:d<=n)(o:Option Int):bD n d o<=n:=by
 cases o with
 |none=>exact hd
 |some v =>
  show (if v<0 then (v+(n:Int)).toNat else min v.toNat n)<=n
  by_cases hv:v<0
  ·rw[if_pos hv];lia
  ·rw[if_neg hv];exact Nat.min_le_right _ _
theorem tH(v:Int)(n d:Nat):(if v<0 then max (v+(n:Int)) 0 else min v (n:Int))=((bD n d (some v):Nat):Int):=by
 show (if v<0 then max (v+(n:Int)) 0 else min v (n:Int))=(((if v<0 then (v+(n:Int)).toNat else min v.toNat n):Nat):Int)
 by_cases hv:v<0
 ·simp only[if_pos hv];lia
 ·simp only[if_neg hv];lia
theorem sh(lo hi:Option Int)(n:Nat):Builtin.Slice.sliceAdjust lo hi 1 (n:Int)=(((bD n 0 lo:Nat):Int),((bD n n hi:Nat):Int)):=by
 have h1:¬ ((1:Int)<0):=by lia
 unfold Builtin.Slice.sliceAdjust;simp only[h1,if_false];refine Prod.ext ?_ ?_
 ·cases lo with
  |none=>rfl
  |some v=>exact tH v n 0
 ·cases hi with
  |none=>rfl
  |some v=>exact tH v n n
theorem rN(i j:Nat):Builtin.Slice.slicePlaces (i:Int) (j:Int) 1=j-i:=by
 unfold Builtin.Slice.slicePlaces;have h1:(1:Int) > 0:=by lia
 simp only[h1,if_true,Int.ediv_one]
 split<;>lia
theorem kQ{v:Value}{o:Option Int}{Q:Option Int->Shared->Prop}(p:IsPart v o)(h:Q o s):wpAny (model prog w) A (Builtin.Slice.slicePartIndex v) Q E s:=by
 cases p with
 |none=>exact slicePart_none h
 |int i t=>exact slicePart_int h
theorem eR{sl:Addr}{vl vu:Value}{lo hi:Option Int}{n:Nat}{Q:Int×Int×Nat->Shared->Prop}(hs:s.heap.IsSliceOf sl vl vu .none)(pl:IsPart vl lo)(pu:IsPart vu hi)
  (h:Q (((bD n 0 lo:Nat):Int),1,bD n n hi-bD n 0 lo) s):wpAny (model prog w) A (Builtin.Slice.sliceApplied (.ref sl) (pure (n:Int))) Q E s:=by
 obtain⟨os,hos,hcs,sy⟩:=id hs;unfold Builtin.Slice.sliceApplied Builtin.Slice.sliceFields;refine wpAny_bind (wpAny_bind (wpAny_field hos sy (x:=vl) rfl (wpAny_bind (wpAny_field hos sy (x:=vu) rfl (wpAny_bind (wpAny_field hos sy (x:=.none) rfl (wpAny_pure ?_)))))));refine wpAny_bind (slicePart_none ?_);show wpAny _ _ (if ((1:Int) == 0)=true then _ else _) _ _ s
 rw[if_neg (by decide)]
 refine wpAny_bind (kQ pl (wpAny_bind (kQ pu (wpAny_bind (wpAny_pure ?_)))));show wpAny _ _ (match Builtin.Slice.sliceAdjust lo hi 1 (n:Int) with | (lo,hi)=>pure (lo,(1:Int),Builtin.Slice.slicePlaces lo hi 1)) _ _ s
 rw[sh lo hi n];show wpAny _ _ (pure (((bD n 0 lo:Nat):Int),(1:Int),Builtin.Slice.slicePlaces ((bD n 0 lo:Nat):Int) ((bD n n hi:Nat):Int) 1)) _ _ s;rw[rN];exact wpAny_pure h
theorem yq(xs:Array Value)(i k:Nat):((List.range k).filterMap λ(m:Nat)=>xs[((i:Int)+(m:Int)*1).toNat]?).toArray=((xs.toList.drop i).take k).toArray:=by
 have e:(λ(m:Nat)=>xs[((i:Int)+(m:Int)*1).toNat]?)=λm=>xs[i+m]?:=by
  funext m
  have:((i:Int)+(m:Int)*1).toNat=i+m:=by lia
  rw[this]
 rw[e];have:=pick_run xs i k;rw[List.filterMap_map] at this;have e2:((λx=>xs[x]?) ∘ λx=>i+x)=λm=>xs[i+m]?:=rfl;rw[e2] at this;rw[this]
theorem ij{t sl:Addr}{items:Array Value}{vl vu:Value}{lo hi:Option Int}{Q:Value->Shared->Prop}(ht:IsTup s.heap t items)(hs:s.heap.IsSliceOf sl vl vu .none)(pl:IsPart vl lo)(pu:IsPart vu hi)
  (hw:¬ (bD items.size 0 lo=0/\bD items.size items.size hi=items.size))
  (h:Q (.ref s.heap.objs.size) {s with heap:=s.heap.push {cls:=.type "tuple",data:=.seq ((items.toList.drop (bD items.size 0 lo)).take (bD items.size items.size hi-bD items.size 0 lo)).toArray}})
  (hsz:items.size<=sizeLine):wpAny (model prog w) A (getItem (.ref t) (.ref sl)) Q E s:=by
 have htake:sizeOk (.seq ((items.toList.drop (bD items.size 0 lo)).take (bD items.size items.size hi-bD items.size 0 lo)).toArray):=by
  show ((items.toList.drop (bD items.size 0 lo)).take (bD items.size items.size hi-bD items.size 0 lo)).toArray.size<=sizeLine;rw[List.size_toArray,List.length_take,List.length_drop,Array.length_toList];exact Nat.le_trans (Nat.min_le_right _ _) (Nat.le_trans (Nat.sub_le _ _) hsz)
 have hj:bD items.size items.size hi<=items.size:=rP _ _ (Nat.le_refl _) hi;obtain⟨os,hos,hcs,sy⟩:=id hs;have hTs:s.TypeIs (.ref sl) "slice":=⟨os,hos,hcs⟩;unfold getItem
 try with_reducible refine wpAny_holding ?_
 first|refine wpAny_bind (wpAny_pure ?_)|skip
 refine wpAny_bind (wpAny_sequenceKey ht.typeIs (by decide) ?_)
 refine wpAny_bind (wpAny_callSpecial?_slot (name:=Str.ofString "__getitem__") ht.typeIs PyProof.Rows.slot_tuple_getitem
  (wpAny_call_entry PyProof.Rows.slot_tuple_getitem ht.typeIs entry_tuple_getitem ?_ (args_tuple_getitem _ _)))
 show wpAny _ _ (Builtin.Tuple.tupleItemsOf (.ref t) >>= _) _ _ s;refine wpAny_bind (tupleItemsOf_ ht ?_);refine wpAny_bind (wpAny_typeOf hTs ?_);rw[if_pos (by decide)]
 refine wpAny_bind (eR hs pl pu ?_);have hno:¬ ((((bD items.size 0 lo:Nat):Int) == 0 && (1:Int) == 1 && (bD items.size items.size hi-bD items.size 0 lo) == items.size)=true):=by
  intro q;rw[Bool.and_eq_true,Bool.and_eq_true] at q;have q1:((bD items.size 0 lo:Nat):Int)=0:=eq_of_beq q.1.1;have q2:bD items.size items.size hi-bD items.size 0 lo=items.size:=eq_of_beq q.2;exact hw ⟨by lia,by lia⟩
 show wpAny _ _ (if (((bD items.size 0 lo:Nat):Int) == 0 && (1:Int) == 1 && (bD items.size items.size hi-bD items.size 0 lo) == items.size)=true then _ else _) _ _ s
 rw[if_neg hno,yq]
 first
  |exact wpAny_bind (m:=Builtin.Tuple.tupleExact _) (wpAny_newObj_type (wpAny_pure ⟨_,rfl,wpAny_pure h⟩) htake)
  |exact wpAny_bind (m:=Builtin.Tuple.tupleExact _) (wpAny_newObj_type (wpAny_bind (wpAny_pure (wpAny_pure ⟨_,rfl,wpAny_pure h⟩))) htake)
  |exact wpAny_bind (wpAny_bind (m:=Builtin.Tuple.tupleExact _) (wpAny_newObj_type (wpAny_pure (wpAny_pure ⟨_,rfl,wpAny_pure h⟩)) htake))
  |exact wpAny_bind (wpAny_bind (m:=Builtin.Tuple.tupleExact _) (wpAny_newObj_type (wpAny_pure ⟨_,rfl,wpAny_pure h⟩) htake))
end
end HT
namespace L2
open PySem PySem.Spec PyProof.Rows
variable{r:V->Option Int->Option Int->Hp->VK->Prop}{xs:List V}{its its' us:List Value}{α:Type}{pins:List (Addr×Obj)}{σ:St}{H:Hp}{x y:V}{u:Value}{o:Option V}{P:Program}{w:World}{kvs:List (Key×V)}{Q:Value->Shared->Prop}
abbrev TO:=St->Hp->(Option Int->Hp->Prop)->Prop
noncomputable def PO(X:Cx)(e:Option Expr)(t:TO):Prop:=
 ∀(pins:List (Addr×Obj)) (s:Shared) (σ:St) (H:Hp) (Q:Option Int->Hp->Prop),Inv X pins σ H s->t σ H Q ->
  wpAny (model X.prog X.w) X.A (evalPart e X.env) (λu s'=>∃o H',Inv X pins σ H' s'/\IsPart u o/\Q o H') X.xe s
noncomputable def i5:TO:=λ_ H Q=>Q none H
noncomputable def qm(t:TE):TO:=λσ H Q=>t σ H λx H1=>∃i,x=.int i/\Q (some i) H1
theorem intsAre_of{ns:List Int}:∀{us:List Value},Vals (ns.map V.int) us->IntsAre us ns:=by
 induction ns with
 |nil=>intro us r;rw[LS] at r;cases r;exact .nil
 |cons n ns ih =>
  intro us r;rw[JY] at r
  cases r with
  |cons r1 r2 =>
   obtain⟨t,e⟩:=r1;subst e;exact .cons n t (ih r2)
section
variable {X:Cx} {e:Expr} {te:TE} {lo hi:Option Expr} {tl th:TO} {pos p2:Pos}
theorem A8:PO X none i5:=by
 intro pins s σ H Q I h;rw[evalPart_none];exact Jz ⟨none,H,I,.none,h⟩
theorem AB(h:PE X e te):PO X (some e) (qm te):=by
 intro pins s σ H Q I hw;rw[evalPart_some];refine bR (h pins s σ H _ I hw) λu s1 hq50=>?_;obtain⟨x,H1,I1,r1,q1⟩:=hq50;obtain⟨i,rfl,q⟩:=q1;obtain⟨t,rfl⟩:=r1;exact⟨some i,H1,I1,.int i t,q⟩
noncomputable def sT(X:Cx)(r:V->Option Int->Option Int->Hp->VK->Prop):Prop:=
 ∀(pins:List (Addr×Obj)) (s:Shared) (σ:St) (H:Hp) (x:V) (v vl vu:Value) (lo hi:Option Int) (sl:Addr) (Q:VK),Inv X pins σ H s->RelV x v->s.heap.IsSliceOf sl vl vu .none->IsPart vl lo->IsPart vu hi->r x lo hi H Q ->
  ∃T id,typeLookup (.type T) "__getitem__"=pure (some (.builtin id))/\s.TypeIs v T/\wpAny (model X.prog X.w) X.A (getItem v (.ref sl)) (EP X pins σ Q) X.xe s
theorem sT.or{r':V->Option Int->Option Int->Hp->VK->Prop}(h:sT X r)(h':sT X r'):sT X (λx lo hi H Q=>r x lo hi H Q\/r' x lo hi H Q):=by
 intro pins s σ H x v vl vu lo hi sl Q I rx hs pl pu q;rcases q with q|q
 ·exact h pins s σ H x v vl vu lo hi sl Q I rx hs pl pu q
 ·exact h' pins s σ H x v vl vu lo hi sl Q I rx hs pl pu q
noncomputable def GQ(r:V->Option Int->Option Int->Hp->VK->Prop)(te:TE)(tl th:TO):TE:=λσ H Q=>te σ H λx H1=>tl σ H1 λl H2=>th σ H2 λu H3=>r x l u H3 Q
theorem yP(hr:sT X r)(he:PE X e te)(hl:PO X lo tl)(hu:PO X hi th):PE X (.Subscript e (.Slice lo hi none p2) pos) (GQ r te tl th):=by
 intro pins s σ H Q I h;refine Subscript_ (bR (he pins s σ H _ I h) λv s1 hq51=>?_);obtain⟨x,H1,I1,r1,q1⟩:=hq51;refine wpAny_Slice (bR (hl pins s1 σ H1 _ I1 q1) λvl s2 ⟨l,H2,I2,pl,q2⟩=>bR (hu pins s2 σ H2 _ I2 q2) λvu s3 hq52=>?_);obtain⟨u,H3,I3,pu,q3⟩:=hq52;rw[evalPart_none];refine Jz ?_;have I4:Inv X pins σ H3 {s3 with heap:=s3.heap.push {cls:=.type "slice",data:=.fields #[vl,vu,.none]}}:=I3.kept (t':=s3.toks) λb ob q=>Jw _ q
 obtain⟨T,id,hT,ht,hg⟩:=hr pins {s3 with heap:=s3.heap.push {cls:=.type "slice",data:=.fields #[vl,vu,.none]}} σ H3 x v vl vu l u s3.heap.objs.size Q I4 r1 (Heap.IsSliceOf.new ..) pl pu q3
 show wpAny (model X.prog X.w) X.A (subscriptTail e (.Slice lo hi none p2) v (.ref s3.heap.objs.size)) (EP X pins σ Q) X.xe {s3 with heap:=s3.heap.push {cls:=.type "slice",data:=.fields #[vl,vu,.none]}}
 exact tail_any (ops:=[.ref s3.heap.objs.size,v]) ht hT hg (by with_unfolding_all rfl)
noncomputable def d5(xs:List V)(lo hi:Option Int):List V:=(xs.drop (HT.bD xs.length 0 lo)).take (HT.bD xs.length xs.length hi-HT.bD xs.length 0 lo)
theorem jg(xs:List V)(lo hi:Option Int):(d5 xs lo hi).length<=xs.length:=by
 unfold d5;rw[JK,JW];exact JC (Nat.min_le_right _ _) (Nat.sub_le _ _)
noncomputable def qH(K:W.Frag):V->Option Int->Option Int->Hp->VK->Prop:=λx lo hi H Q=>∃a xs,x=.ref a/\bb K H a xs /\
 ¬ (HT.bD xs.length 0 lo=0/\HT.bD xs.length xs.length hi=xs.length)/\∀p,H p=none->Q (.ref p) (upd H p (.tup (d5 xs lo hi)))
theorem qF:sT X (qH X.K):=by
 intro pins s σ H x v vl vu lo hi sl Q I rx hs pl pu h;obtain⟨a,xs,rfl,hx,hw,q⟩:=h;cases rx;obtain⟨its,r,ht,hz⟩:=I.tuple hx;have hlen:its.toArray.size=xs.length:=by rw[Jy];exact r.length.symm
 refine⟨"tuple",_,Lf.lookup,ht.typeIs,?_⟩;refine HT.ij ht hs pl pu (by rw[hlen];exact hw) ?_ (by rw[hlen];exact hz)
 rw[hlen];refine⟨.ref s.heap.objs.size,_,I.laid (t':=s.toks) (o:=.tup (d5 xs lo hi)) (λb ob q=>Jw _ q) (J7 _) ?_,rfl,q _ (I.aN.fresh (J7 _))⟩;exact⟨JC (jg xs lo hi) hz,_,(r.drop (HT.bD xs.length 0 lo)).take (HT.bD xs.length xs.length hi-HT.bD xs.length 0 lo),dF.new _ _⟩
noncomputable def GJ(K:W.Frag):R2:=λx y H Q=>∃a b xs ys,x=.ref a/\y=.ref b/\bb K H a xs/\bb K H b ys/\xs≠[]/\xs.length+ys.length<=sizeLine /\
 (ys=[]->Q (.ref a) H)/\(ys≠[]->∀p,H p=none->Q (.ref p) (upd H p (.tup (xs++ys))))
theorem Vals.n_(r:Vals xs us):us=[] ↔ xs=[]:=by
 cases r with
 |nil=>simp
 |cons _ _=>simp
theorem sN:cB X (binaryOp .Add) (GJ X.K):=by
 intro pins s σ H x y v u Q I rx ry h;obtain⟨a,b,xs,ys,rfl,rfl,ha,hb,hx,hz,q1,q2⟩:=h;cases rx;cases ry;obtain⟨its,r1,p1,_⟩:=I.tuple ha;obtain⟨its2,r2,p2,_⟩:=I.tuple hb;refine HT.A7 p1 p2 (λz=>hx (r1.n_.mp z)) (λz=>⟨.ref a,H,I,rfl,q1 (r2.n_.mp z)⟩) (λz=>?_) (by rw[<- r1.length,<- r2.length];exact hz)
 refine⟨.ref s.heap.objs.size,_,I.laid (t':=s.toks) (o:=.tup (xs++ys)) (λb ob q=>Jw _ q) (J7 _) ?_,rfl,q2 (λw=>z (r2.n_.mpr w)) _ (I.aN.fresh (J7 _))⟩;exact⟨by rw[Ju];exact hz,_,r1.append r2,dF.new _ _⟩
end
noncomputable def lJ(n:Nat)(i:Int):Option Nat:=if 0<=i then (if i<n then some i.toNat else none) else if -(n:Int)<=i then some (i+n).toNat else none
noncomputable def bX(xs:List α)(i:Int):Option α:=(lJ xs.length i).bind λj=>xs[j]?
theorem sH{n:Nat}{i:Int}{j:Nat}(h:lJ n i=some j):seqIndex? i n=some j/\j<n/\-(n:Int)<=i/\i<n:=by
 unfold lJ at h;by_cases h0:0<=i
 ·rw[J6 h0] at h;by_cases h1:i<n
  ·rw[J6 h1] at h;have e:i.toNat=j:=Option.some.inj h;exact⟨by rw[seqIndex_of h0 h1,e],by lia,by lia,h1⟩
  ·rw[Jx h1] at h;cases h
 ·rw[Jx h0] at h;by_cases h1:-(n:Int)<=i
  ·rw[J6 h1] at h;have e:(i+n).toNat=j:=Option.some.inj h;exact⟨by rw[O0 (by lia) h1,e],by lia,h1,by lia⟩
  ·rw[Jx h1] at h;cases h
theorem nS{xs:List α}{i:Int}{v:α}(h:bX xs i=some v):∃j,seqIndex? i xs.length=some j/\xs[j]?=some v/\j<xs.length/\-(xs.length:Int)<=i/\i<xs.length:=by
 unfold bX at h
 cases e:lJ xs.length i with
 |none=>rw[e] at h;cases h
 |some j =>
  rw[e] at h;obtain⟨h1,h2,h3,h4⟩:=sH e;exact⟨j,h1,h,h2,h3,h4⟩
theorem bt{xs:List α}{j:Nat}{v:α}(h:xs[j]?=some v):bX xs (j:Int)=some v:=by
 have hj:j<xs.length:=(Jv.mp h).1;have e:lJ xs.length (j:Int)=some j:=by
  unfold lJ;rw[J6 (by lia),J6 (by lia)];simp
 unfold bX;rw[e];exact h
theorem pC(xs:List α)(v:α):bX (xs++[v]) (-1)=some v:=by
 have hl:(xs++[v]).length=xs.length+1:=by simp
 have e:lJ (xs++[v]).length (-1)=some xs.length:=by
  unfold lJ;rw[hl,Jx (by decide),J6 (by lia)]
  congr 1;lia
 unfold bX;rw[e];show (xs++[v])[xs.length]?=some v;simp
noncomputable def tE(b:Expr):Prop:=∀o i,subscripted b false o i=operate [o,i] (getItem o i)
noncomputable def v8(X:Cx)(r:R2):Prop:=
 ∀(value slice:Expr) (pins:List (Addr×Obj)) (s:Shared) (σ:St) (H:Hp) (x y:V) (v u:Value) (Q:VK),Inv X pins σ H s->RelV x v->RelV y u->r x y H Q ->
  subscripted slice false v u=operate [v,u] (getItem v u)->wpAny (model X.prog X.w) X.A (subscriptTail value slice v u) (EP X pins σ Q) X.xe s
noncomputable def vk(X:Cx)(id:String)(r:V->List V->Hp->VK->Prop):Prop:=
 ∀(pins:List (Addr×Obj)) (s:Shared) (σ:St) (H:Hp) (x:V) (xs:List V) (v:Value) (us:List Value) (Q:VK),Inv X pins σ H s->RelV x v->Vals xs us->r x xs H Q ->
  wpAny (model X.prog X.w) X.A (call (.builtin id) (v::us)) (EP X pins σ Q) X.xe s
section
variable {X:Cx} {a b:Expr} {ta tb:TE} {pos:Pos}
theorem v8.or{r r':R2}(h:v8 X r)(h':v8 X r'):v8 X (λx y H Q=>r x y H Q\/r' x y H Q):=by
 intro value slice pins s σ H x y v u Q I rx ry q hs;rcases q with q|q
 ·exact h value slice pins s σ H x y v u Q I rx ry q hs
 ·exact h' value slice pins s σ H x y v u Q I rx ry q hs
theorem Cy{r:R2}(hr:v8 X r)(ha:PE X a ta)(hb:PE X b tb)(hs:tE b):PE X (.Subscript a b pos) (zL r ta tb):=by
 intro pins s σ H Q I h;exact Subscript_ (DY ha hb I h λv u s2 x y H2 I2 rx ry q=>hr a b pins s2 σ H2 x y v u Q I2 rx ry q (hs _ _))
noncomputable def GO(K:W.Frag):R2:=λx y H Q=>∃p xs i v,x=.ref p/\y=.int i/\bB K H p xs/\bX xs i=some v/\Q v H
noncomputable def Fm(K:W.Frag):R2:=λx y H Q=>∃p xs i v,x=.ref p/\y=.int i/\bb K H p xs/\bX xs i=some v/\Q v H
noncomputable def GX:R2:=λx y H Q=>∃z i c,x=.str z/\y=.int i/\z.length<=sizeLine/\bX z.cps.toList i=some c/\Q (.str ⟨#[c]⟩) H
theorem A1:v8 X (GO X.K):=by
 intro value slice pins s σ H x y v u Q I rx ry h hs;obtain⟨p,xs,i,z,rfl,rfl,hq,he,q⟩:=h;cases rx;obtain⟨t,rfl⟩:=ry;obtain⟨its,r,pl,hz⟩:=I.list hq;obtain⟨j,h1,h2,h3,h4,h5⟩:=nS he;obtain⟨w,ew,rw'⟩:=r.get h2;have hl:=r.length;have hn:=iE;have fin:EP X pins σ Q w s:=⟨z,H,I,rw',q⟩;by_cases h0:0<=i
 ·have hj:i.toNat=j:=by
   rw[seqIndex_of h0 h5] at h1;exact Option.some.inj h1
  exact item_listR pl.isList h0 (by lia) (by rw[hj];simpa using ew) fin hs
 ·have hj:(i+(its.toArray.size:Int)).toNat=j:=by
   rw[O0 (by lia) h4] at h1
   rw[Jy,<- hl];exact Option.some.inj h1
  exact subscriptTail_builtinR (x:=w) pl.isList.typeIs slot_list_getitem.lookup
   (wpAny_getItem_list_neg (Q:=λr s'=>r=w/\EP X pins σ Q r s') pl.isList (by lia) (by rw[Jy]<;>lia) (by lia) (by rw[hj];simpa using ew) ⟨rfl,fin⟩) hs
theorem rM:v8 X (Fm X.K):=by
 intro value slice pins s σ H x y v u Q I rx ry h hs;obtain⟨p,xs,i,z,rfl,rfl,hq,he,q⟩:=h;cases rx;obtain⟨t,rfl⟩:=ry;obtain⟨its,r,pl,hz⟩:=I.tuple hq;obtain⟨j,h1,h2,h3,h4,h5⟩:=nS he;obtain⟨w,ew,rw'⟩:=r.get h2;have hl:=r.length;have hn:=iE;have fin:EP X pins σ Q w s:=⟨z,H,I,rw',q⟩;exact subscriptTail_builtinR (x:=w) pl.typeIs slot_tuple_getitem.lookup
  (getItem_tuple (j:=j) (Q:=λr s'=>r=w/\EP X pins σ Q r s') pl (by lia) (by lia) (by rw[Jy,<- hl];exact h1) (by simpa using ew) ⟨rfl,fin⟩) hs
theorem DV:v8 X GX:=by
 intro value slice pins s σ H x y v u Q I rx ry h hs;obtain⟨z,i,c,rfl,rfl,hz,he,q⟩:=h;obtain⟨t,rfl⟩:=rx;obtain⟨t',rfl⟩:=ry;obtain⟨j,h1,h2,h3,h4,h5⟩:=nS he;have hl:z.cps.toList.length=z.length:=by simp[Str.length]
 rw[hl] at h1 h4 h5;have hn:=iE;exact tail_any (Ot s z t) slot_str_getitem.lookup (getItem_str (c:=c) (by
  have e1:decide (i < -(2^63:Int))=false:=JV (by lia)
  have e2:decide (i >= 2^63)=false:=JV (by lia)
  rw[e1,e2,Bool.or_false]) (by rw[h1];simpa using h2) ⟨.str ⟨#[c]⟩,H,I.tok _,⟨_,rfl⟩,q⟩) hs
noncomputable def Je(K:W.Frag):R2:=λx y H Q=>GO K x y H Q\/Fm K x y H Q\/GX x y H Q
theorem Dh:v8 X (Je X.K):=A1.or (rM.or DV)
theorem rp(its:List Value)(n j:Nat)(u:Value):Obj.mapSeq (·.setIfInBounds j u) {cls:=.type "list",data:=.seq its.toArray n}={cls:=.type "list",data:=.seq (its.set j u).toArray n}:=by
 simp[Obj.mapSeq]
theorem Inv.lst{s:Shared}{p:Addr}(I:Inv X pins σ H s)(h:H p=some (.lst xs)):
  ∃(its:List Value) (n:Nat),Vals xs its/\s.heap.get? p=some {cls:=.type "list",data:=.seq its.toArray n}/\xs.length<=sizeLine:=by
 obtain⟨z,its,n,r,e⟩:=I.aN p _ h;exact⟨its,n,r,e,z⟩
theorem Inv.EN{s:Shared}{p:Addr}{ys:List V}{n n':Nat}{f:Obj->Obj}(I:Inv X pins σ H s)(h:H p=some (.lst xs))
  (ho:s.heap.get? p=some {cls:=.type "list",data:=.seq its.toArray n}) (hf:f {cls:=.type "list",data:=.seq its.toArray n}={cls:=.type "list",data:=.seq its'.toArray n'}) (r:Vals ys its') (hz:ys.length<=sizeLine) (t:Nat) :
  Inv X pins σ (upd H p (.lst ys)) {s with heap:=s.heap.update p f,toks:=t}:=by
 have e:(s.heap.update p f).get? p=some {cls:=.type "list",data:=.seq its'.toArray n'}:=by
  rw[Lv f ho (by rw[hf]<;>rfl),hf]
 refine I.write (x:=p) (e:=p) (by rw[h];trivial) (.inl rfl) (λb u hb q=>(M6 _ _ (Ko hb)).trans q) ⟨_,e⟩ ?_
 exact⟨hz,its',n',r,e⟩
noncomputable def Ge:V->V->V->Hp->(Hp->Prop)->Prop:=λo i v H Q=>∃p xs k j,o=.ref p/\i=.int k/\H p=some (.lst xs)/\lJ xs.length k=some j/\Q (upd H p (.lst (xs.set j v)))
theorem set_list:DR X Ge:=by
 intro pins s σ H o i v ov iv u Q I ro ri rv h;obtain⟨p,xs,k,j,rfl,rfl,hp,hj,q⟩:=h;cases ro;obtain⟨t,rfl⟩:=ri;obtain⟨its,n,r,ho,hz⟩:=I.lst hp;obtain⟨h1,h2,h3,h4⟩:=sH hj;have hl:=r.length;have hn:=iE;have I':Inv X pins σ (upd H p (.lst (xs.set j v))) {s with heap:=s.heap.update p (Obj.mapSeq (·.setIfInBounds j u))}:=
  I.EN hp ho (rp its n j u) (r.set rv j) (by rw[Lh];exact hz) s.toks
 by_cases h0:0<=k
 ·have hk:k.toNat=j:=by
   rw[seqIndex_of h0 h4] at h1;exact Option.some.inj h1
  exact W.ki_setAt ho h0 (by lia) (by rw[Jy,<- hl];exact h4) (by rw[hk];exact⟨_,I',q⟩)
 ·have hk:(k+(its.toArray.size:Int)).toNat=j:=by
   rw[O0 (by lia) h3] at h1
   rw[Jy,<- hl];exact Option.some.inj h1
  exact W.ki_setBack ho (by lia) (by rw[Jy,<- hl];exact h3) (by lia) (by rw[hk];exact⟨_,I',q⟩)
theorem om(lo hi:Option Int)(n:Nat):(sliceBounds lo hi none n).1=((HT.bD n 0 lo:Nat):Int)/\(sliceBounds lo hi none n).2.1=((HT.bD n n hi:Nat):Int)/\(sliceBounds lo hi none n).2.2=1:=by
 refine⟨?_,?_,rfl⟩
 ·cases lo with
  |none=>simp[sliceBounds,HT.bD]
  |some i =>
   simp only[sliceBounds,HT.bD,Option.getD_none,show (1:Int) > 0 by decide,LU]
   by_cases h:i<0
   ·simp only[h,LU]<;>lia
   ·simp only[h,Ma]<;>lia
 ·cases hi with
  |none=>simp[sliceBounds,HT.bD]
  |some i =>
   simp only[sliceBounds,HT.bD,Option.getD_none,show (1:Int) > 0 by decide,LU]
   by_cases h:i<0
   ·simp only[h,LU]<;>lia
   ·simp only[h,Ma]<;>lia
theorem ml(its:List Value)(lo hi:Option Int):slicePick its.toArray lo hi none=((its.drop (HT.bD its.length 0 lo)).take (HT.bD its.length its.length hi-HT.bD its.length 0 lo)).toArray:=by
 obtain⟨h1,h2,h3⟩:=om lo hi its.toArray.size;unfold slicePick;rw[h1,h2,h3];simp only[sliceRange_one,pick_run,Jy]<;>rfl
noncomputable def E4(K:W.Frag):V->Option Int->Option Int->Hp->VK->Prop:=λx lo hi H Q=>∃a xs,x=.ref a/\bB K H a xs/\∀p,H p=none->Q (.ref p) (upd H p (.lst (d5 xs lo hi)))
theorem nN:sT X (E4 X.K):=by
 intro pins s σ H x v vl vu lo hi sl Q I rx hs pl pu h;obtain⟨a,xs,rfl,hx,q⟩:=h;cases rx;obtain⟨its,r,ht,hz⟩:=I.list hx;have hlen:=r.length;refine⟨"list",_,slot_list_getitem.lookup,ht.isList.typeIs,?_⟩;refine wpAny_getItem_list_slice ht.isList hs pl pu .none (by simp) ?_ (by rw[Jy]<;>lia)
 rw[ml,<- hlen];refine⟨.ref s.heap.objs.size,_,I.laid (t':=s.toks) (o:=.lst (d5 xs lo hi)) (λb ob q=>Jw _ q) (J7 _) ?_,rfl,q _ (I.aN.fresh (J7 _))⟩;exact⟨JC (jg xs lo hi) hz,_,0,(r.drop (HT.bD xs.length 0 lo)).take (HT.bD xs.length xs.length hi-HT.bD xs.length 0 lo),JH _ rfl⟩
noncomputable def b_:V->Bool
 |.aG=>true
 |.bl _=>true
 |.int _=>true
 |.str _=>true
 |_=>false
noncomputable def wm:V->V->Bool
 |.aG,.aG=>true
 |.bl a,.bl b=>a == b
 |.bl a,.int b=>(if a then 1 else 0) == b
 |.int a,.bl b=>a ==(if b then 1 else 0)
 |.int a,.int b=>a == b
 |.str a,.str b=>a == b
 |_,_=>false
theorem nF{A:Around}{s:Shared}{v:Value}(ry:RelV y u)(rx:RelV x v)(fy:b_ y=true)(fx:b_ x=true):SeqAt.EqAt A s u v (wm y x):=by
 cases y with
 |aG =>
  cases ry
  cases x with
  |aG=>cases rx;exact SeqAt.EqAt.same _
  |bl b=>cases rx;exact SeqAt.EqAt.none_bool b
  |int b=>obtain⟨t,rfl⟩:=rx;exact SeqAt.EqAt.none_int b t
  |str b=>obtain⟨t,rfl⟩:=rx;exact SeqAt.EqAt.none_str b t
  |_=>exact absurd (show false=true from fx) JE
 |bl a =>
  cases ry
  cases x with
  |aG=>cases rx;exact SeqAt.EqAt.bool_none a
  |bl b=>cases rx;exact SeqAt.EqAt.bool_bool a b
  |int b=>obtain⟨t,rfl⟩:=rx;exact SeqAt.EqAt.bool_int a b t
  |str b=>obtain⟨t,rfl⟩:=rx;exact SeqAt.EqAt.bool_str a b t
  |_=>exact absurd (show false=true from fx) JE
 |int a =>
  obtain⟨t',rfl⟩:=ry
  cases x with
  |aG=>cases rx;exact SeqAt.EqAt.int_none a t'
  |bl b=>cases rx;exact SeqAt.EqAt.int_bool a t' b
  |int b=>obtain⟨t,rfl⟩:=rx;exact SeqAt.EqAt.int_int a t' b t
  |str b=>obtain⟨t,rfl⟩:=rx;exact SeqAt.EqAt.int_str a t' b t
  |_=>exact absurd (show false=true from fx) JE
 |str a =>
  obtain⟨t',rfl⟩:=ry
  cases x with
  |aG=>cases rx;exact SeqAt.EqAt.str_none a t'
  |bl b=>cases rx;exact SeqAt.EqAt.str_bool a t' b
  |int b=>obtain⟨t,rfl⟩:=rx;exact SeqAt.EqAt.str_int a t' b t
  |str b=>obtain⟨t,rfl⟩:=rx;exact SeqAt.EqAt.str_str a t' b t
  |_=>exact absurd (show false=true from fx) JE
 |_=>exact absurd (show false=true from fy) JE
noncomputable def Cm(x:V)(u:Value):Bool:=match u with
 |.none=>wm .aG x
 |.bool b=>wm (.bl b) x
 |.int i _=>wm (.int i) x
 |.str z _=>wm (.str z) x
 |_=>false
theorem xN(r:RelV y u)(f:b_ y=true):Cm x u=wm y x:=by
 cases y with
 |aG=>cases r;rfl
 |bl b=>cases r;rfl
 |int i=>obtain⟨t,rfl⟩:=r;rfl
 |str z=>obtain⟨t,rfl⟩:=r;rfl
 |_=>exact absurd (show false=true from f) JE
theorem oh:∀{xs:List V} {us:List Value},Vals xs us->xs.all b_=true->us.any (Cm x)=xs.any λy=>wm y x
 |_,_,.nil,_=>rfl
 |y::xs,u::us,.cons r t,f=>by
  rw[Lm,Kv] at f;rw[M9,M9,xN r f.1,oh t f.2]
theorem jH{A:Around}{s:Shared}{v:Value}(rx:RelV x v)(fx:b_ x=true):∀{xs:List V} {us:List Value},Vals xs us->xs.all b_=true->∀u∈us,SeqAt.EqAt A s u v (Cm x u)
 |_,_,.nil,_=>λu hu=>by cases hu
 |y::xs,u::us,.cons r t,f=>λu' hu=>by
  rw[Lm,Kv] at f;rcases J5.mp hu with rfl|hu
  ·rw[xN r f.1];exact nF r rx f.1 fx
  ·exact jH rx fx t f.2 u' hu
noncomputable def qd(x:V)(xs:List V):Bool:=xs.any λy=>wm y x
noncomputable def IF(K:W.Frag)(neg:Bool):R2:=λx y H Q=>∃p xs,y=.ref p/\(bB K H p xs\/bb K H p xs)/\b_ x=true/\xs.all b_=true/\Q (.bl (if neg then !qd x xs else qd x xs)) H
theorem mB:cB X (compareOp .In) (IF X.K false):=by
 intro pins s σ H x y v u Q I rx ry h;obtain⟨p,xs,rfl,hq,fx,fs,q⟩:=h;cases ry;rcases hq with hq|hq
 ·obtain⟨its,r,pl,hz⟩:=I.list hq;refine SeqAt.in_listAt (Cm x) pl.isList (λw hw=>jH rx fx r fs w (by simpa using hw)) ⟨.bl _,H,I,rfl,?_⟩
  rw[show its.toArray.any (Cm x)=its.any (Cm x) by simp,oh r fs]
  exact q
 ·obtain⟨its,r,pl,hz⟩:=I.tuple hq;refine SeqAt.in_tupleAt (Cm x) pl (λw hw=>jH rx fx r fs w (by simpa using hw)) ⟨.bl _,H,I,rfl,?_⟩
  rw[show its.toArray.any (Cm x)=its.any (Cm x) by simp,oh r fs]
  exact q
theorem a_.or{f:Value}{r r':List V->Hp->VK->Prop}(h:a_ X f r)(h':a_ X f r'):a_ X f (λxs H Q=>r xs H Q\/r' xs H Q):=by
 intro pins s σ H xs us Q I rs q;rcases q with q|q
 ·exact h pins s σ H xs us Q I rs q
 ·exact h' pins s σ H xs us Q I rs q
theorem eH:a_ X (.type "tuple") (λxs H Q=>∃p ys,xs=[.ref p]/\((bB X.K H p ys/\∀l,H l=none->Q (.ref l) (upd H l (.tup ys)))\/(bb X.K H p ys/\Q (.ref p) H))):=by
 intro pins s σ H xs us Q I r h;obtain⟨p,ys,rfl,h⟩:=h;obtain⟨u,rfl,rx⟩:=vals1 r;cases rx;rcases h with ⟨hq,q⟩|⟨hq,q⟩
 ·obtain⟨its,r',pl,hz⟩:=I.list hq;have hlen:=r'.length;refine call_tuple_list pl.isList (λh' kp=>?_) (by simp only[Jy]<;>lia)
  have I1:Inv X pins σ H {s with heap:=h'}:=I.kept (t':=s.toks) kp
  have I2:Inv X pins σ (upd H h'.objs.size (.tup ys)) {s with heap:=h'.push {cls:=.type "tuple",data:=.seq its.toArray}}:=
   I1.laid (t':=s.toks) (λb o e=>Jw _ e) (J7 _) (show bA X.prog X.w _ _ _ (.tup ys) from⟨hz,its,r',dF.new _ _⟩)
  exact⟨.ref h'.objs.size,_,I2,rfl,q _ (I1.aN.fresh (J7 _))⟩
 ·obtain⟨its,r',pl,hz⟩:=I.tuple hq;exact call_tuple_same pl ⟨.ref p,H,I,rfl,q⟩
noncomputable def Ft(K:W.Frag)(T:String)(x:V)(H:Hp):Prop:=match x with
 |.str _=>T="str"
 |.int _=>T="int"
 |.ref p=>(T="list"/\∃xs,bB K H p xs)\/(T="tuple"/\∃o,K.lookup p=some o/\o.cls=.type "tuple"/\o.dict=none) \/
   (T="dict"/\((∃kvs,H p=some (.dK kvs))\/∃kvs,H p=some (.dT kvs)))\/(T="set"/\∃S n,H p=some (.set S n))
 |_=>False
theorem wB{s:Shared}{T:String}{v:Value}(I:Inv X pins σ H s)(r:RelV x v)(ty:Ft X.K T x H):
  s.TypeIs v T/\∀a,v=.ref a->∃ob,s.heap.get? a=some ob/\ob.dict=none:=by
 cases x with
 |str z =>
  obtain⟨t,rfl⟩:=r
  cases (show T="str" from ty)
  exact⟨Ot s z t,λ_ e=>nomatch e⟩
 |int i =>
  obtain⟨t,rfl⟩:=r
  cases (show T="int" from ty)
  exact⟨N1 s i t,λ_ e=>nomatch e⟩
 |ref p =>
  cases r;rcases ty with ⟨rfl,xs,hq⟩|⟨rfl,o,hk,hc,hd⟩|⟨rfl,hk⟩|⟨rfl,S,n,hk⟩
  ·obtain⟨its,_,pl,_⟩:=I.list hq;refine⟨pl.isList.typeIs,λa e=>?_⟩;cases e;obtain⟨o,n,e,c,hd,_⟩:=pl;exact⟨o,e,hd⟩
  ·refine⟨⟨o,I.iA p o hk,hc⟩,λa e=>?_⟩;cases e;exact⟨o,I.iA _ o hk,hd⟩
  ·have z:∃o,s.heap.get? p=some o/\o.ExactDict:=by
    rcases hk with ⟨kvs,hk⟩|⟨kvs,hk⟩
    ·obtain⟨_,_,_,_,o,_,_,e,ex,_⟩:=I.aN p _ hk;exact⟨o,e,ex⟩
    ·obtain⟨_,_,_,_,o,_,_,e,ex,_⟩:=I.aN p _ hk;exact⟨o,e,ex⟩
   obtain⟨o,e,ex⟩:=z;refine⟨⟨o,e,ex.1⟩,λa e2=>?_⟩;cases e2;exact⟨o,e,ex.2.1⟩
  ·obtain⟨o,_,_,_,e,ex,_⟩:=I.aN p _ hk;refine⟨⟨o,e,ex.1⟩,λa e2=>?_⟩;cases e2;exact⟨o,e,ex.2.1⟩
 |_=>exact False.elim ty
noncomputable def zw(K:W.Frag)(T:String)(r:V->List V->Hp->VK->Prop)(to:TE):TE:=λσ H Q=>to σ H λx H1=>Ft K T x H1/\r x [] H1 Q
noncomputable def Em(K:W.Frag)(T:String)(r:V->List V->Hp->VK->Prop)(to:TE)(t:TA):TE:=λσ H Q=>to σ H λx H1=>Ft K T x H1/\t σ H1 λxs H2=>r x xs H2 Q
variable {o e:Expr} {es:List Expr} {to:TE} {t:TA} {name:Str} {apos cpos:Pos} {T id:String} {r:V->List V->Hp->VK->Prop}
theorem Ex(pa:PlainAttrs T)(slot:Slot T name id)(hty:typeOf (.builtin id)=pure (.type "method_descriptor"))(hm:vk X id r)(ho:PE X o to)
  (hbase:autoParam (attributeBase o name X.env (eval o X.env)=eval o X.env) ℜ0) (hline:autoParam ((apos.endLine == cpos.line)=true) ℜ0):PE X (.Call (.Attribute o name apos) [] [] cpos) (zw X.K T r to):=by
 intro pins s σ H Q I h;refine wpAny_Call_method0_late hbase hline (bR (ho pins s σ H _ I h) λv s1 hq53=>?_);obtain⟨x,H1,I1,r1,ty,q1⟩:=hq53;obtain⟨h1,h2⟩:=wB I1 r1 ty;exact⟨T,id,pa,slot,hty,h1,h2,NV rfl (PySem.evalArgs_none (hm pins s1 σ H1 x [] v [] Q I1 r1 .nil q1))⟩
theorem Ga(pa:PlainAttrs T)(slot:Slot T name id)(hty:typeOf (.builtin id)=pure (.type "method_descriptor"))(hm:vk X id r)(ho:PE X o to)(ha:PA X (e::es) t)
  (hbase:autoParam (attributeBase o name X.env (eval o X.env)=eval o X.env) ℜ0)
  (hfew:autoParam (((backTo cpos (starEach (e::es) X.env)).all (λx=>!x.1) && (backToKw cpos (keywordEach [] X.env)).all (λx=>x.1.isSome)
   && decide ((e::es).length+([]:List Keyword).length+(if ([]:List Keyword).isEmpty then 0 else 1)<30))=true) ℜ0)
  (hline:autoParam ((apos.endLine == cpos.line)=true) ℜ0) (hs:autoParam (starEach (e::es) X.env=(false,eval e X.env)::starEach es X.env) ℜ0) (hplain:autoParam ((backTo cpos (starEach es X.env)).any (·.1)=false) ℜ0) :
  PE X (.Call (.Attribute o name apos) (e::es) [] cpos) (Em X.K T r to t):=by
 intro pins s σ H Q I h;refine wpAny_Call_method_late hbase hfew hline rfl (bR (ho pins s σ H _ I h) λv s1 hq54=>?_);obtain⟨x,H1,I1,r1,ty,q1⟩:=hq54;obtain⟨h1,h2⟩:=wB I1 r1 ty;refine⟨T,id,pa,slot,hty,h1,h2,?_⟩;have hA:=ha cpos pins s1 σ H1 _ I1 q1;rw[hs] at hA ⊢;refine NV (by show (false || (backTo cpos (starEach es X.env)).any (·.1))=false;rw[hplain]<;>rfl) (Calls.evalArgs_plain ?_)
 exact bR hA λus s2 ⟨vs,H2,I2,r2,q2⟩=>hm pins s2 σ H2 x vs v us Q I2 r1 r2 q2
/- xs.append(e),list.index on a module's tuple .. are vk facts of 06m -/
end
noncomputable def HM(X:Cx)(id:String)(r:V->List V->Hp->VK->Prop):Prop:=
 ∀(pins:List (Addr×Obj)) (s:Shared) (σ:St) (H:Hp) (x:V) (xs:List V) (v:Value) (us:List Value) (Q:VK),Inv X pins σ H s->RelV x v->Vals xs us->r x xs H Q ->
  wpAny (model X.prog X.w) X.A (call (.builtin id) (v::us)) (EP X pins σ Q) X.xe s
theorem Vals.one:∀{x:V} {us:List Value},Vals [x] us->∃u,us=[u]/\RelV x u
 |_,_,.cons r .nil=>⟨_,rfl,r⟩
theorem Vals.eraseIdx:∀{xs:List V} {us:List Value} (i:Nat),Vals xs us->Vals (xs.eraseIdx i) (us.eraseIdx i)
 |_,_,_,.nil=>.nil
 |_,_,0,.cons _ t=>t
 |_,_,i+1,.cons r t=>.cons r (Vals.eraseIdx i t)
theorem Vals.rep(h:Vals xs us):∀k:Nat,Vals (List.replicate k xs).flatten (List.replicate k us).flatten
 |0=>.nil
 |k+1=>by
  rw[Ki,Ki,LQ,LQ];exact Vals.append h (Vals.rep h k)
theorem mM:∀(l:List α) (i:Nat),(l.eraseIdx i).length<=l.length
 |[],_=>J7 _
 |_::_,0=>Lg _
 |_::r,i+1=>Nat.succ_le_succ (mM r i)
theorem foldl_rep(its:List Value):∀(k:Nat) (acc:List Value),
  List.foldl (λx1 x2=>x1++x2) acc.toArray (List.replicate k its.toArray)=(acc++(List.replicate k its).flatten).toArray
 |0,acc=>by simp
 |k+1,acc=>by
  have e:acc.toArray++its.toArray=(acc++its).toArray:=by simp
  have e2:(acc++its)++(List.replicate k its).flatten=acc++(List.replicate (k+1) its).flatten:=by
   rw[Ki,LQ,JT]
  rw[<- e2,<- foldl_rep its k (acc++its),<- e,Ki,MK]
section
variable {X:Cx} {pins:List (Addr×Obj)} {σ:St} {H:Hp} {s:Shared} {l b:Addr} {xs ys zs:List V}
theorem Inv.EA{n:Nat}{f:Array Value->Array Value}{t':Nat}(I:Inv X pins σ H s)(hH:H l=some (.lst xs))
  (e:s.heap.get? l=some {cls:=.type "list",data:=.seq its.toArray n}) (hf:f its.toArray=its'.toArray) (hv:Vals ys its') (hz:ys.length<=sizeLine) :
  Inv X pins σ (upd H l (.lst ys)) {s with heap:=s.heap.update l (Obj.mapSeq f),toks:=t'}:=by
 have q:=PySem.IsL.update e f;rw[hf] at q;refine I.write (x:=l) (e:=l) (by rw[hH];exact trivial) (.inl rfl) (λb' u hb hu=>(M6 s.heap (Obj.mapSeq f) (Ko hb)).trans hu) ⟨_,q⟩ ?_
 exact⟨hz,its',_,hv,q⟩
theorem Inv.DO{t':Nat}(I:Inv X pins σ H s)(hv:Vals ys its)(hz:ys.length<=sizeLine):
  Inv X pins σ (upd H s.heap.objs.size (.lst ys)) {s with heap:=s.heap.push {cls:=.type "list",data:=.seq its.toArray},toks:=t'}:=
 I.laid (λ_ _ q=>Jw _ q) (J7 _) ⟨hz,its,0,hv,JH _ rfl⟩
theorem Inv.fresh(I:Inv X pins σ H s):H s.heap.objs.size=none:=I.aN.fresh (J7 _)
theorem Inv.rj(I:Inv X pins σ H s)(hH:H l=some (.lst xs)):xs.length<=sizeLine/\∃(its:List Value) (n:Nat),Vals xs its/\xs.length=its.length/\s.heap.get? l=some {cls:=.type "list",data:=.seq its.toArray n}:=by
 obtain⟨z,its,n,r,e⟩:=I.aN l _ hH;exact⟨z,its,n,r,r.length,e⟩
theorem zT{n:Nat}(h:n<=sizeLine):Builtin.List.listTooLong n=false:=by
 unfold Builtin.List.listTooLong;exact JV (by lia)
end
section
variable {X:Cx}
noncomputable def ug:V->List V->Hp->VK->Prop:=λx vs H Q=>∃l xs y,x=.ref l/\vs=[y]/\H l=some (.lst xs)/\xs.length<sizeLine/\Q .aG (upd H l (.lst (xs++[y])))
theorem ng:HM X "list.append" ug:=by
 intro pins s σ H x vs v us Q I rx rv h;obtain⟨l,xs,y,rfl,rfl,hH,hz,q⟩:=h;cases rx;obtain⟨u,rfl,ru⟩:=rv.one;obtain⟨z,its,n,r,hl,e⟩:=I.rj hH;refine LI F.slot_list_append ⟨_,e,rfl⟩ F.entry_list_append (F.args_list_append_2 _ _) (PySem.list_append l its.toArray n u (by rw[Jy];lia)) ⟨e,?_⟩
 refine⟨.aG,_,I.EA (its':=its++[u]) hH e (by simp) (r.append (.cons ru .nil)) ?_,rfl,q⟩
 rw[Ju,LV];lia
noncomputable def DB:V->List V->Hp->VK->Prop:=λx vs H Q=>∃l xs i k y,x=.ref l/\vs=[.int i]/\H l=some (.lst xs)/\-(2^63)<=i/\i<2^63/\seqIndex? i xs.length=some k/\xs[k]?=some y/\Q y (upd H l (.lst (xs.eraseIdx k)))
theorem xU:HM X "list.pop" DB:=by
 intro pins s σ H x vs v us Q I rx rv h;obtain⟨l,xs,i,k,y,rfl,rfl,hH,h1,h2,hk,hy,q⟩:=h;cases rx;obtain⟨u,rfl,ru⟩:=rv.one;obtain⟨t,rfl⟩:=ru;obtain⟨z,its,n,r,hl,e⟩:=I.rj hH;obtain⟨w,hw,rw'⟩:=r.get hy;refine LI F.slot_list_pop ⟨_,e,rfl⟩ F.entry_list_pop (F.args_list_pop_2 _ _)
  (MeetsSeq.list_pop_at l its.toArray n i t k w (Og h1 h2) (by rw[Jy,<- hl];exact hk) (by rw[<- JZ];exact hw) (by rw[Jy];lia)) ⟨e,?_⟩
 refine⟨y,_,I.EA (its':=its.eraseIdx k) hH e ?_ (r.eraseIdx k) ?_,rw',q⟩
 ·show its.toArray.eraseIdxIfInBounds k=(its.eraseIdx k).toArray;rw[List.eraseIdxIfInBounds_toArray]
 ·have:=mM xs k;lia
noncomputable def Hq:R2:=λx y H Q=>∃l b xs zs,x=.ref l/\y=.ref b/\H l=some (.lst xs)/\H b=some (.lst zs)/\xs.length+zs.length<=sizeLine/\∀p,H p=none->Q (.ref p) (upd H p (.lst (xs++zs)))
theorem yV:cB X (binaryOp .Add) Hq:=by
 intro pins s σ H x y v u Q I rx ry h;obtain⟨l,b,xs,zs,rfl,rfl,hH,hB,hz,q⟩:=h;cases rx;cases ry;obtain⟨z,its,n,r,hl,e⟩:=I.rj hH;obtain⟨z2,its2,n2,r2,hl2,e2⟩:=I.rj hB;refine PySem.P.add_list e e2 ?_ (by rw[Jy,Jy];lia)
 have ea:its.toArray++its2.toArray=(its++its2).toArray:=by simp
 rw[ea];exact⟨.ref _,_,I.DO (t':=s.toks) (r.append r2) (by rw[Ju];lia),rfl,q _ I.fresh⟩
noncomputable def GP:R2:=λx y H Q=>∃l k xs,x=.ref l/\y=.int k/\H l=some (.lst xs)/\-(2^63)<=k/\k<2^63/\xs.length*k.toNat<=sizeLine /\
 ∀p,H p=none->Q (.ref p) (upd H p (.lst (List.replicate k.toNat xs).flatten))
theorem len_rep(xs:List α)(k:Nat):(List.replicate k xs).flatten.length=k*xs.length:=by
 induction k with
 |zero=>simp
 |succ k ih=>rw[Ki,LQ,Ju,ih,Mo,Nat.add_comm]
theorem EW:cB X (binaryOp .Mult) GP:=by
 intro pins s σ H x y v u Q I rx ry h;obtain⟨l,k,xs,rfl,rfl,hH,h1,h2,hz,q⟩:=h;cases rx;obtain⟨t,rfl⟩:=ry;obtain⟨z,its,n,r,hl,e⟩:=I.rj hH;have hlen:its.toArray.size*k.toNat<=sizeLine:=by rw[Jy,<- hl];exact hz
 have hcap:¬ its.toArray.size*k.toNat >(2^63-1) / 8:=by
  have:(sizeLine:Nat)<=(2^63-1) / 8:=by decide
  lia
 have hfit:¬ (!Builtin.List.listFitsIndex k)=true:=by
  rw[Og h1 h2];exact JE
 have hlong:¬ Builtin.List.listTooLong (its.toArray.size*k.toNat)=true:=by
  rw[zT hlen];exact JE
 have hnew:List.foldl (λx1 x2=>x1++x2) #[] (List.replicate (if its.toArray.isEmpty=true then 0 else k.toNat) its.toArray)=(List.replicate k.toNat its).flatten.toArray:=by
  have f0:∀m:Nat,List.foldl (λx1 x2=>x1++x2) #[] (List.replicate m its.toArray)=(List.replicate m its).flatten.toArray:=λm=>by
   have:=foldl_rep its m [];rw[KH] at this;exact this
  rw[f0]
  cases its with
  |nil=>simp
  |cons a r'=>rw[Jx (by simp)]
 refine N2 (T:="list") (U:="int") (by decide) ⟨_,e,rfl⟩ (λs'=>N1 s' k t) noFill_list_mul F.fills_int_mul F.slot_int_rmul repeat_list F.slot_int_index.lookup
  (LI F.slot_int_rmul (N1 s k t) F.entry_int_rmul (F.args_int_rmul_2 _ _) (int___rmul___int_list k t l its.toArray n)
   ⟨e,rfl,⟨_,e,rfl⟩,LI F.slot_list_mul ⟨_,e,rfl⟩ F.entry_list_mul (F.args_list_mul_2 _ _) (AutoListH.list___mul___list_int_3 l its.toArray n k t hfit hcap hlong) ⟨e,?_⟩⟩)
 rw[hnew];exact⟨.ref _,_,I.DO (t':=s.toks) (r.rep k.toNat) (by rw[len_rep,Nat.mul_comm];exact hz),rfl,q _ I.fresh⟩
end
section
variable {κ:Type} [DecidableEq κ]
noncomputable def fB(kvs:List (κ×V))(k:κ):Option V:=(kvs.find? λkv=>decide (kv.1=k)).map (·.2)
noncomputable def putK(kvs:List (κ×V))(k:κ)(v:V):List (κ×V):=
 if (kvs.any λkv=>decide (kv.1=k))=true then kvs.map (λkv=>if kv.1=k then (kv.1,v) else kv) else kvs++[(k,v)]
theorem gZ{p:κ×V}{r:List (κ×V)}{k:κ}(e:p.1=k):fB (p::r) k=some p.2:=by simp[fB,Li,e]
theorem ik{p:κ×V}{r:List (κ×V)}{k:κ}(e:¬ p.1=k):fB (p::r) k=fB r k:=by simp[fB,Li,e]
theorem ke(k:κ):∀kvs:List (κ×V),(kvs.any λkv=>decide (kv.1=k))=(fB kvs k).isSome
 |[]=>rfl
 |p::r=>by
  rw[M9];by_cases e:p.1=k
  ·simp only[gZ e,JX e,Bool.true_or,Option.isSome_some]
  ·rw[ik e,JV e,Bool.false_or];exact ke k r
theorem qo(kvs:List (κ×V))(k:κ)(v:V):(putK kvs k v).length<=kvs.length+1:=by
 unfold putK;split
 ·rw[Jt];lia
 ·rw[Ju,JD,Ks];lia
theorem yx{kvs:List (κ×V)}{k:κ}(v:V)(h:fB kvs k=none):putK kvs k v=kvs++[(k,v)]:=by
 unfold putK;rw[ke,h];exact Jx (by decide)
theorem gv.nr{u:Option Value}(r:gv o u):o.isSome=u.isSome:=by
 cases o with
 |none=>cases u with
  |none=>rfl
  |some _=>exact (show False from r).elim
 |some _=>cases u with
  |none=>exact (show False from r).elim
  |some _=>rfl
theorem KV.val{kvs:List (κ×V)}{vs:List (κ×Value)}(r:KV kvs vs)(k:κ):gv (fB kvs k) (valueAt vs k):=by
 unfold KV at r
 induction r with
 |nil=>exact True.intro
 |@cons p q ps qs h t ih =>
  obtain⟨h1,h2⟩:=h;by_cases e:p.1=k
  ·have e':q.1=k:=h1.symm.trans e;have b:valueAt (q::qs) k=some q.2:=by simp[valueAt,Li,e']
   rw[gZ e,b];exact h2
  ·have e':¬ q.1=k:=λz=>e (h1.trans z);have b:valueAt (q::qs) k=valueAt qs k:=by simp[valueAt,Li,e']
   rw[ik e,b];exact ih
theorem KV.any{kvs:List (κ×V)}{vs:List (κ×Value)}(r:KV kvs vs)(k:κ):(kvs.any λkv=>decide (kv.1=k))=vs.any λkv=>decide (kv.1=k):=by
 unfold KV at r
 induction r with
 |nil=>rfl
 |cons h t ih=>rw[M9,M9,ih,h.1]
theorem KV.Iv{kvs:List (κ×V)}{vs:List (κ×Value)}(r:KV kvs vs)(k:κ)(ry:RelV y u):
  KV (kvs.map λkv=>if kv.1=k then (kv.1,y) else kv) (vs.map λkv=>if kv.1=k then (kv.1,u) else kv):=by
 unfold KV at r ⊢
 induction r with
 |nil=>exact .nil
 |@cons p q ps qs h t ih =>
  rw[JY,JY];refine .cons ?_ ih;obtain⟨h1,h2⟩:=h;by_cases e:p.1=k
  ·rw[J6 e,J6 (h1.symm.trans e)];exact⟨h1,ry⟩
  ·rw[Jx e,Jx (λz=>e (h1.trans z))];exact⟨h1,h2⟩
theorem KV.put{kvs:List (κ×V)}{vs:List (κ×Value)}(r:KV kvs vs)(k:κ)(ry:RelV y u):KV (putK kvs k y) (stored vs k u):=by
 unfold putK stored;rw[r.any k];by_cases e:(vs.any λkv=>decide (kv.1=k))=true
 ·rw[J6 e,J6 e];exact r.Iv k ry
 ·rw[Jx e,Jx e];exact Paired.snoc r ⟨rfl,ry⟩
end
theorem um{k:Key}(r:RelV (kV k) u):(bU P w).is k u=true:=by
 cases k with
 |inl i=>obtain⟨t,e⟩:=(show ∃t,u=Value.int i t from r);subst e;exact pY P w i t
 |inr x=>obtain⟨t,e⟩:=(show ∃t,u=Value.str x t from r);subst e;exact pO P w x t
theorem mX:∀{ks:List Key} {us:List Value},Vals (ks.map kV) us->ItemsAre (bU P w) ks us
 |[],_,r=>by rw[LS] at r;cases r;exact .nil
 |k::ks,_,r=>by
  rw[JY] at r
  cases r with
  |cons h t=>exact .cons (um h) (mX t)
abbrev KT(H:Hp):List (List Key×V)->List (List Key×Addr×Value)->Prop:=Paired λp q=>p.1=q.1/\H q.2.1=some (.tup (p.1.map kV))/\RelV p.2 q.2.2
theorem KT.val{kvs:List (List Key×V)}{xs:List (List Key×Addr×Value)}(r:KT H kvs xs)(k:List Key):gv (fB kvs k) ((atKey xs k).map (·.2)):=by
 induction r with
 |nil=>exact True.intro
 |@cons p q ps qs h t ih =>
  obtain⟨h1,_,h2⟩:=h;by_cases e:p.1=k
  ·have e':q.1=k:=h1.symm.trans e;have b:atKey (q::qs) k=some q.2:=by simp[atKey,Li,e']
   rw[gZ e,b];exact h2
  ·have e':¬ q.1=k:=λz=>e (h1.trans z);have b:atKey (q::qs) k=atKey qs k:=by simp[atKey,Li,e']
   rw[ik e,b];exact ih
section
variable {P:Program} {w:World} {H:Hp} {h:Heap} {a:Addr}
theorem CP{u:HO}(ok:f7 P w H h)(e:Rd H a u):bA P w H h a u:=e.ok ok
theorem zv(ok:f7 P w H h)(e:Rd H a (.dK kvs)):kvs.length<=sizeLine/\(a == sysModules)=false/\∃vs,KV kvs vs/\h.DictOf (bU P w) a vs:=
 show bA P w H h a (.dK kvs) from CP ok e
theorem rf{ks:List Key}(ok:f7 P w H h)(e:H a=some (.tup (ks.map kV))):(tupleKind (bU P w)).is h ks a:=by
 obtain⟨_,its,r,o,h1,h2,n,h3,_⟩:=(show bA P w H h a (.tup (ks.map kV)) from ok a _ e);exact⟨o,its.toArray,n,h1,h2,h3,by simpa using mX r⟩
theorem zS{kvs:List (List Key×V)}(ok:f7 P w H h)(e:Rd H a (.dT kvs)):kvs.length<=sizeLine/\(a == sysModules)=false /\
  ∃xs,KT H kvs xs/\h.DictOfH (tupleKind (bU P w)) a xs:=by
 obtain⟨z,y,xs,r,o,es,ep,h1,h2,h3,h4,h5⟩:=(show bA P w H h a (.dT kvs) from CP ok e);refine⟨z,y,xs,r,o,es,ep,h1,h2,h3,h4,λx hx=>?_,h5⟩;have all:∀{l:List (List Key×V)} {m:List (List Key×Addr×Value)},KT H l m->∀x∈m,(tupleKind (bU P w)).is h x.1 x.2.1:=by
  intro l m q
  induction q with
  |nil=>intro x hx;exact nomatch hx
  |@cons p q ps qs hq t ih =>
   intro x hx;rcases J5.mp hx with e|hx
   ·subst e;exact rf ok (by rw[<- hq.1];exact hq.2.1)
   ·exact ih x hx
 exact all r x hx
end
noncomputable def ma(H:Hp)(a:Addr)(y:V)(r:Option V):Prop:=
 (∃kvs k,Rd H a (.dK kvs)/\y=kV k/\r=fB kvs k)\/∃kvs k b,Rd H a (.dT kvs)/\y=.ref b/\H b=some (.tup (k.map kV))/\r=fB kvs k
theorem ma.k{a:Addr}{k:Key}(e:H a=some (.dK kvs)):ma H a (kV k) (fB kvs k):=.inl ⟨kvs,k,.inl e,rfl,rfl⟩
section
variable {X:Cx} {pins:List (Addr×Obj)} {σ:St} {H:Hp} {s:Shared} {a:Addr} {y v:V} {u r:Value} {o:Option V} {A:Around} {E:Value->Shared->Prop}
theorem Inv.big(I:Inv X pins σ H s):sysModules<s.heap.objs.size:=by
 have h:mainGlobals<s.heap.objs.size:=(I.mod.glob.keeps I.bk).lt;exact L4 (by decide) h
theorem vV(hu:A.units+1<cLine)(I:Inv X pins σ H s)(g:ma H a y (some v))(ry:RelV y u)(h:∀w' s',Inv X pins σ H s'->RelV v w'->Q w' s'):
  wpAny (model X.prog X.w) A (getItem (.ref a) u) Q E s:=by
 rcases g with ⟨kvs,k,e,ey,l⟩|⟨kvs,k,b,e,ey,eb,l⟩
 ·subst ey;obtain⟨z,hd,vs,rel,dd⟩:=zv I.aN e;obtain⟨w',hw,rw'⟩:=gv.some_of (v:=v) (o:=valueAt vs k) (by rw[l];exact rel.val k)
  exact wpAny_getItem_of (um ry) dd.mapOf hw (h w' _ (I.tok _) rw')
 ·subst ey
  cases (show u=Value.ref b from ry)
  obtain⟨z,hd,xs,rel,dd⟩:=zS I.aN e;obtain⟨w',hw,rw'⟩:=gv.some_of (v:=v) (o:=(atKey xs k).map (·.2)) (by rw[l];exact rel.val k)
  obtain⟨p,hp,hp2⟩:=JR.mp hw;refine wpAny_getItem_heap (tupleKind_room_in1 hu) (rf I.aN eb) dd hp ?_;rw[hp2];exact h w' _ (I.tok _) rw'
theorem Cj(hu:A.units+1<cLine)(I:Inv X pins σ H s)(g:ma H a y o)(ry:RelV y u)(h:∀s',Inv X pins σ H s'->Q (.bool (!o.isSome)) s'):
  wpAny (model X.prog X.w) A (compareOp .NotIn u (.ref a)) Q E s:=by
 rcases g with ⟨kvs,k,e,ey,l⟩|⟨kvs,k,b,e,ey,eb,l⟩
 ·subst ey;obtain⟨z,hd,vs,rel,dd⟩:=zv I.aN e;refine wpAny_notIn_of (um ry) hd dd.mapOf ?_;rw[<- (rel.val k).nr,<- l];exact h _ (I.tok _)
 ·subst ey
  cases (show u=Value.ref b from ry)
  obtain⟨z,hd,xs,rel,dd⟩:=zS I.aN e;refine wpAny_notIn_heap (tupleKind_room_in1 hu) (rf I.aN eb) hd dd ?_;have q:=(rel.val k).nr;rw[Option.isSome_map] at q;rw[<- q,<- l];exact h _ (I.tok _)
theorem Ee{H':Hp}{h':Heap}{vs:List (Key×Value)}(z:kvs.length<=sizeLine)(hd:(a == sysModules)=false)(rel:KV kvs vs)(dd:h'.DictOf (bU P w) a vs):
  bA P w H' h' a (.dK kvs):=⟨z,hd,vs,rel,dd⟩
end
noncomputable def wz(i:Expr):Prop:=∀ov iv,subscripted i false ov iv=operate [ov,iv] (getItem ov iv)
theorem sX{prog:Program}{A:Around}{E:Value->Shared->Prop}{s:Shared}{env:Env}{value slice:Expr}{pos:Pos}{T id:String}
  (hl:typeLookup (.type T) "__getitem__"=pure (some (.builtin id))) (hs:wz slice)
  (h:wpAny (model prog w) A (eval value env) (λo s₁=>wpAny (model prog w) A (eval slice env) (λi s₂=>s₂.TypeIs o T/\wpAny (model prog w) A (getItem o i) Q E s₂) E s₁) E s) :
  wpAny (model prog w) A (eval (.Subscript value slice pos) env) Q E s:=by
 refine Subscript_ (Km h (λo s₁ h₁=>Km h₁ (λi s₂ h₂=>?_) λ_ _ x=>x) λ_ _ x=>x);obtain⟨hT,h₂⟩:=h₂;unfold subscriptTail;refine Js ?_;rw[getitemInPython_of_ne hT.not_modules];refine Js (wpAny_specialOf hT hl ?_);have fin:wpAny (model prog w) A (subscripted slice false o i) (λr s₃=>wpAny (model prog w) A (letTemporaryGo value o r >>= λ_=>pure r) Q E s₃) E s₂:=by
  rw[hs o i];exact wpAny_operating (Km h₂ (λr s₃ h₃=>Js (wpAny_letTemporaryGo (Jz h₃))) λ_ _ x=>x)
 first
  |exact Jz (Js fin)
  |exact Js (Jz (Js fin))
  |exact Js fin
theorem p7{X:Cx}{s:Shared}{a:Addr}(I:Inv X pins σ H s)(g:ma H a y o):s.TypeIs (.ref a) "dict":=by
 rcases g with ⟨kvs,k,e,_,_⟩|⟨kvs,k,b,e,_,_,_⟩
 ·obtain⟨_,_,vs,_,dd⟩:=zv I.aN e;exact dd.typeIs
 ·obtain⟨_,_,xs,_,dd⟩:=zS I.aN e;exact dd.typeIs
noncomputable def pK(td ty:TE):TE:=λσ H Q=>td σ H λx H1=>ty σ H1 λy H2=>∃a v,x=.ref a/\ma H2 a y (some v)/\Q v H2
section
variable {X:Cx} {o i e value:Expr} {pos pos' tpos:Pos} {td ty tv:TE}
theorem AX(hu:X.A.units+1<cLine)(ho:PE X o td)(hi:PE X i ty)(hs:wz i):PE X (.Subscript o i pos) (pK td ty):=by
 intro pins s σ H Q I h;refine sX PySem.F.slot_dict_getitem.lookup hs (bR (ho pins s σ H _ I h) λu s1 ⟨x,H1,I1,rx,q1⟩=>bR (hi pins s1 σ H1 _ I1 q1) λiv s2 hq55=>?_);obtain⟨y,H2,I2,ry,a,v,ex,g,q2⟩:=hq55;subst ex;obtain rfl:u=Value.ref a:=rx;exact⟨p7 I2 g,vV hu I2 g ry λw' s3 I3 rw'=>⟨v,H2,I3,rw',q2⟩⟩
end
noncomputable def fP(kvs more:List (Key×V)):List (Key×V):=more.foldl (λacc kv=>putK acc kv.1 kv.2) kvs
theorem KV.merge:∀{more:List (Key×V)} {rs:List (Key×Value)} {kvs:List (Key×V)} {vs:List (Key×Value)},KV more rs->KV kvs vs->KV (fP kvs more) (merged vs rs):=by
 intro more rs kvs vs r;unfold KV at r
 induction r generalizing kvs vs with
 |nil=>intro q;exact q
 |@cons p q ps qs h t ih =>
  intro r0;have e:KV (putK kvs p.1 p.2) (stored vs q.1 q.2):=by
   have:=r0.put p.1 h.2;rw[<- h.1];exact this
  exact ih e
theorem gB:∀(more kvs:List (Key×V)),(fP kvs more).length<=kvs.length+more.length
 |[],kvs=>by show kvs.length<=kvs.length+0;lia
 |p::r,kvs=>by
  have h1:=gB r (putK kvs p.1 p.2);have h2:=qo kvs p.1 p.2;show (fP (putK kvs p.1 p.2) r).length<=_;rw[JD];lia
end L2
namespace Att
open PySem PySem.W PySem.Calls PyProof.Rows
theorem jr{P:Params}{h:Heap}:∀(ns:List Int) (vs:List Value),WellAll P h vs (ns.map WData.int)->IntsAre vs ns:=by
 intro ns
 induction ns with
 |nil =>
  intro vs w;rw[List.map_nil] at w;cases w;exact .nil
 |cons n ns ih =>
  intro vs w;rw[List.map_cons] at w
  cases w with
  |cons a b =>
   cases a;exact .cons _ _ (ih _ b)
theorem vf{l:OpenLaw}{n:Nat}(hn:l.most=some n){P:Params}{h:Heap}{args:List WData}{vals:List Value}
  (hpre:l.row.toRowW.claim.pre args=true) (hwl:WellAll P h vals args) :
  ∃a vs ns,vals=[Value.ref a]/\args=[WData.list (ns.map WData.int)]/\h.get? a=some {cls:=.type "list",data:=.seq vs.toArray}/\IntsAre vs ns/\ns.length<=n:=by
 have hsh:WShape.hasAll [] args [.list .int]=true:=(pre_splitW hpre).1;have hc:l.pre.holds [] {args:=args}=true:=(pre_splitW hpre).2;obtain⟨d,r,rfl,h1,h2⟩:=hasAllW_cons hsh;obtain rfl:=hasAllW_nil h2;obtain⟨xs,rfl,h3⟩:=hasW_list h1;obtain⟨ns,rfl⟩:=items_int h3;have hlen:ns.length<=n:=by
  unfold OpenLaw.pre at hc;have h4:(WTm.not (.lt (.lit (.int (n:Int))) (.len (.arg 0)))).holds [] {args:=[.list (ns.map .int)]}=true:=by
   have h4:=(holds_andW hc).1;rw[hn] at h4;exact h4
  have h5:=condW_of h4 (w_not (w_lt w_lit (w_len_list (w_arg rfl))));rw[List.length_map] at h5;refine Nat.le_of_not_lt λq=>?_;have q':(n:Int)<((ns.length:Nat):Int):=by lia
  first
   | (rw[decide_eq_true q'] at h5;exact absurd h5 (by decide))
   | (simp at h5;lia)
 cases hwl with
 |cons w1 w2 =>
  cases w2
  cases w1 with
  |list ho hall=>exact⟨_,_,ns,rfl,rfl,ho,jr ns _ hall,hlen⟩
theorem vF(l:OpenLaw)(args:List WData):l.row.toRowW.claim.post args (.bool true) args=true:=
 postW_of (r:=l.row.toRowW) (X:=(true == true))
  (show WShape.has [] (.bool true) .bool=true by first|rfl|decide|simp[WShape.has,WShape.arms,WShape.armsAll])
  (show (WTm.eq .res (.lit (.bool true))).value [] {args:=args,res:=some (.bool true),after:=args}=some (.bool (true == true)) from w_eq_bool (w_res rfl) w_lit) rfl
theorem qe{l:OpenLaw}{n:Nat}{q:Program}{loose:List Str}{XP:(Str->Option Value)->Heap->Prop}{YP:World->Heap->Prop}{d:DefRec}
  (hn:l.most=some n) (hdf:d.params.defaults=[])
  (call:∀(w:World) (s₀ s₁:Shared) (mg mb:Str->Option Value) (fa:Addr) (o:Obj) (pm cd doc:Value) (a:Addr) (vs:List Value) (ns:List Int),
   Ground q loose [] XP w s₀ mg mb s₁.heap->YP w s₁.heap ->
   s₁.heap.get? fa=some o->o.data=.func (docDef d.name d.params d.body d.scope pm cd doc)->s₁.heap.CodeRec cd d.name->mg d.name=some (.ref fa) ->
   s₁.heap.get? a=some {cls:=.type "list",data:=.seq vs.toArray}->IntsAre vs ns->ns.length<=n->s₁.gens=#[] ->
   codeAny (model l.prog w) callerA (.call (.ref fa) ⟨[.ref a],[]⟩) (λr s'=>r=.ok (.ret (.bool true))/\OldK s₁.heap s'.heap/\s'.os=s₁.os/\AllBare s'.gens) s₁) :
  WalkO q loose XP YP l.row.toRowW d [] (λf vs=>PySem.call f vs):=by
 intro w s₀ s₁ mg mb G Y fa o pm cd doc dV kV ho hd eY hD hmg hg args vals as hpre hlay hrd hwl hlo;obtain rfl:dV=.none:=Dflts.none hD hdf;obtain rfl:kV=.none:=Dflts.noKw hD;obtain⟨a,vs,ns,rfl,rfl,hobj,hints,hlen⟩:=vf hn hpre hwl;refine enter_call (codeAny_mono (call w s₀ s₁ mg mb fa o pm cd doc a vs ns G Y ho (fd_plain hd) eY hmg hobj hints hlen hg) λr s' hq=>?_);obtain⟨rfl,h2,h3,h4⟩:=hq;exact⟨.inl ⟨.bool true,.bool true,[],rfl,λ_=>rfl,.bool true,vF l _,λ_=>⟨List.Pairwise.nil,λ_ hm=>(nomatch hm)⟩⟩,h2,h3,h4⟩
end Att
namespace L2
open PySem PySem.Spec PyProof.Rows
variable{P prog q:Program}{K:W.Frag}{N ON loose own:List Str}{mb mg:Str->Option Value}{base h h':Heap}{b:Bool}{o:HO}{w:World}{C a e f it p:Addr}{fd:FuncData}{qual x:Str}{sp:Sp}{ns:List Int}{To d:Option Addr}{X:Cx}{st:Stmt}{osc scope:Scope}{env:Env}{cells:List (Str×Addr)}{α:Type}{M:Model}{E:Value->Shared->Prop}{elt iter tg:Expr}{es ifs:List Expr}{g:TG}{tc:TT}{te tl:TE}{pins:List (Addr×Obj)}{σ:St}{H H':Hp}{Q:Unit->Shared->Prop}{RR:Value->Addr->Result->Shared->Prop}{i j:Nat}{cpos:Pos}{r:List V->Hp->VK->Prop}{ws xs:List V}{items:Array Value}{ex fp:List Addr}{D:Ends}{cls:Value}{its its2:List Value}
theorem mL:∀{vs:List Value} {ns:List Int},IntsAre vs ns->Vals (ns.map V.int) vs
 |_,_,.nil=>.nil
 |_,_,.cons n t h=>.cons ⟨t,rfl⟩ (mL h)
structure iu (q:Program) (K:W.Frag):Prop where
 nt:W.noTabs K=true
 nd:((bO K).map (·.2.1)).Nodup
 fd:∀x∈dE,W.tabIn K x=none\/((recsOf q).find? (λe=>e.name == x)).isSome=true
theorem iu.at{mean:ExcName->Option Value}(L:iu q K)(T:Top q loose mean mg mb h)(X:K.In h):∀t∈bO K,W.CodeHd h t.1 t.2.1/\h.get? t.2.1=some (W.tabObj #[]):=λt ht=>by
 unfold bO at ht;obtain⟨x,hx,e⟩:=Mn.mp ht;obtain⟨p,e1,e2⟩:=JR.mp e;obtain⟨c,Pt⟩:=p;subst e2;rcases L.fd x hx with z|z
 ·rw[z] at e1;cases e1
 ·obtain⟨d,hd⟩:=NB.mp z;exact W.tab_of T X hd e1
noncomputable def oj:List (Addr×Addr×Str)->Addr->Option HO
 |[],_=>none
 |t::r,b=>if b=t.2.1 then some (.vZ #[.str t.2.2 0]) else oj r b
theorem fW{b:Addr}:∀{l:List (Addr×Addr×Str)},oj l b=some o->∃t∈l,b=t.2.1/\o=.vZ #[.str t.2.2 0]
 |t::r,e=>by
  unfold oj at e;by_cases z:b=t.2.1
  ·rw[J6 z] at e;cases e;exact⟨t,.head _,z,rfl⟩
  ·rw[Jx z] at e;obtain⟨u,hu,q⟩:=fW e;exact⟨u,.tail _ hu,q⟩
theorem pZ{t:Addr×Addr×Str}:∀{l:List (Addr×Addr×Str)},(l.map (·.2.1)).Nodup->t∈l->oj l t.2.1=some (.vZ #[.str t.2.2 0])
 |u::r,nd,m=>by
  obtain⟨n1,n2⟩:=KY.mp nd;unfold oj;rcases J5.mp m with rfl|m
  ·rw[J6 rfl]
  ·rw[Jx λz=>n1 (J_.mpr ⟨t,m,z⟩)];exact pZ n2 m
theorem xZ{CX:oI}{k:Nat}{fa:Addr}{s₁:Shared}{vs:List Value}
  (KX:K.In s₁.heap) (hns:s₁.heap.Ns mainGlobals mg) (hb:s₁.heap.Ns builtinsNs mb) (hbb:∀x:Str,x≠"__name__"->mb x=bootBuiltins x) (hlim:s₁.heap.NoLimit) (hbm:E5 mg s₁.heap)
  (hT:∀t∈bO K,W.CodeHd s₁.heap t.1 t.2.1/\s₁.heap.get? t.2.1=some (W.tabObj #[])) (L:iu q K) (hg:s₁.gens=#[])
  (ha:s₁.heap.get? a=some {cls:=.type "list",data:=.seq vs.toArray}) (hi:IntsAre vs ns) (hl:ns.length<=sizeLine) (hr:b9 k callerA)
  (F:∀base:Heap,K.In base->base.Ns mainGlobals mg->bT P w K mg base CX k fa fd [x] sp) (hbind:∀(s:Shared) (u:Value),BindsTo s fd ⟨[u],[]⟩ [(x,u)])
  (lS:∀H:Hp,True->bB K H a (ns.map V.int)->sp [.ref a] H (λv _=>v=.bl true) λ_ _ _=>False)
  (hCX:∀H e s',CX [] H s₁ (λ_ _ _=>False) e s'->False) :
  codeAny (model P w) callerA (.call (.ref fa) ⟨[.ref a],[]⟩) (λr s'=>r=.ok (.ret (.bool true))/\OldK s₁.heap s'.heap/\s'.os=s₁.os/\AllBare s'.gens) s₁:=by
 have rv:=mL hi;have lenV:=hi.length;have naT:∀t∈bO K,t.2.1≠a:=λt ht z=>by
  have e:=(hT t ht).2;rw[z,ha] at e;cases e
 let oS:Obj:={cls:=.type "list",data:=.seq vs.toArray}
 have core:∀S:Option HO,(S=none\/S=some (.jD oS (.lst (ns.map V.int))))->(S≠none->K.lookup a=none)->bB K (λb=>if b=a then S else oj (bO K) b) a (ns.map V.int) ->
   codeAny (model P w) callerA (.call (.ref fa) ⟨[.ref a],[]⟩) (λr s'=>r=.ok (.ret (.bool true))/\OldK s₁.heap s'.heap/\s'.os=s₁.os/\AllBare s'.gens) s₁:=by
  intro S hS hK hSq;generalize hH:(λb=>if b=a then S else oj (bO K) b)=H at hSq
  have hA:H a=S:=by rw[<- hH];exact J6 rfl
  have hB:∀b,b≠a->H b=oj (bO K) b:=λb z=>by rw[<- hH];exact Jx z
  have free:∀{b:Addr} {o:Obj},s₁.heap.get? b=some o->o≠W.tabObj #[]->(b=a->S=none)->H b=none:=λ{b o} e hn hz=>by
   by_cases z:b=a
   ·rw[z,hA];exact hz z
   ·rw[hB b z]
    cases q:oj (bO K) b with
    |none=>rfl
    |some u =>
     obtain⟨t,ht,e1,_⟩:=fW q;have e2:=(hT t ht).2;rw[<- e1,e] at e2;exact absurd (Option.some.inj e2) hn
  have nsK:∀{b:Addr} {m:Str->Option Value},s₁.heap.Ns b m->(lZ s₁.heap H).Ns b m:=λ{b m} ⟨o,es,ep,e,d,r⟩=>⟨o,es,ep,ic e (free e (λz=>by rw[z] at d;cases d) λz=>by rw[z,ha] at e;cases e;cases d),d,r⟩
  have hKb:K.In (lZ s₁.heap H):=λb o e=>ic (KX b o e) (free (KX b o e) (λz=>by
    have h2:=Lc.mp L.nt (b,o) (W.mem_of_lookupK e);subst z;exact absurd (show false=true from h2) JE) λz=>by
    cases q:S with
    |none=>rfl
    |some u=>rw[z,hK (by rw[q];simp)] at e;cases e)
  have eY:∀t∈bO K,W.CodeHd (lZ s₁.heap H) t.1 t.2.1:=λt ht=>by
   obtain⟨o,us,fl,tf,fg,tg,inF,tx,tt,e1,e2,r⟩:=(hT t ht).1;exact⟨o,us,fl,tf,fg,tg,inF,tx,tt,ic e1 (free e1 (λz=>by rw[z] at e2;cases e2) λz=>by rw[z,ha] at e1;cases e1;exact absurd (Value.type.inj e2) (by decide)),e2,r⟩
  have hbm':E5 mg (lZ s₁.heap H):=by
   obtain⟨bm,ob,b1,b2,b3,b4,b5⟩:=hbm;exact⟨bm,ob,b1,b2,ic b3 (free b3 (λz=>by rw[z] at b4;cases b4) λz=>by rw[z,ha] at b3;cases b3;exact absurd (Value.type.inj b4) (by decide)),b4,b5⟩
  have aN:f7 P w H s₁.heap:=λb u e=>by
   by_cases z:b=a
   ·rw[z,hA] at e;rcases hS with h0|h0
    ·rw[h0] at e;cases e
    ·rw[h0] at e;cases e;subst z;exact⟨ha,by rw[Jt];exact hl,vs,_,rv,ha⟩
   ·rw[hB b z] at e;obtain⟨t,ht,e1,e2⟩:=fW e;subst e2;exact⟨#[],by rw[e1];exact (hT t ht).2,trivial,λpos cv c=>by cases (show (none:Option Value)=some cv from c)⟩
  have hM:Mod K mg (lZ s₁.heap H):=⟨hKb,nsK hns,⟨mb,nsK hb,hbb⟩,let ⟨mc,h1,h2⟩:=hlim;⟨mc,nsK h1,h2⟩,eY,hbm'⟩
  have e0:qQ P w K mg (lZ s₁.heap H) callerA [] s₁ H:=⟨rfl,hM,λb o e=>AE e,N9 (vU _ _),trivial,λb hb=>absurd (show b∈([]:List Addr) from hb) (by simp),aN,.of_eq hg,λt ht=>⟨#[],by
   rw[hB _ (naT t ht),pZ L.nd ht,Nf]⟩⟩
  refine NA ((F _ hKb (nsK hns)).run callerA [] s₁ H ⟨[.ref a],[]⟩ [.ref a] [.ref a] _ _ hr e0 (hbind s₁ (.ref a)) (.cons rfl .nil) (lS H trivial hSq)) λr s' h=>?_
  cases r with
  |error e=>exact (hCX H e s' h).elim
  |ok fl =>
   cases fl with
   |next=>exact False.elim h
   |brk=>exact False.elim h
   |cont=>exact False.elim h
   |ret u =>
    obtain⟨v,H',os,bare,un,hok',r',qv⟩:=h;have q':v=.bl true:=qv;subst q';obtain rfl:u=Value.bool true:=r';have each:∀b o,s₁.heap.get? b=some o->s'.heap.get? b=some o\/∃c,W.CodeHd s₁.heap c b/\o=W.tabObj #[]/\∃ps,s'.heap.get? b=some (W.tabObj ps):=λb o e=>by
     cases qb:H b with
     |none=>exact .inl (un.keep b o e qb (by intro z;exact absurd (show b∈([]:List Addr) from z) (by simp)) (by simp))
     |some u =>
      by_cases z:b=a
      ·rw[z,hA] at qb;rcases hS with h0|h0
       ·rw[h0] at qb;cases qb
       ·have z2:=un.js a oS _ (by rw[hA,h0])
        obtain⟨e2,_⟩:=hok' a _ z2;rw[z,ha] at e;cases e;exact .inl (by rw[z];exact e2)
      ·have qt:=qb;rw[hB b z] at qt;obtain⟨t,ht,e1,e2⟩:=fW qt;obtain⟨h1,h2⟩:=hT t ht;rw[<- e1] at h1 h2;rw[e] at h2;cases h2;subst e2;obtain⟨more,e3⟩:=un.iJ b _ qb;obtain⟨qs,e4,_⟩:=hok' b _ e3;exact .inr ⟨_,h1,rfl,qs,e4⟩
    refine⟨rfl,⟨λb o e=>?_,λb o e=>?_⟩,os,bare⟩
    ·rcases each b o e with z|⟨c,hc,z,ps,hp⟩
     ·exact .inl z
     ·subst z;exact .inr (.inl ⟨(hc.tab e).isCodeTable,rfl,#[],ps,rfl,by rw[Array.empty_append];exact hp⟩)
    ·rcases each b o e with z|⟨c,hc,z,ps,hp⟩
     ·exact⟨o,z⟩
     ·exact⟨_,hp⟩
 cases hk:K.lookup a with
 |some o =>
  have e:=KX a o hk;rw[ha] at e;cases e;exact core none (.inl rfl) (λz=>absurd rfl z) (.inr ⟨_,vs.toArray,_,hk,rfl,rfl,rfl,by rw[Jy,lenV];exact hl,by simpa using rv⟩)
 |none=>exact core (some (.jD oS (.lst (ns.map V.int)))) (.inr rfl) (λ_=>hk) (.inl (.inr ⟨oS,J6 rfl⟩))
theorem Bq{l:W.OpenLaw}{n k:Nat}{XP:(Str->Option Value)->Heap->Prop}{YP:World->Heap->Prop}{d:DefRec}{K:Params->W.Frag}{CX:World->oI}{sp:World->Sp}
  (hn:l.most=some n) (hn2:n<=sizeLine) (hdf:d.params.defaults=[]) (hr:b9 k callerA)
  (hY:∀(w:World) (h:Heap),YP w h->(K w.params).In h)
  (F:∀(w:World) (mg:Str->Option Value) (fa:Addr) (h:Heap),(K w.params).In h->h.Ns mainGlobals mg->mg d.name=some (.ref fa) ->
   ∃fd:FuncData,(∀(s:Shared) (u:Value),BindsTo s fd ⟨[u],[]⟩ [(x,u)]) /\
    ∀base:Heap,(K w.params).In base->base.Ns mainGlobals mg->bT l.prog w (K w.params) mg base (CX w) k fa fd [x] (sp w))
  (lS:∀(w:World) (H:Hp) (a:Addr) (ns:List Int),ns.length<=n->True->bB (K w.params) H a (ns.map V.int)->sp w [.ref a] H (λv _=>v=.bl true) λ_ _ _=>False)
  (hCX:∀(w:World) (H:Hp) (s:Shared) (e:Value) (s':Shared),CX w [] H s (λ_ _ _=>False) e s'->False) (hL:∀(w:World) (h:Heap),(K w.params).In h->iu q (K w.params)) :
  W.WalkO q loose XP YP l.row.toRowW d [] (λf vs=>PySem.call f vs):=by
 refine Att.qe hn hdf λw s₀ s₁ mg mb fa o pm cd doc a vs ns G Y ho hd eY hmg hobj hints hlen hg=>?_;have KX:=hY w _ Y;obtain⟨fd,hb,hF⟩:=F w mg fa _ KX G.T.g hmg;have L:=hL w _ KX;exact xZ KX G.T.g G.T.b G.T.builtins G.T.nolimit G.T.bmain (L.at G.T KX) L hg hobj hints (JC hlen hn2) hr hF hb (λH hO hS=>lS w H a ns hlen hO hS) λH e s'=>hCX w H s₁ e s'
noncomputable def inClass(s:Stmt)(j:Nat):Stmt:=match s with
 |.ClassDef _ _ _ body _ _ _ _ _ _ _=>body.getD j (.Pass ⟨0,0,0,0⟩)
 |_=>.Pass ⟨0,0,0,0⟩
noncomputable def bL(s:Stmt):Arguments:=match s with
 |.FunctionDef _ a _ _ _ _ _ _ _ _=>a
 |_=>{posonlyargs:=[],args:=[],vararg:=none,kwonlyargs:=[],kw_defaults:=[],kwarg:=none,defaults:=[]}
noncomputable def aR(s:Stmt):List Stmt:=match s with
 |.FunctionDef _ _ b _ _ _ _ _ _ _=>b
 |_=>[]
noncomputable def ae(s:Stmt):Scope:=match s with
 |.FunctionDef _ _ _ _ _ _ sc _ _ _=>sc
 |_=>{kind:=.function,names:=[],isGenerator:=false,isCoroutine:=false}
abbrev aP:oI:=λ_ _ _ _ _ _=>False
abbrev E0:XK:=λ_ _ _=>False
theorem fJ:Passes aP X E0:=λ_ _ _ _ _ _ _ h=>h.elim
structure lQ (K:W.Frag) (x qual:Str) (st:Stmt) (f:Addr) (fd:FuncData):Prop where
 ex:∃(oc:Value) (od:Option Addr) (kV doc pm:Value) (an:Option Addr) (cdv ct:Value) (osl:Array (Option Value)),
  fd=W.fnOf x qual (bL st) (aR st) (ae st) .none kV doc pm an cdv ct/\K.lookup f=some ⟨oc,od,.func fd,osl⟩/\W.codeIn K cdv qual=true
 kp:W.keepIn K (.ref f)=true
section
variable {P:Program} {w:World} {K:W.Frag} {mg:Str->Option Value} {base:Heap}
theorem lQ.ok{ps:List Str}{k:Nat}(F:lQ K x qual st f fd)(S:av N ps (ae st))(len:∀vs H Q E,sp vs H Q E->vs.length=ps.length)
  (hbody:∀(cdv:Value) (A:Around) (outer:List Env) (s:Shared) (H:Hp) (vs:List V) (Q:VK) (E:XK),b9 k (A.deeper (envOfC qual (ae st) s.heap.objs.size f cdv))->sp vs H Q E ->
   ∃t,rD (fE aP P w K mg base N qual (ae st) f cdv A outer s H E).vO (aR st) t/\t {nx:=λ_ H'=>Q .aG H',rt:=Q} (start N vs) H):bT P w K mg base aP (k+1) f fd ps sp:=by
 obtain⟨oc,od,kV,doc,pm,an,cdv,ct,osl,rfl,lk,eY⟩:=F.ex;refine x9 lk eY S len λA outer s H vs Q E hr lS=>?_;obtain⟨t,h,q⟩:=hbody cdv A outer s H vs Q E hr lS;exact⟨t,h.vO,q⟩
theorem lQ.binds{ps:List Str}(F:lQ K x qual st f fd)
  (h:∀(kV doc pm:Value) (an:Option Addr) (cdv ct:Value) (us:List Value),us.length=ps.length->bindArgs (W.fnOf x qual (bL st) (aR st) (ae st) .none kV doc pm an cdv ct) ⟨us,[]⟩=pure (ps.zip us)):Binds K fd ps []:=by
 obtain⟨oc,od,kV,doc,pm,an,cdv,ct,osl,rfl,lk,eY⟩:=F.ex;exact .all (h kV doc pm an cdv ct)
theorem cp{oc:Value}{od an:Option Addr}{osl:Array (Option Value)}{kV doc pm cdv ct:Value}(l:K.lookup f=some ⟨oc,od,.func (W.fnOf x qual (bL st) (aR st) (ae st) .none kV doc pm an cdv ct),osl⟩)
  (c:W.codeIn K cdv qual=true) (k:W.keepIn K (.ref f)=true):lQ K x qual st f (W.fnOf x qual (bL st) (aR st) (ae st) .none kV doc pm an cdv ct):=⟨⟨oc,od,kV,doc,pm,an,cdv,ct,osl,rfl,l,c⟩,k⟩
end
theorem aK{A:Around}{k:Nat}(hr:b9 k A):A.units+1<cLine:=Kt (Nat.add_le_add_left (by decide:1<=64) _) hr.units
section
variable {X:Cx}
theorem pv(i:Nat){pos:Pos}(hN:autoParam (X.N[i]?=some x) ℜ0)(hv:autoParam (FU X.env.scope x) ℜ4)(hd:autoParam ((x ==("__debug__":Str))=false) ℜ1)
  (eY:autoParam ((x ==("__classdict__":Str))=false) ℜ1):PE X (.Name x pos) (uD i):=Dr hN hv hd eY
end
noncomputable def zk(H H':Hp):Prop:=∀b o,H b=some o->H' b=some o
theorem zk.refl(H:Hp):zk H H:=λ_ _ h=>h
section
variable {κ:Type} [DecidableEq κ]
theorem AL{kvs:List (κ×V)}{k:κ}{v:V}(h:fB kvs k=some v):k∈kvs.map (·.1):=by
 have q:(kvs.any λkv=>decide (kv.1=k))=true:=by
  rw[ke,h]
  all_goals rfl
 obtain⟨p,hp,e⟩:=List.any_eq_true.mp q;exact J_.mpr ⟨p,hp,KC e⟩
end
noncomputable def dO(cells:List (Str×Addr)):List (Str×NameKind)->List (Str×Addr)->List (Str×Addr)
 |[],acc=>acc
 | (n,k)::r,acc=>if k=.free then dO cells r ((n,(cells.lookup n).getD 0)::acc) else dO cells r acc
theorem gH(h:∀x∈scope.names,x.2=.free->∃c,env.cells.lookup x.1=some c):closureFor scope env=pure (dO env.cells scope.names []):=by
 have all:∀(l:List (Str×NameKind)) (acc:List (Str×Addr)),(∀x∈l,x.2=.free->∃c,env.cells.lookup x.1=some c) ->
   (forIn l acc λ(x:Str×NameKind) (cs:List (Str×Addr))=>(match x with | (name,kind)=>if (kind == NameKind.free)=true then (do let c <- cellOf env name;pure (ForInStep.yield ((name,c)::cs))) else pure (ForInStep.yield cs):Sem (ForInStep (List (Str×Addr)))))=(pure (dO env.cells l acc):Sem (List (Str×Addr))):=by
  intro l
  induction l with
  |nil=>intro acc _;rfl
  |cons x r ih =>
   intro acc hl;obtain⟨n,k⟩:=x;rw[LJ];by_cases hk:k=.free
   ·subst hk;obtain⟨c,hc⟩:=hl (n,.free) J9 rfl;have e:cellOf env n=pure c:=by unfold cellOf;rw[hc]
    simp only[K4,LU,e,dO,pure_bind];rw[ih _ λy hy=>hl y (J8 _ hy),hc];rfl
   ·have hb:(k == NameKind.free)=false:=by simpa using hk
    simp only[hb,Mp,Ma,dO,hk,pure_bind];exact ih _ λy hy=>hl y (J8 _ hy)
 unfold closureFor;simp only[bind_pure];exact all scope.names [] h
theorem iR:∀{l:List (Str×NameKind)} {acc:List (Str×Addr)},(∀x∈l,x.2=.free->∃c,cells.lookup x.1=some c)->(∀x c,acc.lookup x=some c->cells.lookup x=some c) ->
  ∀x c,(dO cells l acc).lookup x=some c->cells.lookup x=some c
 |[],_,_,h,x,c,e=>h x c e
 | (n,k)::r,acc,hl,h,x,c,e=>by
  unfold dO at e;have hr:∀y∈r,y.2=.free->∃c,cells.lookup y.1=some c:=λy hy=>hl y (J8 _ hy)
  split at e
  ·rename_i hk;refine iR hr (λy d q=>?_) x c e;rw[KL] at q
   split at q
   ·rename_i hy;obtain⟨c',hc'⟩:=hl (n,k) J9 hk;have hy':y=n:=by simpa using hy
    subst hy';simp only[] at hc';rw[hc'] at q ⊢;exact q
   ·exact h y d q
  ·exact iR hr h x c e
theorem iX:∀{l:List (Str×NameKind)} {acc:List (Str×Addr)},(∃c,acc.lookup x=some c)->∃c,(dO cells l acc).lookup x=some c
 |[],_,h=>h
 | (n,k)::r,acc,h=>by
  unfold dO;split
  ·refine iX ?_;rw[KL];split
   ·exact⟨_,rfl⟩
   ·exact h
  ·exact iX h
theorem f_:∀{l:List (Str×NameKind)} {acc:List (Str×Addr)},(x,NameKind.free)∈l->∃c,(dO cells l acc).lookup x=some c
 |[],_,h=>by simp at h
 | (n,k)::r,acc,h=>by
  unfold dO;rcases J5.mp h with e|h
  ·cases e;rw[J6 rfl];exact iX ⟨(cells.lookup x).getD 0,by rw[KL];simp⟩
  ·split
   ·exact f_ h
   ·exact f_ h
noncomputable def aJ(X:Cx)(scope:Scope)(N:List Str)(C:Addr)(s:Shared)(H:Hp)(fp:List Addr):Cx where
 prog:=X.prog
 w:=X.w
 K:=X.K
 mg:=X.mg
 base:=X.base
 A:=X.A
 N:=N
 s₀:=s
 H₀:=H
 env:=compEnvC scope (dO X.env.cells scope.names []) C X.env
 outer:=X.stack
 stack:=X.stack
 ex:=fp
 calm:=X.calm
 fn:=λ_=>false
 pn:=[]
 xe:=λ_ _=>False
structure aF (osc:Scope) (ON:List Str) (scope:Scope) (own N:List Str):Prop where
 kind:scope.kind=.function
 nd:N.Nodup
 len:N.length=own.length+ON.length
 jI:∀y∈scope.names,y.2≠.cell
 loc:∀y∈scope.names,y.2=.local->scope.names.lookup y.1=some .local
 free:∀y∈scope.names,y.2=.free->osc.names.lookup y.1=some .cell\/osc.names.lookup y.1=some .free
 out:∀p∈ON.zip (N.drop own.length),p.1=p.2\/scope.names.lookup p.2=none
 own:∀x∈N.drop own.length,scope.names.lookup x≠some .local
theorem cE(x:Str)(hn:∀y∈scope.names,y.2≠.cell):((relabel scope env).names.lookup x=some .local->scope.names.lookup x=some .local) /\
  ((relabel scope env).names.lookup x=some .cell\/(relabel scope env).names.lookup x=some .free->scope.names.lookup x=some .free):=by
 unfold relabel;simp only;revert hn;generalize scope.names=l;intro hn
 induction l with
 |nil=>simp
 |cons y r ih =>
  obtain⟨n,k⟩:=y;have ih:=ih λy hy=>hn y (J8 _ hy);have hk:k≠.cell:=hn (n,k) J9;rw[JY];simp only;by_cases hc:(k == NameKind.free && env.scope.kind == ScopeKind.function && env.kindOf n == some NameKind.cell)=true
  ·rw[J6 hc,KL,KL];have hf:k=.free:=by
    simp only[Kv] at hc
    simpa using hc.1.1
   split
   ·subst hf;simp
   ·exact ih
  ·rw[Jx hc,KL,KL];split
   ·constructor
    ·exactλh=>h
    ·rintro (h|h)
     ·exact absurd (Option.some.inj h) hk
     ·exact h
   ·exact ih
noncomputable def Fw(X:Cx)(ifs:List Expr)(t:TT):Prop:=
 ∀(pins:List (Addr×Obj)) (s:Shared) (σ:St) (H:Hp) (Q:Bool->Hp->Prop),Inv X pins σ H s->t σ H Q ->
  wpAny (model X.prog X.w) X.A (forIn ifs true λc r=>if r=true then do let ok <- isTrue c X.env (eval c X.env);pure (ForInStep.yield ok) else pure (ForInStep.yield r)) (TP X pins σ Q) X.xe s
noncomputable def f9:TT:=λ_ H Q=>Q true H
theorem Bp:Fw X [] f9:=λ_ _ _ H _ I h=>wpAny_tests_nil ⟨H,I,h⟩
theorem uH{A:Around}{s:Shared}{m:Sem α}{Q' Q:α->Shared->Prop}(h:wpAny M A m Q' (λ_ _=>False) s)(k:∀x s',Q' x s'->Q x s'):wpAny M A m Q E s:=Km h k λ_ _ z=>z.elim
theorem lX{A:Around}{R:Result->Shared->Prop}{s:Shared}{target:Expr}{pos:Pos}{it acc:Value}{XE:Value->Shared->Prop}(I:Nat->Shared->Prop)(hx:∀x s',XE x s'->notedBy (model prog w) A env (λv s''=>R (.error v) s'') x s')
  (turn:∀n s,I n s->wpAny (model prog w) A (pyNext it) (λr s₁=>match r with
   |none=>R (.ok .next) s₁
   |some v=>wpAny (model prog w) A (letOwnedTupleGo target it v) (λ_ s₁'=>wpAny (model prog w) A (assign target env v) (λ_ s₂ =>
     wpAny (model prog w) A (forIn ifs true λc r=>if r=true then do let ok <- isTrue c env (eval c env);pure (ForInStep.yield ok) else pure (ForInStep.yield r)) (λok s₃ =>
      if ok=true then wpAny (model prog w) A (eval elt env) (λx s₄ =>
       wpAny (model prog w) A (call (.builtin "list.append") [acc,x]) (λ_ s₅=>∃m,m<n/\I m s₅) XE s₄) XE s₃
      else ∃m,m<n/\I m s₃) XE s₂) XE s₁') XE s₁) XE s)
  (n:Nat) (h:I n s):codeAny (model prog w) A (.compLoop (.ListComp elt [⟨target,iter,ifs,0⟩] scope pos) 0 it acc env) R s:=by
 refine codeAny_loop rfl I (λn s hI=>?_) n h;show wpAny _ A ((compTurn (.ListComp elt [⟨target,iter,ifs,0⟩] scope pos) 0 it acc env).onRaise (λx=>do noteFrame x env;theTreesLotGoes x)) _ _ s
 refine wpAny_noted ?_;rw[compTurn_list];refine Js (Nm (Js (Km (turn n s hI) (λr s₁ h₁=>?_) hx)))
 cases r with
 |none=>exact Jz h₁
 |some v =>
  refine Js (Km h₁ (λ_ s₁' h₁'=>?_) hx);refine Js (Km h₁' (λ_ s₂ h₂=>Js (Km h₂ (λok s₃ h₃=>?_) hx)) hx)
  cases ok with
  |false=>exact Jz ⟨rfl,h₃⟩
  |true =>
   exact Js (Js (Km h₃ (λx s₄ h₄=>Js (Km h₄ (λ_ s₅ h₅=>Jz (Jz ⟨rfl,h₅⟩)) hx)) hx))
noncomputable def hX(wi:TI)(k:Nat)(g:TG)(tc:TT)(te:TE):TE:=λσ H Q=>wi σ H λJ H1=>∀D,H1 D=none ->
 ∃W:Nat->Nat->List V->St->Hp->Prop,(∃m,W 0 m [] (List.replicate k none++σ) (upd H1 D (.lst [])))/\∀i m ys σ' H',W i m ys σ' H'->H' D=some (.lst ys) /\
  ((J.stop i H'/\Q (.ref D) H')\/(J.go i H'/\ys.length<sizeLine/\∀x H2,J.CI i H' x H2->g x σ' H2 λσ3 H3=>tc σ3 H3 λb H4 =>
   if b=true then te σ3 H4 λv H5=>H5 D=some (.lst ys)/\∃m',m'<m/\W (i+1) m' (ys++[v]) σ3 (upd H5 D (.lst (ys++[v])))
   else ∃m',m'<m/\W (i+1) m' ys σ3 H4))
theorem rn{pos:Pos}{wi:TI}(S:aF osc ON scope own N)(hosc:X.env.scope=osc)(hON:X.N=ON)(hc:X.calm=true)(hi:PI X tg iter wi)
  (hg:∀C s H fp,PG (aJ X scope N C s H fp) tg g) (ht:∀C s H fp,Fw (aJ X scope N C s H fp) ifs tc) (XE:Addr->Shared->Hp->List Addr->Value->Shared->Prop)
  (he:∀C s H fp pins s' σ' H' Q',(∀b∈fp,∃o,(b,o)∈pins)->Inv (aJ X scope N C s H fp) pins σ' H' s'->te σ' H' Q'->wpAny (model X.prog X.w) X.A (eval elt (aJ X scope N C s H fp).env) (EP (aJ X scope N C s H fp) pins σ' Q') (XE C s H fp) s')
     {s:Shared} {Q:VK} (I:Inv X pins σ H s) (h:hX wi own.length g tc te σ H Q) 
  (fin:∀(D C:Addr) (H':Hp) (s':Shared) (m:Str->Option Value),Inv X pins σ H' s'->Q (.ref D) H'->H' C=none->X.s₀.heap.objs.size<=C->C≠X.env.locals->(∀x c,X.env.cells.lookup x=some c->c≠C)->(∀p∈X.pn++pins,p.1≠C) ->
   s'.heap.Ns C m->RR (.ref D) C (.ok .next) s')
  (hx:∀(D C:Addr) (s3:Shared) (H3:Hp) (fp:List Addr),C=s3.heap.objs.size->Inv X pins σ H3 s3->(∀{pins':List (Addr×Obj)} {σ':St} {H':Hp} {s':Shared},Inv (aJ X scope N C s3 H3 fp) pins' σ' H' s'->Inv X pins σ H' s') ->
   X.s₀.heap.objs.size<=C->C≠X.env.locals->(∀x c,X.env.cells.lookup x=some c->c≠C)->(∀p∈X.pn++pins,p.1≠C)->∀x s',XE C s3 H3 fp x s'->notedBy (model X.prog X.w) X.A (aJ X scope N C s3 H3 fp).env (λv s''=>RR (.ref D) C (.error v) s'') x s') :
  wpAny (model X.prog X.w) X.A (eval iter X.env) (λx s₁=>wpAny (model X.prog X.w) X.A (pyIter x) (λit s₂=>wpAny (model X.prog X.w) X.A (newList []) (λacc s₃ =>
   wpAny (model X.prog X.w) X.A (newFunctionEnv scope X.env.globals (dO X.env.cells scope.names []) [] X.env.qual none .none (some X.env)) (λcenv s₄ =>
    codeAny (model X.prog X.w) X.A (.compStart (.ListComp elt [⟨tg,iter,ifs,0⟩] scope pos) 0 it acc {cenv with scope:=relabel scope X.env}) (RR acc cenv.locals) s₄) X.xe s₃) X.xe s₂) X.xe s₁) X.xe s:=by
 refine bR (hi pins s σ H _ I h) λv s1 h1=>bR h1 λitv s2 h2=>?_;obtain⟨it,fp,tn,J,H2,e,I2,T,st2,f2,q⟩:=h2;subst e;refine KD (wpAny_newFunctionEnv S.jI (by intro y hy;simp at hy) (λh₁ hns₁ hsb₁=>?_) S.kind)
 dsimp only at hns₁ hsb₁ ⊢;have I3:Inv X pins σ (upd H2 s2.heap.objs.size (.lst [])) {s2 with heap:=s2.heap.push {cls:=.type "list",data:=.seq ([]:List Value).toArray},toks:=s2.toks}:=I2.DO (t':=s2.toks) .nil (Nat.zero_le _)
 have hD2:H2 s2.heap.objs.size=none:=I2.fresh;obtain⟨W,⟨m0,w0⟩,turn⟩:=q _ hD2;generalize hs3:({s2 with heap:=s2.heap.push {cls:=.type "list",data:=.seq ([]:List Value).toArray},toks:=s2.toks}:Shared)=s3 at I3
 have eh3:s3.heap=s2.heap.push {cls:=.type "list",data:=.seq ([]:List Value).toArray}:=by rw[<- hs3]
 generalize hD:s2.heap.objs.size=D at I3 turn w0 hD2 ⊢;generalize hH3:upd H2 D (.lst [])=H3 at I3 w0;rw[<- eh3] at hns₁ hsb₁ ⊢;have hC3:H3 s3.heap.objs.size=none:=I3.fresh;have hsz3:s3.heap.objs.size=D+1:=by rw[eh3,KQ,hD]
 have fp2:∀b∈fp,b<s2.heap.objs.size:=λb hb=>by
  obtain⟨o,e,_⟩:=T.obj _ _ st2 b hb;exact JI e
 have f3:∀b∈fp,me X pins H3 b:=λb hb=>by
  obtain⟨g0,g1⟩:=f2 b hb;refine⟨?_,g1⟩;rw[<- hH3,ar (by rw[<- hD];exact JS (fp2 b hb))]
  exact g0
 have neC:∀b o,s3.heap.get? b=some o->b≠s3.heap.objs.size:=λb o e=>JS (JI e);have old:∀b o,s3.heap.get? b=some o->h₁.get? b=some o:=λb o e=>hsb₁.extBut b o (neC b o e) (Jw _ e);have hk:=S.kind;have hfr:∀y∈scope.names,y.2=.free->∃c,X.env.cells.lookup y.1=some c:=λy hy hf=>I3.ok.has _ (by subst hosc;exact S.free y hy hf)
 have sub:=iR (acc:=[]) hfr (by intro x c e;simp at e)
 have JB:∀tk,Inv (aJ X scope N s3.heap.objs.size s3 H3 fp) [] (List.replicate own.length none++σ) H3 {s3 with heap:=h₁,toks:=tk}:=λtk=>by
  refine⟨⟨I3.ok.mod,S.kind,I3.ok.glob,I3.ok.blt,J7 _,λx y c e1 e2=>I3.ok.inj x y c (sub x c e1) (sub y c e2),λx hx=>?_,λx c hf _=>(by cases hf),I3.ok.hd,I3.ok.frames,.inl rfl,λb hb=>?_,I3.bs,JC I3.ok.sP I3.sz,λb o e hb=>?_,λb hb hf=>?_,I3.stack,I3.j5,I3.ok.tabs.un I3.base⟩,
   rfl,I3.bare,Un.kept old,⟨_,hns₁,λi x v e1 e2 e3=>?_⟩,λx c e=>?_,hC3,λx c e=>I3.cu x c (sub x c e),λp hp=>absurd (show p∈([]:List (Addr×Obj)) from hp) (by simp),I3.aN.kept old,?_⟩
  ·have q:=(cE (env:=X.env) x S.jI).2 hx;exact f_ (PySem.mem_of_lookup q)
  ·have hb:b∈fp:=hb;obtain⟨_,g1,g2,g3,g4,g5⟩:=f3 b hb;refine⟨?_,λx c e=>g4 x c (sub x c e)⟩;have:=fp2 b hb;show b≠s3.heap.objs.size;rw[hsz3,<- hD];exact JS (Nv this)
  ·have hb:b∈fp:=hb;obtain⟨_,g1,g2,g3,g4,g5⟩:=f3 b hb;rcases g3 with g3|g3
   ·exact I3.ok.nI b o e g3
   ·exact absurd (JQ (JI e) (JC I3.ok.sP g3)) (Ll _)
  ·have hb:b∈fp:=hb;obtain⟨_,g1,g2,g3,g4,g5⟩:=f3 b hb;rcases J5.mp (I3.kT b hf) with z|z
   ·exact g1 z
   ·exact g2 z
  ·have hi:own.length<=i:=by
    rcases K8 i own.length with hlt|hge
    ·rw[JU (by simpa using hlt),NK] at e2
     split at e2<;>cases e2
    ·exact hge
   rw[JO (by simpa using hi),JJ] at e2
   have e1:N[own.length+(i-own.length)]?=some x:=by rw[Nat.add_sub_cancel' hi];exact e1
   have e1d:(N.drop own.length)[i-own.length]?=some x:=by rw[KN];exact e1
   have nl:scope.names.lookup x≠some .local:=S.own x (K2 e1d);have vis:scope.names.lookup x=some .free:=by
    rcases e3 with z|z
    ·exact absurd ((cE (env:=X.env) x S.jI).1 z) nl
    ·exact (cE (env:=X.env) x S.jI).2 z
   have hlen:=I3.len;have hlt:i-own.length<X.N.length:=by
    rw[<- hlen];exact (Jv.mp e2).1
   have hxN:X.N[i-own.length]?=some x:=by
    rw[Jr hlt];have mz:(X.N[i-own.length],x)∈ON.zip (N.drop own.length):=by
     rw[<- hON];refine K2 (i:=i-own.length) ?_;rw[List.getElem?_zip_eq_some];exact⟨Jr hlt,e1d⟩
    rcases S.out _ mz with z|z
    ·exact Kk some z
    ·exact absurd z (by rw[vis];simp)
   have hko:X.env.scope.names.lookup x=some .cell\/X.env.scope.names.lookup x=some .free:=by subst hosc;exact S.free _ (PySem.mem_of_lookup vis) rfl
   obtain⟨m,hn,hl⟩:=I3.loc;have hv:FU X.env.scope x:=by
    rcases hko with z|z
    ·exact .inr (.inl z)
    ·exact .inr (.inr z)
   obtain⟨u,ru,lk⟩:=hl _ x v hxN e2 hv;refine⟨u,ru,.inr ⟨?_,?_⟩⟩
   ·rcases e3 with z|z
    ·exact absurd ((cE (env:=X.env) x S.jI).1 z) nl
    ·exact z
   ·rcases lk with ⟨k,_⟩|⟨_,c,ec,hcell⟩
    ·exfalso
     have k':X.env.scope.names.lookup x=some .local:=k;rcases hko with z|z
     ·rw[k'] at z;cases z
     ·rw[k'] at z;cases z
    ·obtain⟨c',ec'⟩:=f_ (cells:=X.env.cells) (acc:=[]) (PySem.mem_of_lookup vis);have:=sub x c' ec';rw[ec] at this;cases this;obtain⟨o,ho,hd⟩:=hcell;exact⟨c,ec',o,old c o ho,hd⟩
  ·obtain⟨v,o,ho,hd⟩:=I3.cell x c (sub x c e);exact⟨v,o,old c o ho,hd⟩
  ·show (List.replicate own.length none++σ).length=N.length;rw[S.len,Ju,JJ,I3.len,hON]
 have stat:∀{H':Hp},(∀b∈fp,H' b=none)->∀b∈fp,me (aJ X scope N s3.heap.objs.size s3 H3 fp) [] H' b:=λ{H'} hn b hb=>by
  obtain⟨_,g1,g2,g3,g4,g5⟩:=f3 b hb;refine⟨hn b hb,?_,λhf=>?_,.inl hb,λx c e=>g4 x c (sub x c e),λp hp=>absurd (show p∈([]:List (Addr×Obj)) from hp) (by simp)⟩
  ·have:=fp2 b hb;show b≠s3.heap.objs.size;rw[hsz3,<- hD];exact JS (Nv this)
  ·rcases J5.mp (I3.kT b hf) with z|z
   ·exact g1 z
   ·exact g2 z
 have st4:tn 0 h₁:=T.keep _ _ _ st2 λb hb o e=>old b o (by rw[eh3];exact Jw _ e)
 have o3:∀x c,X.env.cells.lookup x=some c->c≠s3.heap.objs.size:=λx c e z=>by
  obtain⟨v,o,ho,_⟩:=I3.cell x c e;exact absurd (JI ho) (by rw[z];exact Ll _)
 have o4:∀p∈X.pn++pins,p.1≠s3.heap.objs.size:=λp hp z=>absurd (JI (I3.pin p hp).1) (by rw[z];exact Ll _)
 have outI:∀{pins':List (Addr×Obj)} {σ':St} {H':Hp} {s':Shared},Inv (aJ X scope N s3.heap.objs.size s3 H3 fp) pins' σ' H' s'->Inv X pins σ H' s':=λI6=>by
  refine I3.CD (ch:=fp) I6.os I6.base I6.aN I6.bare λb hb=>?_;obtain⟨_,g1,g2,g3,g4,g5⟩:=f3 b hb;exact⟨g3,g1,g4,g5⟩
 have loop:∀s4:Shared,s4={s3 with heap:=h₁,toks:=s2.toks+([]:List (Str×Value)).length} ->
   codeAny (model X.prog X.w) X.A (.compLoop (.ListComp elt [⟨tg,iter,ifs,0⟩] scope pos) 0 (.ref it) (.ref D) (aJ X scope N s3.heap.objs.size s3 H3 fp).env) (RR (.ref D) s3.heap.objs.size) s4:=by
  rintro s4 rfl;refine lX (XE:=XE s3.heap.objs.size s3 H3 fp) (λn s'=>∃i ys σ' H',Inv (aJ X scope N s3.heap.objs.size s3 H3 fp) [] σ' H' s'/\tn i s'.heap/\(∀b∈fp,H' b=none)/\W i n ys σ' H') (hx D _ s3 H3 fp rfl I3 outI I3.sz (KZ I3.lt) o3 o4) ?_ m0 ⟨0,[],_,H3,JB _,st4,λb hb=>(f3 b hb).1,w0⟩;rintro n s5 ⟨i,ys,σ5,H5,I5,st5,fr5,w5⟩;obtain⟨hD5,ways⟩:=turn i n ys σ5 H5 w5;rcases ways with ⟨stop,qn⟩|⟨go,hys,step⟩
  ·refine uH (T.done (aJ X scope N s3.heap.objs.size s3 H3 fp) rfl rfl rfl hc i [] s5 σ5 H5 _ I5 (stat fr5) st5 stop) λr s6 hq1=>?_;obtain⟨hr,I6⟩:=hq1;subst hr;obtain⟨m,hn,_⟩:=I6.loc;exact fin D _ H5 s6 m (outI I6) qn I6.free I3.sz (KZ I3.lt) o3 o4 hn
  ·refine uH (T.item (aJ X scope N s3.heap.objs.size s3 H3 fp) rfl rfl rfl hc i [] s5 σ5 H5 _ I5 (stat fr5) st5 go) λr s6 hq2=>?_;obtain⟨u,hr,h6⟩:=hq2;subst hr;refine uH h6 λ_ s7 hq3=>?_;obtain⟨x,H7,I7,r7,y7,st7,fr7⟩:=hq3;have I7':=I7.pinned (stat fr7) (T.obj _ _ st7);have back:∀{σ8:St} {H8:Hp} {s8:Shared},Inv (aJ X scope N s3.heap.objs.size s3 H3 fp) ([]++iF fp s7.heap) σ8 H8 s8->tn (i+1) s8.heap/\∀b∈fp,H8 b=none:=λ{σ8 H8 s8} I8=>by
    refine⟨T.keep _ _ _ st7 λb hb o e=>(I8.pin (b,o) (JP _ (JP _ (dM hb e)))).1,λb hb=>?_⟩;obtain⟨o,e,d⟩:=T.obj _ _ st7 b hb;exact (I8.pin (b,o) (JP _ (JP _ (dM hb e)))).2.1
   have hcov:∀b∈fp,∃o,(b,o)∈([]:List (Addr×Obj))++iF fp s7.heap:=λb hb=>by
    obtain⟨o,e,_⟩:=T.obj _ _ st7 b hb;exact⟨o,JP _ (dM hb e)⟩
   refine uH (hg _ _ _ _ _ s7 σ5 H7 x u _ I7' r7 (step x H7 y7)) λ_ s8 hq4=>?_;obtain⟨σ8,H8,I8,q8⟩:=hq4;refine uH (ht _ _ _ _ _ s8 σ8 H8 _ I8 q8) λok s9 hq5=>?_;obtain⟨H9,I9,q9⟩:=hq5
   cases ok with
   |false =>
    rw[Jx (by simp)] at q9 ⊢
    obtain⟨m',hm,w9⟩:=q9;exact⟨m',hm,i+1,ys,σ8,H9,I9.fL,(back I9).1,(back I9).2,w9⟩
   |true =>
    rw[J6 rfl] at q9 ⊢;refine bR (he _ _ _ _ _ s9 σ8 H9 _ hcov I9 q9) λy s10 hq6=>?_;obtain⟨v10,H10,I10,r10,hD10,m',hm,w10⟩:=hq6;refine uH (ng _ s10 σ8 H10 (.ref D) [v10] (.ref D) [y] (λr H11=>r=.aG/\H11=upd H10 D (.lst (ys++[v10]))) I10 rfl (.cons r10 .nil) ⟨D,ys,v10,rfl,rfl,hD10,hys,rfl,rfl⟩) λ_ s11 hq7=>?_;obtain⟨_,H11,I11,_,_,e11⟩:=hq7;subst e11;exact⟨m',hm,i+1,_,σ8,_,I11.fL,(back I11).1,(back I11).2,w10⟩
 have start:=codeAny_compStart_list (R:=RR (.ref D) s3.heap.objs.size) (loop _ rfl) (T.self X.A 0 _ _ _ st4 (loop _ rfl));subst hs3;exact start
theorem mG{pos:Pos}{wi:TI}(S:aF osc ON scope own N)(hosc:X.env.scope=osc)(hON:X.N=ON)(hc:X.calm=true)(hi:PI X tg iter wi)
  (hg:∀C s H fp,PG (aJ X scope N C s H fp) tg g) (ht:∀C s H fp,Fw (aJ X scope N C s H fp) ifs tc) (he:∀C s H fp,PE (aJ X scope N C s H fp) elt te)
     {s:Shared} {Q:VK} (I:Inv X pins σ H s) (h:hX wi own.length g tc te σ H Q) 
  (fin:∀(D C:Addr) (H':Hp) (s':Shared) (m:Str->Option Value),Inv X pins σ H' s'->Q (.ref D) H'->H' C=none->X.s₀.heap.objs.size<=C->C≠X.env.locals->(∀x c,X.env.cells.lookup x=some c->c≠C)->(∀p∈X.pn++pins,p.1≠C) ->
   s'.heap.Ns C m->RR (.ref D) C (.ok .next) s') :
  wpAny (model X.prog X.w) X.A (eval iter X.env) (λx s₁=>wpAny (model X.prog X.w) X.A (pyIter x) (λit s₂=>wpAny (model X.prog X.w) X.A (newList []) (λacc s₃ =>
   wpAny (model X.prog X.w) X.A (newFunctionEnv scope X.env.globals (dO X.env.cells scope.names []) [] X.env.qual none .none (some X.env)) (λcenv s₄ =>
    codeAny (model X.prog X.w) X.A (.compStart (.ListComp elt [⟨tg,iter,ifs,0⟩] scope pos) 0 it acc {cenv with scope:=relabel scope X.env}) (RR acc cenv.locals) s₄) X.xe s₃) X.xe s₂) X.xe s₁) X.xe s:=
 rn S hosc hON hc hi hg ht (λ_ _ _ _ _ _=>False) (λC s H fp pins s' σ' H' Q' _ I h=>he C s H fp pins s' σ' H' Q' I h) I h fin λ_ _ _ _ _ _ _ _ _ _ _ _ _ _ z=>z.elim
theorem AG{pos:Pos}{wi:TI}(S:aF osc ON scope own N)(hosc:X.env.scope=osc)(hON:X.N=ON)(hc:X.calm=true)(hi:PI X tg iter wi)
  (hg:∀C s H fp,PG (aJ X scope N C s H fp) tg g) (ht:∀C s H fp,Fw (aJ X scope N C s H fp) ifs tc) (he:∀C s H fp,PE (aJ X scope N C s H fp) elt te)
  (hs:autoParam (∀x,foldedSetIterable iter X.env x=pure x) ℜ3) :
  PE X (.ListComp elt [⟨tg,iter,ifs,0⟩] scope pos) (hX wi own.length g tc te):=by
 intro pins s σ H Q I h;have hfr:∀y∈scope.names,y.2=.free->∃c,X.env.cells.lookup y.1=some c:=λy hy hf=>I.ok.has _ (by subst hosc;exact S.free y hy hf)
 rw[eval_ListComp];refine ND (use:=none) rfl hs (gH hfr) S.kind S.loc ?_;refine mG S hosc hON hc hi hg ht he I h (RR:=λacc C=>compPost (model X.prog X.w) X.A X.xe none (EP X pins σ Q) acc C) ?_;intro D C H' s' m I' q h1 h2 h3 h4 h5 hn;exact⟨m,hn,λh'' hs''=>⟨.ref D,H',I'.turned (t':=s'.toks) (λb o hb e=>(hs''.2 b hb).trans e) h1 h3 (.inr h2) h4 h5,rfl,q⟩⟩
theorem qL{pos spos py:Pos}{wi:TI}{y:Str}(hN:X.N.Nodup)(hj:X.N[j]?=some y)(hx:Loc X.env.scope y)(S:aF osc ON scope own N)(hosc:X.env.scope=osc)(hON:X.N=ON)(hc:X.calm=true)(hi:PI X tg iter wi)
  (hg:∀C s H fp,PG (aJ X scope N C s H fp) tg g) (ht:∀C s H fp,Fw (aJ X scope N C s H fp) ifs tc) (he:∀C s H fp,PE (aJ X scope N C s H fp) elt te)
  (hsw:autoParam (swapsWith (.ListComp elt [⟨tg,iter,ifs,0⟩] scope pos) (some (.Name y py)) spos.line X.env=pure true) ℜ0)
  (hf:autoParam (X.fn y=true\/X.env.scope.names.lookup y=some .local) ℜ2)
  (hs:autoParam (∀x,foldedSetIterable iter X.env x=pure x) ℜ3) :
  PS X (.Assign [.Name y py] (.ListComp elt [⟨tg,iter,ifs,0⟩] scope pos) spos) (lH (hX wi own.length g tc te) (aZ j)):=by
 intro pins s σ H Dn I h;have hfr:∀y∈scope.names,y.2=.free->∃c,X.env.cells.lookup y.1=some c:=λy hy hf=>I.ok.has _ (by subst hosc;exact S.free y hy hf)
 rw[exec_Assign_Name_used _ _ _ _ hsw];refine Js (Nm (Js ?_));show wpAny _ X.A (do let _ <- comprehension (.ListComp elt [⟨tg,iter,ifs,0⟩] scope pos) scope X.env _ (newList []) false (eval iter X.env) (some (assign (.Name y py) X.env))) _ _ s
 refine Js (Km (ND (use:=some (assign (.Name y py) X.env)) (Q:=λ_ s'=>SP X pins Dn .next s') rfl hs (gH hfr) S.kind S.loc ?_) (λ_ s' hq=>Jz (Jz hq)) λ_ _ e=>e);refine mG S hosc hON hc hi hg ht he I h (RR:=λacc C=>compPost (model X.prog X.w) X.A X.xe (some (assign (.Name y py) X.env)) (λ_ s'=>SP X pins Dn .next s') acc C) ?_;intro D C H' s' m I' q h1 h2 h3 h4 h5 hn;show wpAny _ X.A (assign (.Name y py) X.env (.ref D)) _ _ _;refine wpAny_assign_Name (nq I' hN hj hx (v:=.ref D) rfl (λs'' I'' hsb=>?_) hf);obtain⟨a,sb,ha⟩:=hsb;have nC:C≠a:=by
  rcases ha with ha|ha
  ·rw[ha];exact h3
  ·exact (h4 y a ha).symm
 exact⟨m,hn.sameBut sb nC,λh'' hs''=>⟨_,H',I''.turned (t':=s''.toks) (λb o hb e=>(hs''.2 b hb).trans e) h1 h3 (.inr h2) h4 h5,q⟩⟩
noncomputable def eZ(e:Expr):Bool:=match e with
 |.Starred ..=>false
 |_=>true
theorem df{e:Expr}(h:eZ e=true):starEach (e::es) env=(false,eval e env)::starEach es env:=by
 cases e<;>first|rfl|cases h
theorem plain_any{pos:Pos}:∀{es:List Expr},es.all eZ=true->(backTo pos (starEach es env)).any (·.1)=false
 |[],_=>rfl
 |e::es,h=>by
  rw[Lm,Kv] at h;rw[df h.1];show (false || (backTo pos (starEach es env)).any (·.1))=false;rw[plain_any h.2];rfl
theorem plain_all{pos:Pos}:∀{es:List Expr},es.all eZ=true->(backTo pos (starEach es env)).all (λx=>!x.1)=true
 |[],_=>rfl
 |e::es,h=>by
  rw[Lm,Kv] at h;rw[df h.1];show (true && (backTo pos (starEach es env)).all (λx=>!x.1))=true;rw[plain_all h.2];rfl
theorem DH{e:Expr}(h:(e::es).all eZ=true)(hl:(e::es).length<30):
  ((backTo cpos (starEach (e::es) env)).all (λx=>!x.1) && (backToKw cpos (keywordEach [] env)).all (λx=>x.1.isSome) && decide ((e::es).length+([]:List Keyword).length+(if ([]:List Keyword).isEmpty then 0 else 1)<30))=true:=by
 rw[plain_all h];have e2:(backToKw cpos (keywordEach [] env)).all (λx=>x.1.isSome)=true:=rfl;rw[e2];have e3:(e::es).length+([]:List Keyword).length+(if ([]:List Keyword).isEmpty then 0 else 1)<30:=hl
 rw[JX e3];rfl
section
variable {X:Cx} {e:Expr} {es:List Expr} {te:TE} {t:TA}
theorem Ii(ha:PE X e te)(hr:PA X es t)(h:autoParam (eZ e=true) ℜ0):PA X (e::es) (jb te t):=sv ha hr (df h)
theorem Gr{id:String}{p pos:Pos}(hc:a_ X (.builtin id) r)(hg:Gl X x)(hm:X.mg x=none)(hv:bootBuiltins x=some (.builtin id))(ha:PA X (e::es) t)(h1:autoParam (eZ e=true) ℜ0)(h2:autoParam (es.all eZ=true) ℜ0)(hn:autoParam (x≠"__name__") ℜ1)(hdb:autoParam ((x ==("__debug__":Str))=false) ℜ1):
  PE X (.Call (.Name x p) (e::es) [] pos) (Ar r t):=yo hc hg hm hv ha hn hdb (df h1) (plain_any h2)
theorem GG{T:String}{p pos:Pos}(hc:a_ X (.type T) r)(hg:Gl X x)(hm:X.mg x=none)(hv:bootBuiltins x=some (.type T))(ha:PA X (e::es) t)(h1:autoParam (eZ e=true) ℜ0)(h2:autoParam (es.all eZ=true) ℜ0)(hn:autoParam (x≠"__name__") ℜ1)(hdb:autoParam ((x ==("__debug__":Str))=false) ℜ1):
  PE X (.Call (.Name x p) (e::es) [] pos) (Ar r t):=uI hc hg hm hv ha hn hdb (df h1) (plain_any h2)
theorem DD{o:Expr}{to:TE}{name:Str}{apos:Pos}{T id:String}{r:V->List V->Hp->VK->Prop}(pa:PlainAttrs T)(slot:Slot T name id)(hty:typeOf (.builtin id)=pure (.type "method_descriptor"))(hm:vk X id r)(ho:PE X o to)(ha:PA X (e::es) t)
  (hbase:attributeBase o name X.env (eval o X.env)=eval o X.env) (hline:(apos.endLine == cpos.line)=true) (h:(e::es).all eZ=true) (hl:(e::es).length<30):PE X (.Call (.Attribute o name apos) (e::es) [] cpos) (Em X.K T r to t):=by
 have h':=h;rw[Lm,Kv] at h';exact Ga pa slot hty hm ho ha hbase (DH h hl) hline (df h'.1) (plain_any h'.2)
theorem q_{a:Expr}{ta:TA}{p pos:Pos}(hg:Gl X "range")(hm:X.mg "range"=none)(ha:PA X [a] ta)(h:autoParam (eZ a=true) ℜ0):PI X tg (.Call (.Name "range" p) [a] [] pos) (m6 ta):=uY hg hm ha (df h)
end
structure HasFn (K:W.Frag) (mg:Str->Option Value) (x:Str) (st:Stmt) (ps:List Str):Prop where
 ex:∃(f:Addr) (fd:FuncData),lQ K x x st f fd/\Binds K fd ps []/\mg x=some (.ref f)
structure aq (P:Program) (w:World) (K:W.Frag) (mg:Str->Option Value) (base:Heap) (CX:oI) (k:Nat) (x:Str) (ps:List Str) (sp:Sp):Prop where
 ex:∃(f:Addr) (fd:FuncData),mg x=some (.ref f)/\W.keepIn K (.ref f)=true/\Binds K fd ps []/\bT P w K mg base CX k f fd ps sp
section
variable {P:Program} {w:World} {K:W.Frag} {mg:Str->Option Value} {base:Heap}
theorem HasFn.ok{ps:List Str}{k:Nat}(F:HasFn K mg x st ps)(S:av N ps (ae st))(len:∀vs H Q E,sp vs H Q E->vs.length=ps.length)
  (hbody:∀(f:Addr) (cdv:Value) (A:Around) (outer:List Env) (s:Shared) (H:Hp) (vs:List V) (Q:VK) (E:XK),b9 k (A.deeper (envOfC x (ae st) s.heap.objs.size f cdv))->sp vs H Q E ->
   ∃t,rD (fE aP P w K mg base N x (ae st) f cdv A outer s H E).vO (aR st) t/\t {nx:=λ_ H'=>Q .aG H',rt:=Q} (start N vs) H):aq P w K mg base aP (k+1) x ps sp:=by
 obtain⟨f,fd,F1,b,m⟩:=F.ex;exact⟨f,fd,m,F1.kp,b,F1.ok S len λcdv A outer s H vs Q E hr h=>hbody f cdv A outer s H vs Q E hr h⟩
end
section
variable {X:Cx} {CX:oI} {k:Nat} {ps:List Str} {sp:Sp} {E:XK} {x:Str} {p pos:Pos} {e:Expr} {es:List Expr} {t:TA}
theorem Gx(F:aq X.prog X.w X.K X.mg X.base CX k x ps sp)(hr:b9 k X.A)(hg:Gl X x)(hx:Passes CX X E)(ha:PA X (e::es) t)(h1:autoParam (eZ e=true) ℜ0)(h2:autoParam (es.all eZ=true) ℜ0)(hdb:autoParam ((x ==("__debug__":Str))=false) ℜ1):
  PE X (.Call (.Name x p) (e::es) [] pos) (la sp [] E t):=by
 obtain⟨f,fd,m,kp,b,G⟩:=F.ex;exact A9 G hr hg m kp b .nil hx ha hdb (df h1) (plain_any h2)
end
noncomputable def EY:Expr->Option V
 |.Constant (.int i) _ _=>some (.int i)
 |.Constant (.str x) _ _=>some (.str x)
 |.Constant (.bool b) _ _=>some (.bl b)
 |.Constant .none _ _=>some .aG
 |_=>none
noncomputable def sA:List Expr->Option (List V)
 |[]=>some []
 |e::es=>match EY e,sA es with
  |some v,some vs=>some (v::vs)
  |_,_=>none
noncomputable def tK(vs:List V):TA:=λ_ H Q=>Q vs H
theorem Dp{e:Expr}{v:V}(h:EY e=some v):PE X e (tC v)/\∀es,starEach (e::es) X.env=(false,eval e X.env)::starEach es X.env:=by
 unfold EY at h
 split at h
 ·cases h;exact⟨xt,λ_=>rfl⟩
 ·cases h;exact⟨yE,λ_=>rfl⟩
 ·cases h;exact⟨CF,λ_=>rfl⟩
 ·cases h;exact⟨zh,λ_=>rfl⟩
 ·cases h
theorem mx{X:Cx}:∀{es:List Expr} {vs:List V},sA es=some vs->PA X es (tK vs)
 |[],vs,h=>by cases h;exact xg
 |e::es,vs,h=>by
  unfold sA at h
  split at h
  ·rename_i v ws e1 e2;cases h;have p:=Dp (X:=X) e1;exact sv (te:=tC v) (t:=tK ws) p.1 (mx e2) (p.2 es)
  ·cases h
noncomputable def sq(H:Hp)(p:Addr):Option (Bool×List V):=match H p with
 |some (.lst xs)=>some (true,xs)
 |some (.tup xs)=>some (false,xs)
 |some (.jD _ (.lst xs))=>some (true,xs)
 |some (.jD _ (.tup xs))=>some (false,xs)
 |_=>none
theorem gh(h:sq H p=some (true,xs)):bB K H p xs:=by
 unfold sq at h
 split at h
 ·rename_i e;cases h;exact .inl (.inl e)
 ·cases h
 ·rename_i e;cases h;exact .inl (.inr ⟨_,e⟩)
 ·cases h
 ·cases h
theorem fM(h:sq H p=some (false,xs)):bb K H p xs:=by
 unfold sq at h
 split at h
 ·cases h
 ·rename_i e;cases h;exact .inl (.inl e)
 ·cases h
 ·rename_i e;cases h;exact .inl (.inr ⟨_,e⟩)
 ·cases h
theorem rF(h:sq H p=some (b,xs)):bB K H p xs\/bb K H p xs:=by
 cases b with
 |true=>exact .inl (gh h)
 |false=>exact .inr (fM h)
theorem ay(h:H p=some (.lst xs)):sq H p=some (true,xs):=by unfold sq;rw[h]
theorem aH(h:H p=some (.tup xs)):sq H p=some (false,xs):=by unfold sq;rw[h]
section
variable {X:Cx}
noncomputable def vw(K:W.Frag):R2:=λx y H Q=>match x,y with
 |.int i,.int j=>Q (.int (i+j)) H
 |.str i,.str j=>i.length+j.length<=sizeLine/\Q (.str (i++j)) H
 |.ref a,.ref b=>match H a,H b with
  |some (.lst xs),some (.lst ys)=>xs.length+ys.length<=sizeLine/\∀p,H p=none->Q (.ref p) (upd H p (.lst (xs++ys)))
  |some (.tup xs),some (.tup ys)=>xs≠[]/\ys≠[]/\xs.length+ys.length<=sizeLine/\∀p,H p=none->Q (.ref p) (upd H p (.tup (xs++ys)))
  |_,_=>False
 |_,_=>False
theorem BD:cB X (binaryOp .Add) (vw X.K):=by
 intro pins s σ H x y v u Q I rx ry h
 cases x with
 |int i=>cases y with
  |int j=>exact xb pins s σ H _ _ v u Q I rx ry ⟨i,j,rfl,rfl,h⟩
  |_=>exact (show False from h).elim
 |str i=>cases y with
  |str j=>exact kM pins s σ H _ _ v u Q I rx ry ⟨i,j,rfl,rfl,h.1,h.2⟩
  |_=>exact (show False from h).elim
 |ref a=>cases y with
  |ref b =>
   unfold vw at h;simp only at h
   split at h
   ·rename_i xs ys e1 e2;exact yV pins s σ H _ _ v u Q I rx ry ⟨a,b,xs,ys,rfl,rfl,e1,e2,h.1,h.2⟩
   ·rename_i xs ys e1 e2;obtain⟨h1,h2,h3,h4⟩:=h;exact sN pins s σ H _ _ v u Q I rx ry ⟨a,b,xs,ys,rfl,rfl,bb.of e1,bb.of e2,h1,h3,λz=>absurd z h2,λ_=>h4⟩
   ·exact h.elim
  |_=>exact (show False from h).elim
 |_=>exact (show False from h).elim
noncomputable def En:R2:=λx y H Q=>match x,y with
 |.int i,.int j=>xY i j/\Q (.int (i*j)) H
 |.ref a,.int j=>GP (.ref a) (.int j) H Q
 |_,_=>False
theorem dm:cB X (binaryOp .Mult) En:=by
 intro pins s σ H x y v u Q I rx ry h
 cases x with
 |int i=>cases y with
  |int j=>exact Fb pins s σ H _ _ v u Q I rx ry ⟨i,j,rfl,rfl,h.1,h.2⟩
  |_=>exact (show False from h).elim
 |ref a=>cases y with
  |int j=>exact EW pins s σ H _ _ v u Q I rx ry h
  |_=>exact (show False from h).elim
 |_=>exact (show False from h).elim
theorem bj:cB X (compareOp .Eq) Eg:=CU
theorem Fd:cB X (compareOp .NotEq) Hv:=CQ
noncomputable def Gk(K:W.Frag)(neg:Bool):R2:=λx y H Q=>match y with
 |.str j=>∃i,x=.str i/\Q (.bl (if neg then !(!(Builtin.Str.occurrences j i 0 j.length 1).isEmpty) else !(Builtin.Str.occurrences j i 0 j.length 1).isEmpty)) H
 |.ref p=>match sq H p with
  |some (_,xs)=>b_ x=true/\xs.all b_=true/\Q (.bl (if neg then !qd x xs else qd x xs)) H
  |none=>∃xs,bb K H p xs/\b_ x=true/\xs.all b_=true/\Q (.bl (if neg then !qd x xs else qd x xs)) H
 |_=>False
theorem Fs{neg:Bool}{x:V}{Q:VK}(h:Gk K neg x (.ref p) H Q):IF K neg x (.ref p) H Q:=by
 unfold Gk at h;simp only at h
 split at h
 ·rename_i xs e;exact⟨p,_,rfl,rF e,h.1,h.2.1,h.2.2⟩
 ·obtain⟨xs,hq,h⟩:=h;exact⟨p,xs,rfl,.inr hq,h.1,h.2.1,h.2.2⟩
theorem ET{k:Nat}(hu:k<cLine):cB X (compareOp .In) (Gk X.K false):=by
 intro pins s σ H x y v u Q I rx ry h
 match y,h with
 |.str j,h =>
  obtain⟨i,rfl,h'⟩:=h;exact vq pins s σ H _ _ v u Q I rx ry ⟨i,j,rfl,rfl,h'⟩
 |.ref p,h=>exact mB pins s σ H _ _ v u Q I rx ry (Fs h)
noncomputable def Ak(K:W.Frag):R2:=λx y H Q=>match x,y with
 |.str z,.int i=>z.length<=sizeLine/\(match bX z.cps.toList i with|some c=>Q (.str ⟨#[c]⟩) H|none=>False)
 |.ref p,.int i=>match sq H p with
  |some (_,xs)=>(match bX xs i with|some v=>Q v H|none=>False)
  |none=>∃xs v,bb K H p xs/\bX xs i=some v/\Q v H
 |_,_=>False
theorem Jp{k:Nat}(hu:k<cLine):v8 X (Ak X.K):=by
 intro value slice pins s σ H x y v u Q I rx ry h hs;refine Dh value slice pins s σ H x y v u Q I rx ry ?_ hs
 cases x with
 |str z=>cases y with
  |int i =>
   obtain⟨hz,h⟩:=h
   split at h
   ·rename_i c e;exact .inr (.inr ⟨z,i,c,rfl,rfl,hz,e,h⟩)
   ·exact h.elim
  |_=>exact (show False from h).elim
 |ref p=>cases y with
  |int i =>
   unfold Ak at h;simp only at h
   split at h
   ·rename_i b xs e
    split at h
    ·rename_i w' e'
     cases b with
     |true=>exact .inl ⟨p,xs,i,w',rfl,rfl,gh e,e',h⟩
     |false=>exact .inr (.inl ⟨p,xs,i,w',rfl,rfl,fM e,e',h⟩)
    ·exact h.elim
   ·obtain⟨xs,w',hq,e',h⟩:=h;exact .inr (.inl ⟨p,xs,i,w',rfl,rfl,hq,e',h⟩)
  |_=>exact (show False from h).elim
 |_=>exact (show False from h).elim
noncomputable def HX(K:W.Frag):V->Option Int->Option Int->Hp->VK->Prop:=λx lo hi H Q=>match x with
 |.ref p=>match sq H p with
  |some (true,xs)=>∀q,H q=none->Q (.ref q) (upd H q (.lst (d5 xs lo hi)))
  |some (false,xs)=>qH K (.ref p) lo hi H Q
  |none=>qH K (.ref p) lo hi H Q
 |_=>False
theorem Bs:sT X (HX X.K):=by
 intro pins s σ H x v vl vu lo hi sl Q I rx hs pl pu h
 match x,h with
 |.ref p,h =>
  unfold HX at h;simp only at h
  split at h
  ·rename_i xs e;exact nN pins s σ H _ v vl vu lo hi sl Q I rx hs pl pu ⟨p,xs,rfl,gh e,h⟩
  ·exact qF pins s σ H _ v vl vu lo hi sl Q I rx hs pl pu h
  ·exact qF pins s σ H _ v vl vu lo hi sl Q I rx hs pl pu h
noncomputable def xE:V->V->V->Hp->(Hp->Prop)->Prop:=λo i v H Q=>match o,i with
 |.ref p,.int k=>match H p with
  |some (.lst xs)=>(match lJ xs.length k with|some j=>Q (upd H p (.lst (xs.set j v)))|none=>False)
  |_=>False
 |_,_=>False
theorem uset:DR X xE:=by
 intro pins s σ H o i v ov iv u Q I ro ri rv h
 cases o with
 |ref p=>cases i with
  |int k =>
   unfold xE at h;simp only at h
   split at h
   ·rename_i xs e
    split at h
    ·rename_i j e';exact set_list pins s σ H _ _ v ov iv u Q I ro ri rv ⟨p,xs,k,j,rfl,rfl,e,e',h⟩
    ·exact h.elim
   ·exact h.elim
  |_=>exact (show False from h).elim
 |_=>exact (show False from h).elim
noncomputable def wU(K:W.Frag):List V->Hp->VK->Prop:=λxs H Q=>match xs with
 |[.str y]=>y.length<=sizeLine/\Q (.int y.length) H
 |[.ref p]=>match sq H p with
  |some (_,ys)=>Q (.int ys.length) H
  |none=>∃ys,bb K H p ys/\Q (.int ys.length) H
 |_=>False
theorem uL:a_ X (.builtin "len") (wU X.K):=by
 intro pins s σ H xs us Q I r h;rcases xs with _|⟨x,_|⟨y,xs⟩⟩
 ·exact (show False from h).elim
 rotate_left
 ·cases x<;>exact (show False from h).elim
 cases x with
 |str y=>exact hZ pins s σ H _ us Q I r ⟨.str y,_,rfl,⟨h.1,rfl⟩,h.2⟩
 |ref p =>
  unfold wU at h;simp only at h
  split at h
  ·rename_i b ys e;refine hZ pins s σ H _ us Q I r ⟨.ref p,ys.length,rfl,?_,h⟩
   cases b with
   |true=>exact .inl ⟨ys,gh e,rfl⟩
   |false=>exact .inr ⟨ys,fM e,rfl⟩
  ·obtain⟨ys,hq,h⟩:=h;exact hZ pins s σ H _ us Q I r ⟨.ref p,ys.length,rfl,.inr ⟨ys,hq,rfl⟩,h⟩
 |_=>exact (show False from h).elim
noncomputable def FG:List V->Hp->VK->Prop:=λxs H Q=>match xs with
 |[.int i,.int j]=>Q (.int (if j<i then j else i)) H
 |_=>False
theorem ni(hc:X.calm=true):a_ X (.builtin "min") FG:=by
 intro pins s σ H xs us Q I r h;rcases xs with _|⟨x,_|⟨y,_|⟨z,xs⟩⟩⟩
 ·exact (show False from h).elim
 ·cases x<;>exact (show False from h).elim
 ·cases x with
  |int i=>cases y with
   |int j=>exact u9 hc pins s σ H _ us Q I r ⟨i,j,rfl,h⟩
   |_=>exact (show False from h).elim
  |_=>exact (show False from h).elim
 ·cases x with
  |int i=>cases y<;>exact (show False from h).elim
  |_=>exact (show False from h).elim
noncomputable def nA(K:W.Frag):List V->Hp->VK->Prop:=λxs H Q=>match xs with
 |[.ref p]=>match sq H p with
  |some (true,ys)=>∀l,H l=none->Q (.ref l) (upd H l (.tup ys))
  |some (false,_)=>Q (.ref p) H
  |none=>∃ys,bb K H p ys/\Q (.ref p) H
 |_=>False
theorem pM:a_ X (.type "tuple") (nA X.K):=by
 intro pins s σ H xs us Q I r h;rcases xs with _|⟨x,_|⟨y,xs⟩⟩
 ·exact (show False from h).elim
 rotate_left
 ·cases x<;>exact (show False from h).elim
 cases x with
 |ref p =>
  unfold nA at h;simp only at h
  split at h
  ·rename_i ys e;exact eH pins s σ H _ us Q I r ⟨p,ys,rfl,.inl ⟨gh e,h⟩⟩
  ·rename_i ys e;exact eH pins s σ H _ us Q I r ⟨p,ys,rfl,.inr ⟨fM e,h⟩⟩
  ·obtain⟨ys,hq,h⟩:=h;exact eH pins s σ H _ us Q I r ⟨p,ys,rfl,.inr ⟨hq,h⟩⟩
 |_=>exact (show False from h).elim
noncomputable def Hk:List V->Hp->VK->Prop:=λxs H Q=>match xs with
 |[.int i]=>Q (.int i) H
 |[.bl k]=>Q (.int (if k=true then 1 else 0)) H
 |_=>False
theorem uV:a_ X (.type "int") Hk:=by
 intro pins s σ H xs us Q I r h;rcases xs with _|⟨x,_|⟨y,ys⟩⟩
 ·exact (show False from h).elim
 ·cases x with
  |int i=>exact mq pins s σ H _ us Q I r (.inl ⟨i,rfl,h⟩)
  |bl k=>exact mq pins s σ H _ us Q I r (.inr ⟨k,rfl,h⟩)
  |_=>exact (show False from h).elim
 ·cases x<;>exact (show False from h).elim
noncomputable def Gg:List V->Hp->VK->Prop:=λxs H Q=>match xs with
 |[.int i]=>i.natAbs.log2<1920/\Q (.str (toString i)) H
 |[.str z]=>Q (.str z) H
 |_=>False
theorem va:a_ X (.type "str") Gg:=by
 intro pins s σ H xs us Q I r h
 match xs,h with
 |[.int i],h=>exact oi pins s σ H _ us Q I r ⟨i,rfl,h.1,h.2⟩
 |[.str z],h =>
  obtain⟨u,rfl,t,rfl⟩:=vals1 r;exact PySem.P.str_of_str ⟨.str z,H,I,⟨_,rfl⟩,h⟩
theorem vn(hc:X.calm=true):a_ X (.builtin "sum") (λxs H Q=>∃(p:Addr) (ns:List Int),xs=[.ref p]/\bB X.K H p (ns.map V.int)/\Q (.int ns.sum) H):=by
 intro pins s σ H xs us Q I r h;obtain⟨p,ns,rfl,hq,q⟩:=h;obtain⟨u,rfl,ru⟩:=vals1 r;cases ru;obtain⟨its,rv,pl,hz⟩:=I.list hq;have hi:=intsAre_of rv;obtain⟨xs,hx⟩:=hi.allInts.items;have hl':s.heap.IsList p (intItems xs):=by rw[<- hx];exact pl.isList
 refine sum_intListG (I.ok.hd hc) hl' λh' tk t' hk=>?_;have e1:ns=xs.toList.map (·.1):=by rw[<- nums_intItems,<- hx];exact hi.numsOf.symm
 have e2:preSum (numAt xs) xs.size=ns.sum:=by rw[preSum_eq,Kn (by simp),e1]
 rw[e2];exact⟨.int ns.sum,H,I.kept hk,⟨_,rfl⟩,q⟩
theorem ER{T:String}{pos:Pos}(hg:Gl X x)(hm:X.mg x=none)(hv:bootBuiltins x=some (.type T))(hn:autoParam (x≠"__name__") ℜ1)(hd:autoParam ((x ==("__debug__":Str))=false) ℜ1):PE X (.Name x pos) (tC (.ty T)):=BK hg hm hv rfl hn hd
noncomputable def rJoin(K:W.Frag):V->List V->Hp->VK->Prop:=λx vs H Q=>∃z l ys,x=.str z/\vs=[.ref l]/\bB K H l (ys.map V.str)/\(ys.map (·.length)).sum+ys.length*z.length<=16777216/\Q (.str (Str.join z ys)) H
theorem jU:∀{ys:List Str} {us:List Value},Vals (ys.map V.str) us->StrsAre us ys
 |[],_,.nil=>.nil
 |y::ys,_,.cons r t=>by
  obtain⟨k,rfl⟩:=r;exact .cons y k (jU t)
theorem BE:vk X "str.join" (rJoin X.K):=by
 intro pins s σ H x xs v us Q I rx rs h;obtain⟨z,l,ys,rfl,rfl,hq,hz,q⟩:=h;obtain⟨t,rfl⟩:=rx;obtain⟨u,rfl,ru⟩:=vals1 rs;cases ru;obtain⟨its,rv,pl,_⟩:=I.list hq;refine join_list pl.isList (by simpa using jU rv) hz λt' k=>?_
 have e:Txt.join z ys=Str.join z ys:=StrLaws.glued_eq_join z ys;rw[e];exact⟨.str _,H,I.tok _,⟨_,rfl⟩,q⟩
end
section
variable {X:Cx} {e:Expr} {te:TE}
theorem tU(p:Nat->Bool):∀(l:List Nat),l.drop (l.takeWhile p).length=l.dropWhile p
 |[]=>rfl
 |x::l=>by
  by_cases h:p x
  ·simp[MW,Ml,h,tU p l]
  ·simp[MW,Ml,h]
end
open AutoSeq1 (wpAny_loadPart')
section
variable {prog:Program} {w:World} {A:Around} {E:Value->Shared->Prop} {s:Shared}
theorem ju{l:Addr}{x:Value}{Q:Value->Shared->Prop}(hit:s.heap.IsTupleIter it l i)(hl:s.heap.IsTuple l items)(hx:items[i]?=some x)
  (hQ:∀h',h'.IsTupleIter it l (i+1)->Heap.SameBut it s.heap h'->Q x {s with heap:=h'}):wpAny (model prog w) A (Builtin.SmallTypes.nextOf (.ref it)) Q E s:=by
 obtain⟨o,ho,hc,hd⟩:=id hit;obtain⟨ol,hol,_,nl,hdl⟩:=hl;unfold Builtin.SmallTypes.nextOf;refine Js (Kp (name:=Str.ofString "__next__") hit.typeIs Lw (K6 Lw hit.typeIs Ng ?_ (Na _)));show wpAny _ _ (field (.ref it) 0 >>= _) _ _ s;refine Js (La ho hd (x:=.ref l) rfl ?_);show wpAny _ _ (if (Value.ref l == Value.none)=true then _ else _) _ _ s
 rw[Jx (show ¬ ((Value.ref l == Value.none)=true) from JE)];show wpAny _ _ (field (.ref it) 1 >>= _) _ _ s;refine Js (La ho hd (x:=.int i 0) rfl ?_);show wpAny _ _ (seqItems? (.ref l) >>= _) _ _ s;refine Js (LW hol hdl ?_);simp only[Kg,hx];refine Js (Mx ho hd (by simp) (Jz ⟨x,rfl,Jz (hQ _ ?_ (KG ..))⟩))
 exact⟨_,Lv _ ho (ME (LK hd _)),(Obj.cls_mapFields ..).trans hc,by rw[LK hd];simp[rawInt]⟩
theorem kr{l:Addr}{Q:Value->Shared->Prop}(hh:A.handled=none)(hit:s.heap.IsTupleIter it l i)(hl:s.heap.IsTuple l items)(hx:items[i]?=none)
  (hE:∀h' e,Heap.ExtBut it s.heap h'->(∃o,h'.get? e=some o/\o.cls=.type "StopIteration")->E (.ref e) {s with heap:=h'}):wpAny (model prog w) A (Builtin.SmallTypes.nextOf (.ref it)) Q E s:=by
 obtain⟨o,ho,hc,hd⟩:=id hit;obtain⟨ol,hol,_,nl,hdl⟩:=hl;unfold Builtin.SmallTypes.nextOf;refine Js (Kp (name:=Str.ofString "__next__") hit.typeIs Lw (K6 Lw hit.typeIs Ng ?_ (Na _)));show wpAny _ _ (field (.ref it) 0 >>= _) _ _ s;refine Js (La ho hd (x:=.ref l) rfl ?_);show wpAny _ _ (if (Value.ref l == Value.none)=true then _ else _) _ _ s
 rw[Jx (show ¬ ((Value.ref l == Value.none)=true) from JE)];show wpAny _ _ (field (.ref it) 1 >>= _) _ _ s;refine Js (La ho hd (x:=.int i 0) rfl ?_);show wpAny _ _ (seqItems? (.ref l) >>= _) _ _ s;refine Js (LW hol hdl ?_);simp only[Kg,hx];refine Js (N3 (Js (Mx ho hd (by simp) ?_)))
 show wpAny _ _ (newExc (.type "StopIteration") [] >>= _) _ _ _;refine Js ?_;simp only[newExc,newTuple];refine Js (KD ?_ (by size_fits))
 refine Js (m:=firstArgMember _ _) (wpAny_of_eq (a:=Value.none) (by first|rfl | (simp only[firstArgMember];rfl)) ?_)
 refine KD ?_ (by size_fits)
 simp only[raiseNew];refine Js (wpAny_handled ?_)
 first|rw[show A.in1.handled=none from hh]|rw[hh]
 refine Js (Jz (wpAny_throw ?_));exact hE _ _ (((KG ..).extBut.push _).push _) ⟨_,JH _ rfl,rfl⟩
theorem iG(hh:A.handled=none)(it l:Addr)(hne:l≠it)(items:Array Value):
  Draws prog w A it [it,l] items.size (λi v=>items[i]?=some v) (λi h=>h.IsTupleIter it l i/\h.IsTuple l items) where
 live:=λ_ _ st=>let ⟨o,ho,_⟩:=st.1;⟨o,ho⟩
 frame:=λ_ _ _ st hk=>⟨let ⟨o,e,r⟩:=st.1;⟨o,hk it (by simp) o e,r⟩,let ⟨o,e,r⟩:=st.2;⟨o,hk l (by simp) o e,r⟩⟩
 item:=λi s Q E hi st hQ=>by
  refine ju st.1 st.2 (x:=items[i]) (by simp[hi]) λh' hit' hs'=>?_
  exact hQ _ h' s.toks (by simp[hi]) ⟨hit',st.2.extBut hs'.extBut hne⟩ hs'
 done:=λs Q E st hE=>kr hh st.1 st.2 (by simp) hE
theorem jY(l:Addr)(items:Array Value)(n:Nat)(dct:Option Addr)(sl:Array (Option Value)):
  Meets (Builtin.«enumerate.__new__» ⟨[.type "enumerate",.ref l],[]⟩) (λ_ R s=>s.heap.get? l=some {cls:=.type "tuple",dict:=dct,data:=.seq items n,slots:=sl} /\
   R (.ok (.ret (.ref (s.heap.push {cls:=.type "tuple_iterator",data:=.fields #[.ref l,.int 0 0]}).objs.size)))
    {s with heap:=(s.heap.push {cls:=.type "tuple_iterator",data:=.fields #[.ref l,.int 0 0]}).push {cls:=.type "enumerate",data:=.fields #[.none,.bool false,.ref s.heap.objs.size,rawInt 0,.none,.none]}}):=
 .of_wp λprog w A R s h=>by
  obtain⟨hp,g,d,tk,os⟩:=s;obtain⟨hl,h⟩:=h;have hsub:=sub_enumerate;have hL:Heap.IsTuple (Shared.heap ⟨hp,g,d,tk,os⟩) l items:=⟨_,hl,rfl,n,rfl⟩;wp_walk using ML hl;refine wpAny_stack_any λst=>Jz ?_;split
  ·rename_i c _ _ _ _ _
   cases (c == Value.type "enumerate")<;>(wp_walk using ML hl,LL hL;exact⟨_,rfl,h⟩)
  ·wp_walk using ML hl,LL hL;exact⟨_,rfl,h⟩
theorem lT{l:Addr}{Q:Value->Shared->Prop}(hL:s.heap.IsTuple l items)
  (h:∀h',IsEnum h' (s.heap.objs.size+1) s.heap.objs.size 0 .none->h'.IsTupleIter s.heap.objs.size l 0->h'.objs.size=s.heap.objs.size+2 ->
   (∀b o,s.heap.get? b=some o->h'.get? b=some o)->Q (.ref (s.heap.objs.size+1)) {s with heap:=h'}) :
  wpAny (model prog w) A (call (.type "enumerate") [.ref l]) Q E s:=by
 obtain⟨⟨c,dct,dt,sl⟩,hl,hc,n,hd⟩:=hL
 replace hc:c=.type "tuple":=hc
 replace hd:dt=.seq items n:=hd
 subst hc hd;refine O1 F.called_enumerate (by decide) (F.typeCall_enumerate_1 _) (F.newCall_enumerate_1 _) (λobj=>F.args_object_init_2 obj _) F.entry_enumerate_new (jY l items n dct sl) ⟨hl,?_⟩
 have hz:(s.heap.push {cls:=.type "tuple_iterator",data:=.fields #[.ref l,.int 0 0]}).objs.size=s.heap.objs.size+1:=KQ ..;show _/\_;rw[hz];have he:IsEnum ((s.heap.push {cls:=.type "tuple_iterator",data:=.fields #[.ref l,.int 0 0]}).push {cls:=.type "enumerate",data:=.fields #[.none,.bool false,.ref s.heap.objs.size,rawInt 0,.none,.none]}) (s.heap.objs.size+1) s.heap.objs.size 0 .none:=by
  have:=JH (s.heap.push {cls:=.type "tuple_iterator",data:=.fields #[.ref l,.int 0 0]}) (o:={cls:=.type "enumerate",data:=.fields #[.none,.bool false,.ref s.heap.objs.size,rawInt 0,.none,.none]}) rfl;rw[hz] at this;exact this
 refine⟨⟨_,he,rfl⟩,h _ he ⟨_,Jw _ (JH _ rfl),rfl,rfl⟩ (by rw[KQ,hz]) λb o x=>Jw _ (Jw _ x)⟩
end
section
variable {X:Cx} {pins:List (Addr×Obj)} {σ:St} {H:Hp} {s:Shared} {h':Heap}
theorem Inv.turns{t':Nat}(I:Inv X pins σ H s)(hf:∀b∈fp,me X pins H b)(k:∀b o,b∉fp->s.heap.get? b=some o->h'.get? b=some o):Inv X pins σ H {s with heap:=h',toks:=t'}:=by
 have nf:∀b u,H b=some u->b∉fp:=λb u e z=>by rw[(hf b z).1] at e;cases e
 refine I.step (g':=s.gens) (d':=s.drawn) (ch:=fp) (λb hb=>?_) (λb o _ _ hc e _=>k b o hc e) (λb o _ _ hc e _=>⟨o.slots,k b o hc e⟩) (λ_ _ _ _ n=>n)
  (λb o hc e=>⟨o,k b o hc e⟩) (λ_ _ e=>e) (λ_ _ _ e=>e) (λb ps e=>⟨#[],by rw[e];simp⟩) (λm hm=>?_) (λb u e=>?_) I.bare
 ·obtain⟨_,g1,g2,g3,g4,g5⟩:=hf b hb;exact⟨g3,g1,g4,g5⟩
 ·obtain⟨o,es,ep,ho,r⟩:=hm;exact⟨o,es,ep,k _ o (λz=>(hf _ z).2.1 rfl) ho,r⟩
 ·refine (I.aN b u e).jt (λc v hc q=>k c v ?_ q) (λ_ q=>q) (λ_ _ q=>q) λ_ _ _ q=>q;rcases hc with z|z
  ·rw[z];exact nf b u e
  ·exact nf c _ z
theorem Inv.nK{t':Nat}(I:Inv X pins σ H s)(hf:∀b∈fp,me X pins H b)(hp:s.heap.objs.size<=p)(k:∀b o,b∉fp->s.heap.get? b=some o->h'.get? b=some o)
  (new:bA X.prog X.w (upd H p o) h' p o):Inv X pins σ (upd H p o) {s with heap:=h',toks:=t'}:=by
 have nf:∀b u,H b=some u->b∉fp:=λb u e z=>by rw[(hf b z).1] at e;cases e
 have fr:H p=none:=I.aN.fresh hp;have np:∀b u,H b=some u->b≠p:=λb u e=>af e fr;have ne:∀b o,s.heap.get? b=some o->b≠p:=λb o e z=>by rw[z] at e;exact absurd (JQ (JI e) hp) (Ll _)
 refine I.step (g':=s.gens) (d':=s.drawn) (ch:=fp) (λb hb=>?_) (λb o _ _ hc e _=>k b o hc e) (λb o _ _ hc e _=>⟨o.slots,k b o hc e⟩) (λb o _ e n=>by rw[ar (ne b o e)];exact n)
  (λb o hc e=>⟨o,k b o hc e⟩) (λb xs e=>by rw[ar (np b _ e)];exact e) (λb o u e=>by rw[ar (np b _ e)];exact e) (λb ps e=>⟨#[],by rw[ar (np b _ e),e];simp⟩) (λm hm=>?_) (λb u e=>?_) I.bare
 ·obtain⟨_,g1,g2,g3,g4,g5⟩:=hf b hb;exact⟨g3,g1,g4,g5⟩
 ·obtain⟨o,es,ep,ho,r⟩:=hm;exact⟨o,es,ep,k _ o (λz=>(hf _ z).2.1 rfl) ho,r⟩
 ·by_cases hb:b=p
  ·subst hb;rw[aa] at e;cases e;exact new
  ·rw[ar hb] at e;refine (I.aN b u e).jt (λc v hc q=>k c v ?_ q) (λc q=>by rw[ar (np c _ q)];exact q) (λc xs q=>by rw[ar (np c _ q)];exact q) λc _ _ q=>by rw[ar (np c _ q)];exact q
   rcases hc with z|z
   ·rw[z];exact nf b u e
   ·exact nf c _ z
end
noncomputable def getL(K:W.Frag)(a:Addr):Nat->Hp->V->Prop:=λi H x=>∃xs,bB K H a xs/\xs[i]?=some x
noncomputable def IC(K:W.Frag)(a:Addr):Nat->Hp->V->Prop:=λi H x=>∃xs,bb K H a xs/\xs[i]?=some x
noncomputable def Ic(K:W.Frag)(a:Addr):Nat->Hp->Prop:=λi H=>∃xs,bB K H a xs/\xs.length=i
noncomputable def ID(K:W.Frag)(a:Addr):Nat->Hp->Prop:=λi H=>∃xs,bb K H a xs/\xs.length=i
noncomputable def Be(K:W.Frag)(a:Addr):It:=
 ⟨λi H=>∃x,IC K a i H x,λi H x H'=>∃p y,(∀xs,bb K H a xs->xs[i]?=some y)/\H p=none/\x=.ref p/\H'=upd H p (.tup [.int i,y]),ID K a⟩
theorem qW{tk:Nat}{tp:Pos}(a it e:Addr)(hne:e≠it):Turn P w K (.Tuple es tk tp) (Be K a) [e,it] e (λi h=>(∃old,IsEnum h e it i old)/\h.IsTupleIter it a i) where
 mem:=by simp
 obj:=λi h st b hb=>by
  obtain⟨⟨old,he⟩,o,eo,c,d⟩:=st;rcases J5.mp hb with z|z
  ·subst z;exact⟨_,he,λv z=>by cases z⟩
  ·have z:b=it:=by simpa using z
   subst z;exact⟨o,eo,λv z=>by rw[d] at z;cases z⟩
 keep:=λi h h' st k=>by
  obtain⟨⟨old,he⟩,o,eo,r⟩:=st;exact⟨⟨old,k e (by simp) _ he⟩,o,k it (by simp) o eo,r⟩
 item:=by
  intro X hP hw hK hc i pins s σ H E I hf st hg;subst hP hw hK;obtain⟨x,xs,hq,hx⟩:=hg;obtain⟨⟨old,he⟩,hit⟩:=st;obtain⟨its,rv,p,hz⟩:=I.tuple hq;obtain⟨u,hu,ru⟩:=rv.get hx;obtain⟨g0,g1,g2,g3,g4,g5⟩:=hf e (by simp)
  obtain⟨f0,f1,f2,f3,f4,f5⟩:=hf it (by simp)
  have ht:s.heap.IsTuple a its.toArray:=p;have ha:a≠it:=by
   rintro rfl;obtain⟨o,e1,c1,_⟩:=hit;obtain⟨o',e2,c2,_⟩:=ht;rw[e1] at e2;cases e2;rw[c1] at c2;exact absurd (Value.type.inj c2) (by decide)
  have hea:e≠a:=by
   rintro rfl;obtain⟨o',e2,c2,_⟩:=ht;have e1:s.heap.get? e=some _:=he;rw[e1] at e2;cases e2;exact absurd (Value.type.inj c2) (by decide)
  have hi:i<its.toArray.size:=by
   have:=(Jv.mp hu).1
   simpa using this
  refine NL (iG (A:=X.A.in1) (I.ok.hd hc) it a ha its.toArray) he ⟨hit,ht⟩ hi hne (by simp[hne,hea]) λx' h' tk' hP ho hs' hT hsz hk=>?_
  have ex:x'=u:=by
   have hP':its.toArray[i]?=some x':=hP;rw[Kz,hu] at hP';exact (Option.some.inj hP').symm
  subst ex;refine⟨.ref s.heap.objs.size,rfl,Nn ho λh2 he2 hs2=>?_⟩;have fr:H s.heap.objs.size=none:=I.aN.fresh (J7 _);have hle:e≠s.heap.objs.size:=JS (JI he);have hT2:h2.get? s.heap.objs.size=some {cls:=.type "tuple",data:=.seq #[.int i tk',x']}:=(hs2.2 _ (Ko hle)).trans hT;have I2:Inv X pins σ (upd H s.heap.objs.size (.tup [.int i,x])) {s with heap:=h2,toks:=tk'+1}:=by
   refine I.nK (fp:=[e,it]) hf (J7 _) (λb o hb eb=>?_) ⟨by show 2<=sizeLine;decide,[.int i tk',x'],.cons ⟨_,rfl⟩ (.cons ru .nil),⟨_,hT2,rfl,_,rfl,rfl⟩⟩
   have n1:b≠e:=λz=>hb (by simp[z])
   have n2:b≠it:=λz=>hb (by simp[z])
   exact (hs2.2 b n1).trans (hk b o n1 n2 eb)
  refine⟨.ref s.heap.objs.size,_,I2,rfl,⟨s.heap.objs.size,x,λys hy=>by rw[I.iI hy hq];exact hx,fr,rfl,rfl⟩,⟨⟨x',?_⟩,?_⟩,λb hb=>?_⟩
  ·have e:(((i+1:Nat)):Int)=(i:Int)+1:=by lia
   rw[e];exact he2
  ·obtain⟨o,e1,r⟩:=hs'.1;exact⟨o,(hs2.2 it (Ko hne)).trans e1,r⟩
  ·have n:b≠s.heap.objs.size:=by
    rcases J5.mp hb with z|z
    ·subst z;exact hle
    ·have z:b=it:=by simpa using z
     subst z;obtain⟨o,e1,_⟩:=hit;exact JS (JI e1)
   rw[ar n];exact (hf b hb).1
 done:=by
  intro X hP hw hK hc i pins s σ H E I hf st hg;subst hP hw hK;obtain⟨xs,hq,hx⟩:=hg;obtain⟨⟨old,he⟩,hit⟩:=st;obtain⟨its,rv,p,hz⟩:=I.tuple hq;have ht:s.heap.IsTuple a its.toArray:=p;have ha:a≠it:=by
   rintro rfl;obtain⟨o,e1,c1,_⟩:=hit;obtain⟨o',e2,c2,_⟩:=ht;rw[e1] at e2;cases e2;rw[c1] at c2;exact absurd (Value.type.inj c2) (by decide)
  have hl:=rv.length;have hsz:its.toArray.size=i:=by simp;lia
  refine NW (iG (A:=X.A.in1) (I.ok.hd hc) it a ha its.toArray) he (by rw[hsz];exact⟨hit,ht⟩) λh' eb=>⟨rfl,?_⟩
  exact I.turns (t':=s.toks) hf λb o hb e1=>eb b o (λz=>hb (by simp[z])) e1
 self:=λA i s Q E st h=>by
  obtain⟨⟨old,he⟩,_⟩:=st;exact M0 he h
section
variable {X:Cx} {es:List Expr} {tk:Nat} {tp:Pos}
noncomputable def pL(K:W.Frag)(ta:TA):TI:=λσ H R=>ta σ H λvs H1=>∃a,vs=[.ref a]/\(∃xs,bb K H1 a xs)/\R (Be K a) H1
theorem Ay{e:Expr}{ta:TA}{p pos:Pos}(hg:Gl X "enumerate")(hm:X.mg "enumerate"=none)(ha:PA X [e] ta)(h1:autoParam (eZ e=true) ℜ0)(hv:autoParam (bootBuiltins "enumerate"=some (.type "enumerate")) ℜ6):
  PI X (.Tuple es tk tp) (.Call (.Name "enumerate" p) [e] [] pos) (pL X.K ta):=by
 intro pins s σ H R I h;refine Call_ (fN I hg hm hv (KW (bR (ha pos pins s σ H _ I h) λus s1 hq1=>?_) (df h1) rfl));obtain⟨vs,H1,I1,r1,q1⟩:=hq1;obtain⟨a,e,⟨xs,hq⟩,q⟩:=q1;subst e;obtain⟨u,rfl,ru⟩:=vals1 r1;cases ru;obtain⟨its,rv,pt,hz⟩:=I1.tuple hq;refine lT (show s1.heap.IsTuple a its.toArray from pt) λh' he hit hsz hk=>?_;refine M0 he ?_;have I2:Inv X pins σ H1 {s1 with heap:=h'}:=I1.kept (t':=s1.toks) hk
 refine⟨s1.heap.objs.size+1,[s1.heap.objs.size+1,s1.heap.objs.size],_,_,H1,rfl,I2,qW a s1.heap.objs.size (s1.heap.objs.size+1) (KZ (L_ _)),⟨⟨_,he⟩,hit⟩,λb hb=>?_,q⟩;have hb':s1.heap.objs.size<=b:=by
  rcases J5.mp hb with z|z
  ·rw[z];exact Lg _
  ·have z:b=s1.heap.objs.size:=by simpa using z
   rw[z];exact J7 _
 exact I1.pN hb' (I1.aN.fresh hb')
noncomputable def Ad(K:W.Frag)(tl:TE):TI:=λσ H R=>tl σ H λx H1=>match x with
 |.ref a=>match sq H1 a with
  |some (true,_)=>R (we K a) H1
  |some (false,_)=>R (vC K a) H1
  |none=>(∃xs,bb K H1 a xs)/\R (vC K a) H1
 |_=>False
theorem Ep{l:Expr}(hl:PE X l tl):PI X tg l (Ad X.K tl):=by
 intro pins s σ H R I h;refine bR (hl pins s σ H _ I h) λv s1 hq2=>?_;obtain⟨x,H1,I1,r1,q1⟩:=hq2;obtain⟨a,rfl,q⟩:∃a,x=V.ref a/\(((∃xs,bB X.K H1 a xs)/\R (we X.K a) H1)\/((∃xs,bb X.K H1 a xs)/\R (vC X.K a) H1)):=by
  match x,q1 with
  |.ref a,q1 =>
   simp only at q1
   split at q1
   ·rename_i xs e;exact⟨a,rfl,.inl ⟨⟨xs,gh e⟩,q1⟩⟩
   ·rename_i xs e;exact⟨a,rfl,.inr ⟨⟨xs,fM e⟩,q1⟩⟩
   ·exact⟨a,rfl,.inr q1⟩
 cases r1;rcases q with ⟨⟨xs,hq⟩,q⟩|⟨⟨xs,hq⟩,q⟩
 ·obtain⟨its,rv,p,hz⟩:=I1.list hq;refine M1 p.isList ?_;refine⟨s1.heap.objs.size,[s1.heap.objs.size],_,_,H1,rfl,I1.kept (t':=s1.toks) λb o e=>Jw _ e,mZ a _,⟨_,JH _ rfl,rfl,rfl⟩,λb hb=>?_,q⟩;have e:b=s1.heap.objs.size:=by simpa using hb
  subst e;exact I1.pN (J7 _) (I1.aN.fresh (J7 _))
 ·obtain⟨its,rv,p,hz⟩:=I1.tuple hq;refine LL (show s1.heap.IsTuple a its.toArray from p) ?_;refine⟨s1.heap.objs.size,[s1.heap.objs.size],_,_,H1,rfl,I1.kept (t':=s1.toks) λb o e=>Jw _ e,jT a _,⟨_,JH _ rfl,rfl,rfl⟩,λb hb=>?_,q⟩;have e:b=s1.heap.objs.size:=by simpa using hb
  subst e;exact I1.pN (J7 _) (I1.aN.fresh (J7 _))
end
noncomputable def qG(J:It)(g:TG)(tb:TS)(D:Ends)(σ:St)(H:Hp):Prop:=∃W:Nat->Nat->St->Hp->Prop,(∃m,W 0 m σ H)/\∀i m σ H,W i m σ H ->
 (J.stop i H/\D.nx σ H)\/(J.go i H/\∃N:St->Hp->Prop,(∀σ' H',N σ' H'->∃m',m'<m/\W (i+1) m' σ' H')/\∀x H',J.CI i H x H'->g x σ H' λσ2 H2=>tb {D with nx:=N,ct:=N,bk:=D.nx} σ2 H2)
theorem AI(wi:TI)(g:TG)(tb:TS)(D:Ends)(σ:St)(H:Hp):Fo wi g tb D σ H=wi σ H λJ H1=>qG J g tb D σ H1:=rfl
noncomputable def mS(J:It)(k:Nat)(g:TG)(tc:TT)(te:TE)(Q:VK)(σ:St)(H1:Hp):Prop:=∀D,H1 D=none ->
 ∃W:Nat->Nat->List V->St->Hp->Prop,(∃m,W 0 m [] (List.replicate k none++σ) (upd H1 D (.lst [])))/\∀i m ys σ' H',W i m ys σ' H'->H' D=some (.lst ys) /\
  ((J.stop i H'/\Q (.ref D) H')\/(J.go i H'/\ys.length<sizeLine/\∀x H2,J.CI i H' x H2->g x σ' H2 λσ3 H3=>tc σ3 H3 λb H4 =>
   if b=true then te σ3 H4 λv H5=>H5 D=some (.lst ys)/\∃m',m'<m/\W (i+1) m' (ys++[v]) σ3 (upd H5 D (.lst (ys++[v])))
   else ∃m',m'<m/\W (i+1) m' ys σ3 H4))
theorem yK(wi:TI)(k:Nat)(g:TG)(tc:TT)(te:TE)(σ:St)(H:Hp)(Q:VK):hX wi k g tc te σ H Q=wi σ H λJ H1=>mS J k g tc te Q σ H1:=rfl
section
variable {K:W.Frag} {g:TG} {tb:TS} {D:Ends} {σ:St} {H:Hp} {te:TE} {Q:VK}
theorem fZ(Pv:Nat->St->Hp->Prop)(h0:Pv 0 σ H)(hl:∀i σ H,i<=xs.length->Pv i σ H->bB K H a xs)
  (hs:∀i x σ H,xs[i]?=some x->Pv i σ H->g x σ H λσ2 H2=>tb {D with nx:=Pv (i+1),ct:=Pv (i+1),bk:=D.nx} σ2 H2) (hd:∀σ H,Pv xs.length σ H->D.nx σ H):qG (we K a) g tb D σ H:=yL Pv h0 hl hs hd
theorem zp(Pv:Nat->St->Hp->Prop)(h0:Pv 0 σ H)(hl:∀i σ H,i<=xs.length->Pv i σ H->bb K H a xs)
  (hs:∀i x σ H,xs[i]?=some x->Pv i σ H->g x σ H λσ2 H2=>tb {D with nx:=Pv (i+1),ct:=Pv (i+1),bk:=D.nx} σ2 H2) (hd:∀σ H,Pv xs.length σ H->D.nx σ H):qG (vC K a) g tb D σ H:=BC Pv h0 hl hs hd
theorem fv{lo:Int}{n:Nat}(Pv:Nat->St->Hp->Prop)(h0:Pv 0 σ H)
  (hs:∀i σ H,i<n->Pv i σ H->g (.int (lo+i)) σ H λσ2 H2=>tb {D with nx:=Pv (i+1),ct:=Pv (i+1),bk:=D.nx} σ2 H2) (hd:∀σ H,Pv n σ H->D.nx σ H):qG (Cv lo n) g tb D σ H:=uC Pv h0 hs hd
theorem qP(Pv:Nat->St->Hp->Prop)(h0:Pv 0 σ H)(hl:∀i σ H,i<=xs.length->Pv i σ H->bb K H a xs)
  (hs:∀i x σ H p,xs[i]?=some x->Pv i σ H->H p=none->g (.ref p) σ (upd H p (.tup [.int i,x])) λσ2 H2=>tb {D with nx:=Pv (i+1),ct:=Pv (i+1),bk:=D.nx} σ2 H2) (hd:∀σ H,Pv xs.length σ H->D.nx σ H) :
  qG (Be K a) g tb D σ H:=by
 refine⟨λi m σ H=>m=xs.length-i/\i<=xs.length/\Pv i σ H,⟨xs.length,by simp,JL _,h0⟩,?_⟩
 rintro i m σ H ⟨rfl,hi,p⟩;have q:=hl i σ H hi p;by_cases hlt:i<xs.length
 ·refine .inr ⟨⟨xs[i],xs,q,by simp[hlt]⟩,Pv (i+1),λσ' H' p'=>⟨xs.length-(i+1),by lia,rfl,hlt,p'⟩,λx H' y=>?_⟩
  obtain⟨b,y,hy,fr,rfl,rfl⟩:=y;exact hs i y σ H b (hy xs q) p fr
 ·have e:i=xs.length:=by lia
  subst e;exact .inl ⟨⟨xs,q,rfl⟩,hd σ H p⟩
theorem dw(hn:xs.length<=sizeLine)(Pv:Addr->Nat->List V->Hp->Prop)(h0:∀D,H D=none->Pv D 0 [] (upd H D (.lst [])))(hD:∀D i ys H',Pv D i ys H'->H' D=some (.lst ys)/\ys.length=i)
  (hl:∀D i ys H',Pv D i ys H'->bb K H' a xs)
  (hs:∀D i ys H' x (R:VK),xs[i]?=some x->Pv D i ys H'->(∀v H5,H5 D=some (.lst ys)->Pv D (i+1) (ys++[v]) (upd H5 D (.lst (ys++[v])))->R v H5)->te (some x::σ) H' R) (hd:∀D ys H',Pv D xs.length ys H'->Q (.ref D) H') :
  mS (vC K a) 1 (aZ 0) f9 te Q σ H:=by
 intro D hD0;refine⟨λi m ys σ' H'=>m=xs.length-i/\i<=xs.length/\Pv D i ys H'/\∃o,σ'=o::σ,⟨xs.length,by simp,JL _,h0 D hD0,none,rfl⟩,?_⟩
 rintro i m ys σ' H' ⟨rfl,hi,p,o,rfl⟩;obtain⟨hDi,hly⟩:=hD _ _ _ _ p;have q:=hl _ _ _ _ p;refine⟨hDi,?_⟩;by_cases hlt:i<xs.length
 ·refine .inr ⟨⟨xs,xs[i],q,by simp[hlt]⟩,by lia,λx H2 y=>?_⟩
  obtain⟨rfl,y⟩:=y;unfold aZ f9;dsimp only;rw[if_pos rfl];exact hs D i ys H2 x _ (y xs q) p λv H5 q1 q2=>⟨q1,xs.length-(i+1),by lia,rfl,hlt,q2,_,rfl⟩
 ·have e:i=xs.length:=by lia
  subst e;exact .inl ⟨⟨xs,q,J7 _⟩,hd D ys H' p⟩
end
namespace Ap
theorem uD(i:Nat)(σ:St)(H:Hp)(Q:VK):L2.uD i σ H Q=∃v,σ[i]?=some (some v)/\Q v H:=rfl
theorem tC(v:V)(σ:St)(H:Hp)(Q:VK):L2.tC v σ H Q=Q v H:=rfl
theorem zL(r:R2)(ta tb:TE)(σ:St)(H:Hp)(Q:VK):L2.zL r ta tb σ H Q=ta σ H λx H1=>tb σ H1 λy H2=>r x y H2 Q:=rfl
theorem Gb(r:V->Hp->VK->Prop)(ta:TE)(σ:St)(H:Hp)(Q:VK):L2.Gb r ta σ H Q=ta σ H λx H1=>r x H1 Q:=rfl
theorem pR(t:TE)(σ:St)(H:Hp)(Q:Bool->Hp->Prop):L2.pR t σ H Q=t σ H λx H'=>∃k,x=.bl k/\Q k H':=rfl
theorem Gu(t:TT)(ta tb:TE)(σ:St)(H:Hp)(Q:VK):L2.Gu t ta tb σ H Q=t σ H λc H1=>if c=true then ta σ H1 Q else tb σ H1 Q:=rfl
theorem zM(t u:TT)(σ:St)(H:Hp)(Q:Bool->Hp->Prop):L2.zM t u σ H Q=t σ H λc H1=>if c=true then u σ H1 Q else Q false H1:=rfl
theorem FJ(t u:TT)(σ:St)(H:Hp)(Q:Bool->Hp->Prop):L2.FJ t u σ H Q=t σ H λc H1=>if c=true then Q true H1 else u σ H1 Q:=rfl
theorem zF(t:TT)(σ:St)(H:Hp)(Q:Bool->Hp->Prop):L2.zF t σ H Q=t σ H λc H1=>Q (!c) H1:=rfl
theorem ql(ta tb:TE)(σ:St)(H:Hp)(Q:VK):L2.ql ta tb σ H Q=ta σ H λx H1=>∃c,x=.bl c/\if c=true then tb σ H1 Q else Q (.bl false) H1:=rfl
theorem kF(r r':R2)(ta tb tc:TE)(σ:St)(H:Hp)(Q:VK):L2.kF r r' ta tb tc σ H Q=ta σ H λx H1=>tb σ H1 λy H2=>r x y H2 λz H3=>∃k,z=.bl k/\(if k=true then tc σ H3 λw' H4=>r' y w' H4 Q else Q (.bl false) H3):=rfl
theorem tK(vs:List V)(σ:St)(H:Hp)(Q:List V->Hp->Prop):L2.tK vs σ H Q=Q vs H:=rfl
theorem nL(σ:St)(H:Hp)(Q:List V->Hp->Prop):L2.nL σ H Q=Q [] H:=rfl
theorem jb(ta:TE)(tr:TA)(σ:St)(H:Hp)(Q:List V->Hp->Prop):L2.jb ta tr σ H Q=ta σ H λx H1=>tr σ H1 λxs H2=>Q (x::xs) H2:=rfl
theorem wJ(t:TA)(σ:St)(H:Hp)(Q:VK):L2.wJ t σ H Q=t σ H λxs H1=>xs.length<=sizeLine/\∀p,H1 p=none->Q (.ref p) (upd H1 p (.tup xs)):=rfl
theorem wI(t:TA)(σ:St)(H:Hp)(Q:VK):L2.wI t σ H Q=t σ H λxs H1=>xs.length<=sizeLine/\∀p,H1 p=none->Q (.ref p) (upd H1 p (.lst xs)):=rfl
theorem la(sp:Sp)(dvs:List V)(E:XK)(t:TA)(σ:St)(H:Hp)(Q:VK):L2.la sp dvs E t σ H Q=t σ H λvs H1=>sp (vs++dvs) H1 Q E:=rfl
theorem Ar(r:List V->Hp->VK->Prop)(t:TA)(σ:St)(H:Hp)(Q:VK):L2.Ar r t σ H Q=t σ H λvs H1=>r vs H1 Q:=rfl
theorem Em(K:W.Frag)(T:String)(r:V->List V->Hp->VK->Prop)(to:TE)(t:TA)(σ:St)(H:Hp)(Q:VK):L2.Em K T r to t σ H Q=to σ H λx H1=>Ft K T x H1/\t σ H1 λxs H2=>r x xs H2 Q:=rfl
theorem zw(K:W.Frag)(T:String)(r:V->List V->Hp->VK->Prop)(to:TE)(σ:St)(H:Hp)(Q:VK):L2.zw K T r to σ H Q=to σ H λx H1=>Ft K T x H1/\r x [] H1 Q:=rfl
theorem GQ(r:V->Option Int->Option Int->Hp->VK->Prop)(te:TE)(tl th:TO)(σ:St)(H:Hp)(Q:VK):L2.GQ r te tl th σ H Q=te σ H λx H1=>tl σ H1 λl H2=>th σ H2 λu H3=>r x l u H3 Q:=rfl
theorem i5(σ:St)(H:Hp)(Q:Option Int->Hp->Prop):L2.i5 σ H Q=Q none H:=rfl
theorem qm(t:TE)(σ:St)(H:Hp)(Q:Option Int->Hp->Prop):L2.qm t σ H Q=t σ H λx H1=>∃i,x=.int i/\Q (some i) H1:=rfl
theorem vi(t u:TS)(D:Ends)(σ:St)(H:Hp):L2.vi t u D σ H=t {D with nx:=u D} σ H:=rfl
theorem lH(te:TE)(g:TG)(D:Ends)(σ:St)(H:Hp):L2.lH te g D σ H=te σ H λx H1=>g x σ H1 D.nx:=rfl
theorem aZ(i:Nat)(v:V)(σ:St)(H:Hp)(Q:St->Hp->Prop):L2.aZ i v σ H Q=Q (σ.set i (some v)) H:=rfl
theorem xh(to ti:TE)(t:Bd)(v:V)(σ:St)(H:Hp)(Q:St->Hp->Prop):L2.xh to ti t v σ H Q=to σ H λo H1=>ti σ H1 λi H2=>t o i v H2 λH3=>Q σ H3:=rfl
theorem og(K:W.Frag)(n:Nat)(t:wu)(v:V)(σ:St)(H:Hp)(Q:St->Hp->Prop):L2.og K n t v σ H Q=∃a xs,v=.ref a/\bb K H a xs/\xs.length=n/\t xs σ H Q:=rfl
theorem eV(t:TG)(u:wu)(v:V)(vs:List V)(σ:St)(H:Hp)(Q:St->Hp->Prop):L2.eV t u (v::vs) σ H Q=t v σ H λσ' H'=>u vs σ' H' Q:=by
 refine propext ⟨λhq1=>?_,λh=>⟨v,vs,rfl,h⟩⟩;obtain⟨a,b,e,h⟩:=hq1
 cases e;exact h
theorem n5(σ:St)(H:Hp)(Q:St->Hp->Prop):L2.n5 [] σ H Q=Q σ H:=propext ⟨λh=>h.2,λh=>⟨rfl,h⟩⟩
theorem zl(te:TE)(D:Ends)(σ:St)(H:Hp):L2.zl te D σ H=te σ H D.rt:=rfl
theorem p_(te:TE)(D:Ends)(σ:St)(H:Hp):L2.p_ te D σ H=te σ H λ_ H1=>D.nx σ H1:=rfl
theorem vR(c:TT)(t u:TS)(D:Ends)(σ:St)(H:Hp):L2.vR c t u D σ H=c σ H λb H1=>if b=true then t D σ H1 else u D σ H1:=rfl
theorem qf(D:Ends)(σ:St)(H:Hp):L2.qf D σ H=D.nx σ H:=rfl
theorem m6(ta:TA)(σ:St)(H:Hp)(R:It->Hp->Prop):L2.m6 ta σ H R=ta σ H λvs H1=>∃j:Int,vs=[.int j]/\-(2^62)<=j/\j<2^62/\R (Cv 0 j.toNat) H1:=rfl
theorem Ad(K:W.Frag)(tl:TE)(σ:St)(H:Hp)(R:It->Hp->Prop):L2.Ad K tl σ H R=tl σ H λx H1=>match x with
 |.ref a=>match sq H1 a with
  |some (true,_)=>R (we K a) H1
  |some (false,_)=>R (vC K a) H1
  |none=>(∃xs,bb K H1 a xs)/\R (vC K a) H1
 |_=>False:=rfl
theorem pL(K:W.Frag)(ta:TA)(σ:St)(H:Hp)(R:It->Hp->Prop):L2.pL K ta σ H R=ta σ H λvs H1=>∃a,vs=[.ref a]/\(∃xs,bb K H1 a xs)/\R (Be K a) H1:=rfl
theorem rI(C:Int->Int->Prop)(g:Int->Int->V)(i j:Int)(H:Hp)(Q:VK):L2.rI C g (.int i) (.int j) H Q=(C i j/\Q (g i j) H):=by
 refine propext ⟨λhq2=>?_,λh=>⟨i,j,rfl,rfl,h⟩⟩;obtain⟨a,b,e1,e2,h⟩:=hq2
 cases e1;cases e2;exact h
theorem zr(g:Int->Int->V)(i j:Int)(H:Hp)(Q:VK):L2.zr g (.int i) (.int j) H Q=Q (g i j) H:=by
 refine propext ⟨λhq3=>?_,λh=>⟨i,j,rfl,rfl,h⟩⟩;obtain⟨a,b,e1,e2,h⟩:=hq3
 cases e1;cases e2;exact h
theorem rU(g:Int->V)(i:Int)(H:Hp)(Q:VK):L2.rU g (.int i) H Q=Q (g i) H:=by
 refine propext ⟨λhq4=>?_,λh=>⟨i,rfl,h⟩⟩;obtain⟨a,e1,h⟩:=hq4
 cases e1;exact h
theorem Hz(K:W.Frag)(i j:Int)(H:Hp)(Q:VK):vw K (.int i) (.int j) H Q=Q (.int (i+j)) H:=rfl
theorem He(K:W.Frag)(i j:Str)(H:Hp)(Q:VK):vw K (.str i) (.str j) H Q=(i.length+j.length<=sizeLine/\Q (.str (i++j)) H):=rfl
theorem Ht(i j:Int)(H:Hp)(Q:VK):En (.int i) (.int j) H Q=(xY i j/\Q (.int (i*j)) H):=rfl
theorem Ih(i j:Int)(H:Hp)(Q:VK):Eg (.int i) (.int j) H Q=Q (.bl (decide (i=j))) H:=by
 have e:decide (V.int i=V.int j)=decide (i=j):=by rw[NF];constructor<;>intro h<;>(try cases h)<;>(try rw[h])<;>rfl
 unfold Eg;rw[e];exact propext ⟨λh=>h.2,λh=>⟨rfl,h⟩⟩
theorem Ia(i j:Str)(H:Hp)(Q:VK):Eg (.str i) (.str j) H Q=Q (.bl (decide (i=j))) H:=by
 have e:decide (V.str i=V.str j)=decide (i=j):=by rw[NF];constructor<;>intro h<;>(try cases h)<;>(try rw[h])<;>rfl
 unfold Eg;rw[e];exact propext ⟨λh=>h.2,λh=>⟨rfl,h⟩⟩
theorem HY(i j:Str)(H:Hp)(Q:VK):Hv (.str i) (.str j) H Q=Q (.bl (!decide (i=j))) H:=by
 have e:decide (V.str i=V.str j)=decide (i=j):=by rw[NF];constructor<;>intro h<;>(try cases h)<;>(try rw[h])<;>rfl
 unfold Hv;rw[e];exact propext ⟨λh=>h.2,λh=>⟨rfl,h⟩⟩
theorem Il(K:W.Frag)(b:Bool)(H:Hp)(k:Bool):xG K (.bl b) H k=(k=b):=rfl
theorem Jn(CX:oI)(P:Program)(w:World)(K:W.Frag)(mg:Str->Option Value)(base:Heap)(N:List Str)(qual:Str)(scope:Scope)(f:Addr)(cd:Value)(A:Around)(outer:List Env)(s:Shared)(H:Hp)(E:XK):(fE CX P w K mg base N qual scope f cd A outer s H E).K=K:=rfl
end Ap
noncomputable def KB(ex:List Addr)(H H':Hp):Prop:=∀b o,H b=some o->b∉ex->H' b=some o
theorem KB.refl(ex:List Addr)(H:Hp):KB ex H H:=λ_ _ e _=>e
theorem KB.trans{H1 H2:Hp}(a:KB ex H H1)(b:KB ex H1 H2):KB ex H H2:=λc o e n=>b c o (a c o e n) n
theorem KB.mono{ex':List Addr}(h:KB ex H H')(s:∀b∈ex,b∈ex'):KB ex' H H':=λb o e n=>h b o e λz=>n (s b z)
theorem KB.all(h:KB [] H H'):KB ex H H':=h.mono (by simp)
theorem KB.new(h:H p=none):KB ex H (upd H p o):=λb u e _=>by rw[ar (af e h)];exact e
theorem KB.set(h:p∈ex):KB ex H (upd H p o):=λb u e n=>by rw[ar (λ(z:b=p)=>n (by rw[z];exact h))];exact e
theorem KB.free(h:KB ex H H'){b:Addr}(n:b∉ex)(e:H' b=none):H b=none:=by
 cases q:H b with
 |none=>rfl
 |some o=>rw[h b o q n] at e;cases e
theorem KB.Ds(h:KB ex H H')(n:a∉ex)(q:bB K H a xs):bB K H' a xs:=by
 rcases q with (q|⟨o,q⟩)|q
 ·exact .inl (.inl (h _ _ q n))
 ·exact .inl (.inr ⟨o,h _ _ q n⟩)
 ·exact .inr q
theorem nO(x:α)(r:List α):bX (x::r) 0=some x:=bt (j:=0) rfl
theorem uZ(a x:α)(r:List α):bX (a::x::r) 1=some x:=bt (j:=1) rfl
theorem IL(a b x:α)(r:List α):bX (a::b::x::r) 2=some x:=bt (j:=2) rfl
theorem Iu(a b c x:α)(r:List α):bX (a::b::c::x::r) 3=some x:=bt (j:=3) rfl
theorem rQ{n:Nat}{i:Int}(h0:0<=i)(h:i<n):lJ n i=some i.toNat:=by unfold lJ;rw[J6 h0,J6 h]
namespace Ap
theorem FZ(K:W.Frag)(p:Addr)(i:Int)(H:Hp)(Q:VK):Ak K (.ref p) (.int i) H Q=(match sq H p with
  |some (_,xs)=>(match bX xs i with|some v=>Q v H|none=>False)
  |none=>∃xs v,bb K H p xs/\bX xs i=some v/\Q v H):=rfl
theorem FL(K:W.Frag)(z:Str)(i:Int)(H:Hp)(Q:VK):Ak K (.str z) (.int i) H Q=(z.length<=sizeLine/\(match bX z.cps.toList i with|some c=>Q (.str ⟨#[c]⟩) H|none=>False)):=rfl
theorem setRef(p:Addr)(k:Int)(v:V)(H:Hp)(Q:Hp->Prop):xE (.ref p) (.int k) v H Q=(match H p with
  |some (.lst xs)=>(match lJ xs.length k with|some j=>Q (upd H p (.lst (xs.set j v)))|none=>False)
  |_=>False):=rfl
theorem E7(K:W.Frag)(p:Addr)(H:Hp)(Q:VK):wU K [.ref p] H Q=(match sq H p with
  |some (_,ys)=>Q (.int ys.length) H
  |none=>∃ys,bb K H p ys/\Q (.int ys.length) H):=rfl
theorem Ff(K:W.Frag)(y:Str)(H:Hp)(Q:VK):wU K [.str y] H Q=(y.length<=sizeLine/\Q (.int y.length) H):=rfl
theorem Hi(i j:Int)(H:Hp)(Q:VK):FG [.int i,.int j] H Q=Q (.int (if j<i then j else i)) H:=rfl
theorem IP(k:Bool)(H:Hp)(Q:VK):Hk [.bl k] H Q=Q (.int (if k=true then 1 else 0)) H:=rfl
theorem IH(i:Int)(H:Hp)(Q:VK):Gg [.int i] H Q=(i.natAbs.log2<1920/\Q (.str (toString i)) H):=rfl
theorem DC(K:W.Frag)(p:Addr)(H:Hp)(Q:VK):nA K [.ref p] H Q=(match sq H p with
  |some (true,ys)=>∀l,H l=none->Q (.ref l) (upd H l (.tup ys))
  |some (false,_)=>Q (.ref p) H
  |none=>∃ys,bb K H p ys/\Q (.ref p) H):=rfl
theorem Gd(K:W.Frag)(p:Addr)(lo hi:Option Int)(H:Hp)(Q:VK):HX K (.ref p) lo hi H Q=(match sq H p with
  |some (true,xs)=>∀q,H q=none->Q (.ref q) (upd H q (.lst (d5 xs lo hi)))
  |some (false,xs)=>qH K (.ref p) lo hi H Q
  |none=>qH K (.ref p) lo hi H Q):=rfl
theorem Gf(K:W.Frag)(neg:Bool)(x:V)(p:Addr)(H:Hp)(Q:VK):Gk K neg x (.ref p) H Q=(match sq H p with
  |some (_,xs)=>b_ x=true/\xs.all b_=true/\Q (.bl (if neg then !qd x xs else qd x xs)) H
  |none=>∃xs,bb K H p xs/\b_ x=true/\xs.all b_=true/\Q (.bl (if neg then !qd x xs else qd x xs)) H):=rfl
theorem addRef(K:W.Frag)(a b:Addr)(H:Hp)(Q:VK):vw K (.ref a) (.ref b) H Q=(match H a,H b with
  |some (.lst xs),some (.lst ys)=>xs.length+ys.length<=sizeLine/\∀p,H p=none->Q (.ref p) (upd H p (.lst (xs++ys)))
  |some (.tup xs),some (.tup ys)=>xs≠[]/\ys≠[]/\xs.length+ys.length<=sizeLine/\∀p,H p=none->Q (.ref p) (upd H p (.tup (xs++ys)))
  |_,_=>False):=rfl
theorem DM(H:Hp)(p:Addr)(xs:List V):sq (upd H p (.lst xs)) p=some (true,xs):=ay aa
theorem B3(H:Hp)(p:Addr)(xs:List V):sq (upd H p (.tup xs)) p=some (false,xs):=aH aa
end Ap
theorem au{t u:TS}(h:∀N,N=u D->t {D with nx:=N} σ H):vi t u D σ H:=h _ rfl
structure QE (X:Cx) (e:Expr) (t:TE):Prop where h:PE X e t
structure QT (X:Cx) (e:Expr) (t:TT):Prop where h:PT X e t
structure QW (X:Cx) (e:Expr) (t:TT):Prop where h:PW X e t
structure QA (X:Cx) (es:List Expr) (t:TA):Prop where h:PA X es t
structure QS (X:Cx) (st:Stmt) (t:TS):Prop where h:PS X st t
structure QB (X:Cx) (sts:List Stmt) (t:TS):Prop where h:rD X sts t
structure QI (X:Cx) (tg it:Expr) (t:TI):Prop where h:PI X tg it t
structure QG (X:Cx) (e:Expr) (t:TG):Prop where h:PG X e t
structure HE (X:Cx) (es:List Expr) (t:wu):Prop where h:Gv X es t
structure QO (X:Cx) (e:Option Expr) (t:TO):Prop where h:PO X e t
structure Hg (X:Cx) (es:List Expr) (t:TT):Prop where h:Fw X es t
namespace Z
noncomputable def sim(b:Expr):Bool:=match b with
 |.Name .. |.Constant .. |.Call .. |.BinOp .. |.Subscript .. |.Attribute .. |.UnaryOp .. |.Compare .. |.IfExp ..=>true
 |_=>false
theorem IZ{b:Expr}(h:sim b=true):tE b:=by
 cases b<;>first | (intro _ _;rfl)|cases h
noncomputable def Ja(b:Expr):Bool:=match b with
 |.Name .. |.Call .. |.Subscript .. |.Attribute ..=>true
 |_=>false
theorem ptr{b:Expr}(h:Ja b=true):∀whole,isTrue b env whole=(do let v <- whole;standAt b.pos;holding [v] (truthy v)):=by
 cases b<;>first | (intro _;rfl)|cases h
noncomputable def HF(b:Expr):Bool:=match b with
 |.ListComp .. |.SetComp .. |.DictComp ..=>false
 |_=>true
theorem Jc{b:Expr}{tg:Option Expr}{l:Nat}(h:HF b=true):swapsWith b tg l env=pure false:=by
 cases b<;>first|rfl|cases h
section
variable {X:Cx}
theorem aC(K:W.Frag)(hK:X.K=K):cB X (binaryOp .Add) (vw K):=by subst hK;exact BD
theorem FN(K:W.Frag)(hK:X.K=K){k:Nat}(hu:k<cLine):cB X (compareOp .In) (Gk K false):=by subst hK;exact ET hu
theorem aA(K:W.Frag)(hK:X.K=K){k:Nat}(hu:k<cLine):v8 X (Ak K):=by subst hK;exact Jp hu
theorem E8(K:W.Frag)(hK:X.K=K):sT X (HX K):=by subst hK;exact Bs
theorem CK(K:W.Frag)(hK:X.K=K):sT X (E4 K):=by subst hK;exact nN
theorem cH(K:W.Frag)(hK:X.K=K):a_ X (.builtin "len") (wU K):=by subst hK;exact uL
theorem xI(K:W.Frag)(hK:X.K=K):a_ X (.builtin "len") (λxs H Q=>∃x n,xs=[x]/\G_ K x H n/\Q (.int n) H):=by subst hK;exact hZ
theorem dh(K:W.Frag)(hK:X.K=K):a_ X (.type "tuple") (nA K):=by subst hK;exact pM
theorem Hu(K:W.Frag)(hK:X.K=K)(hc:X.calm=true):a_ X (.builtin "sum") (λxs H Q=>∃(p:Addr) (ns:List Int),xs=[.ref p]/\bB K H p (ns.map V.int)/\Q (.int ns.sum) H):=by subst hK;exact vn hc
theorem yc(K:W.Frag)(hK:X.K=K):vk X "str.join" (rJoin K):=by subst hK;exact BE
end
section
variable {X:Cx} {a b c e o:Expr} {es:List Expr} {ta tb tc te to:TE} {t:TA} {pos p p2:Pos} {tA tB':TT} {rest:List Expr} {x:Str}
theorem int{i:Int}:QE X (.Constant (.int i) j pos) (tC (.int i)):=⟨xt⟩
theorem bl{i:Bool}:QE X (.Constant (.bool i) j pos) (tC (.bl i)):=⟨CF⟩
theorem aG:QE X (.Constant .none j pos) (tC .aG):=⟨zh⟩
theorem str{i:Str}:QE X (.Constant (.str i) j pos) (tC (.str i)):=⟨yE⟩
theorem v(i:Nat)(hN:autoParam (X.N[i]?=some x) ℜ0)(hv:autoParam (FU X.env.scope x) ℜ4)(hd:autoParam ((x ==("__debug__":Str))=false) ℜ1)
  (eY:autoParam ((x ==("__classdict__":Str))=false) ℜ1):QE X (.Name x pos) (uD i):=⟨pv i hN hv hd eY⟩
theorem glob{w:V}{u:Value}(hg:Gl X x)(hm:X.mg x=some u)(r:RelV w u)(hd:autoParam ((x ==("__debug__":Str))=false) ℜ1):QE X (.Name x pos) (tC w):=⟨sL hg hm r hd⟩
theorem op{o:Operator}{r:R2}(ho:cB X (binaryOp o) r)(ha:QE X a ta)(hb:QE X b tb):QE X (.BinOp a o b pos) (zL r ta tb):=⟨Hw ho ha.h hb.h⟩
theorem un{o:UnaryOp}{r:V->Hp->VK->Prop}(ho:HV X (unaryOp o) r)(ha:QE X a ta):QE X (.UnaryOp o a pos) (Gb r ta):=⟨FI ho ha.h⟩
theorem cmp{o:CmpOp}{r:R2}(ho:cB X (compareOp o) r)(ha:QE X a ta)(hb:QE X b tb)(hm:autoParam (behindInMarks o b=false) ℜ0):QE X (.Compare a [o] [b] pos) (zL r ta tb):=⟨B8 ho ha.h hb.h hm⟩
theorem chain{o o':CmpOp}{r r':R2}(ho:cB X (compareOp o) r)(ho':cB X (compareOp o') r')(ha:QE X a ta)(hb:QE X b tb)(hc:QE X c tc)(hm:autoParam (lastMarks [o,o'] [b,c]=false) ℜ5):QE X (.Compare a [o,o'] [b,c] pos) (kF r r' ta tb tc):=⟨wO ho ho' ha.h hb.h hc.h hm⟩
theorem and(ha:QE X a ta)(hb:QE X (.BoolOp .And (b::rest) pos) tb):QE X (.BoolOp .And (a::b::rest) pos) (ql ta tb):=⟨Eh ha.h hb.h⟩
theorem one{o:BoolOp}(ha:QE X a ta):QE X (.BoolOp o [a] pos) ta:=⟨EJ ha.h⟩
theorem Dq(hc:QT X c tA)(ha:QE X a ta)(hb:QE X b tb):QE X (.IfExp c a b pos) (Gu tA ta tb):=⟨xf hc.h ha.h hb.h⟩
theorem slice{r:V->Option Int->Option Int->Hp->VK->Prop}{lo hi:Option Expr}{tl th:TO}(hr:sT X r)(he:QE X e te)(hl:QO X lo tl)(hu:QO X hi th):QE X (.Subscript e (.Slice lo hi none p2) pos) (GQ r te tl th):=⟨yP hr he.h hl.h hu.h⟩
theorem rR:QO X none i5:=⟨A8⟩
theorem oH(he:QE X e te):QO X (some e) (qm te):=⟨AB he.h⟩
theorem ix{r:R2}(hr:v8 X r)(ha:QE X a ta)(hb:QE X b tb)(hs:autoParam (sim b=true) ℜ0):QE X (.Subscript a b pos) (zL r ta tb):=⟨Cy hr ha.h hb.h (IZ hs)⟩
theorem tup{k:Nat}(h:QA X es t):QE X (.Tuple es k pos) (wJ t):=⟨Dt h.h⟩
theorem lst(h:QA X es t):QE X (.List es pos) (wI t):=⟨Ec h.h⟩
theorem nil:QA X [] nL:=⟨xg⟩
theorem cons(ha:QE X e te)(hr:QA X es t)(h:autoParam (eZ e=true) ℜ0):QA X (e::es) (jb te t):=⟨Ii ha.h hr.h h⟩
theorem consts{vs:List V}(h:sA es=some vs):QA X es (tK vs):=⟨mx h⟩
theorem cb{id:String}(hc:a_ X (.builtin id) r)(hg:Gl X x)(hm:X.mg x=none)(hv:bootBuiltins x=some (.builtin id))(ha:QA X (e::es) t)(h1:autoParam (eZ e=true) ℜ0)(h2:autoParam (es.all eZ=true) ℜ0)(hn:autoParam (x≠"__name__") ℜ1)(hdb:autoParam ((x ==("__debug__":Str))=false) ℜ1):
  QE X (.Call (.Name x p) (e::es) [] pos) (Ar r t):=⟨Gr hc hg hm hv ha.h h1 h2 hn hdb⟩
theorem ct{T:String}(hc:a_ X (.type T) r)(hg:Gl X x)(hm:X.mg x=none)(hv:bootBuiltins x=some (.type T))(ha:QA X (e::es) t)(h1:autoParam (eZ e=true) ℜ0)(h2:autoParam (es.all eZ=true) ℜ0)(hn:autoParam (x≠"__name__") ℜ1)(hdb:autoParam ((x ==("__debug__":Str))=false) ℜ1):
  QE X (.Call (.Name x p) (e::es) [] pos) (Ar r t):=⟨GG hc hg hm hv ha.h h1 h2 hn hdb⟩
theorem Jl{T:String}(hg:Gl X x)(hm:X.mg x=none)(hv:bootBuiltins x=some (.type T))(hn:autoParam (x≠"__name__") ℜ1)(hd:autoParam ((x ==("__debug__":Str))=false) ℜ1):QE X (.Name x pos) (tC (.ty T)):=⟨ER hg hm hv hn hd⟩
theorem fn{CX:oI}{k:Nat}{ps:List Str}{E:XK}(F:aq X.prog X.w X.K X.mg X.base CX k x ps sp)(hr:b9 k X.A)(hg:Gl X x)(hx:Passes CX X E)(ha:QA X (e::es) t)(h1:autoParam (eZ e=true) ℜ0)(h2:autoParam (es.all eZ=true) ℜ0)(hdb:autoParam ((x ==("__debug__":Str))=false) ℜ1):
  QE X (.Call (.Name x p) (e::es) [] pos) (la sp [] E t):=⟨Gx F hr hg hx ha.h h1 h2 hdb⟩
theorem bm(K:W.Frag)(hK:X.K=K){name:Str}{apos:Pos}{T id:String}{r:V->List V->Hp->VK->Prop}(pa:PlainAttrs T)(slot:Slot T name id)(hty:typeOf (.builtin id)=pure (.type "method_descriptor"))(hm:vk X id r)(ho:QE X o to)(ha:QA X (e::es) t)
  (hbase:autoParam (attributeBase o name X.env (eval o X.env)=eval o X.env) ℜ0) (hline:autoParam ((apos.endLine == pos.line)=true) ℜ0) (h:autoParam ((e::es).all eZ=true) ℜ0) (hl:autoParam ((e::es).length<30) ℜ1):QE X (.Call (.Attribute o name apos) (e::es) [] pos) (Em K T r to t):=by
 subst hK;exact⟨DD pa slot hty hm ho.h ha.h hbase hline h hl⟩
theorem comp{wi:TI}{tc:TT}(S:aF osc ON scope own N)(hosc:X.env.scope=osc)(hON:X.N=ON)(hc:X.calm=true)(hi:QI X tg iter wi)
  (hg:∀C s H fp,QG (aJ X scope N C s H fp) tg g) (ht:∀C s H fp,Hg (aJ X scope N C s H fp) ifs tc) (he:∀C s H fp,QE (aJ X scope N C s H fp) elt te) (hs:autoParam (∀x,foldedSetIterable iter X.env x=pure x) ℜ3) :
  QE X (.ListComp elt [⟨tg,iter,ifs,0⟩] scope pos) (hX wi own.length g tc te):=⟨AG S hosc hON hc hi.h (λC s H fp=>(hg C s H fp).h) (λC s H fp=>(ht C s H fp).h) (λC s H fp=>(he C s H fp).h) hs⟩
theorem aI{o:CmpOp}{r:R2}(ho:cB X (compareOp o) r)(ha:QE X a ta)(hb:QE X b tb)(hm:autoParam (behindInMarks o b=false) ℜ0):QT X (.Compare a [o] [b] pos) (pR (zL r ta tb)):=⟨Ba ho ha.h hb.h hm⟩
theorem tw(h:QW X e tA):QT X e tA:=⟨h.h.pt⟩
theorem zj(ha:QT X a tA):QT X (.UnaryOp .Not a pos) (zF tA):=⟨Eo ha.h⟩
noncomputable def Bg(K:W.Frag)(ta:TE):TT:=λσ H Q=>ta σ H λx H'=>∃k,xG K x H' k/\Q k H'
theorem qN(K:W.Frag)(hK:X.K=K)(ha:QE X a ta)(he:autoParam (Ja a=true) ℜ0):QT X a (Bg K ta):=by subst hK;exact⟨yw ha.h (ptr he)⟩
theorem mV(ha:QT X a tA):QW X (.BoolOp .And [a] pos) tA:=⟨Co ha.h⟩
theorem mh(ha:QT X a tA):QW X (.BoolOp .Or [a] pos) tA:=⟨De ha.h⟩
theorem uP(ha:QT X a tA)(hb:QW X (.BoolOp .And (b::rest) pos) tB'):QW X (.BoolOp .And (a::b::rest) pos) (zM tA tB'):=⟨E6 ha.h hb.h⟩
theorem Aj(ha:QT X a tA)(hb:QW X (.BoolOp .Or (b::rest) pos) tB'):QW X (.BoolOp .Or (a::b::rest) pos) (FJ tA tB'):=⟨HA ha.h hb.h⟩
theorem aY(hN:X.N.Nodup)(hi:X.N[i]?=some x)(hx:Loc X.env.scope x)(hf:autoParam (X.fn x=true\/X.env.scope.names.lookup x=some .local) ℜ2):QG X (.Name x pos) (aZ i):=⟨B1 hN hi hx hf⟩
theorem ot(K:W.Frag)(hK:X.K=K){k n:Nat}{tg:wu}(hc:X.calm=true)(h:HE X es tg)(hn:autoParam ((assignEach es X.env).length=n) ℜ0)(hst:autoParam ((assignEach es X.env).findIdx? (·.1)=none) ℜ0):QG X (.Tuple es k pos) (og K n tg):=by subst hK;exact⟨ED hc h.h hn hst⟩
theorem hV:HE X [] n5:=⟨As⟩
theorem bP{u:wu}(h1:QG X e g)(h2:HE X es u)(hs:autoParam ((assignEach (e::es) X.env).map (·.2)=assign e X.env::(assignEach es X.env).map (·.2)) ℜ0):HE X (e::es) (eV g u):=⟨zJ h1.h h2.h hs⟩
theorem vg{i:Expr}{ti:TE}(ho:QE X o to)(hi:QE X i ti)
  (ha:autoParam (∀v,assign (.Subscript o i pos) X.env v=(do
   let ov <- holding [v] (eval o X.env)
   let iv <- holding [v,ov] (eval i X.env)
   standAt pos
   holding [v,ov,iv] (setItem ov iv v)
   release [v,ov,iv] [])) ℜ3):QG X (.Subscript o i pos) (xh to ti xE):=⟨Dg ho.h hi.h uset ha⟩
theorem Am{ta:TA}(hg:Gl X "range")(hm:X.mg "range"=none)(ha:QA X [a] ta)(h:autoParam (eZ a=true) ℜ0):QI X tg (.Call (.Name "range" p) [a] [] pos) (m6 ta):=⟨q_ hg hm ha.h h⟩
theorem enum(K:W.Frag)(hK:X.K=K){k:Nat}{tp:Pos}{ta:TA}(hg:Gl X "enumerate")(hm:X.mg "enumerate"=none)(ha:QA X [e] ta)(h1:autoParam (eZ e=true) ℜ0):QI X (.Tuple es k tp) (.Call (.Name "enumerate" p) [e] [] pos) (pL K ta):=by subst hK;exact⟨Ay hg hm ha.h h1⟩
theorem any(K:W.Frag)(hK:X.K=K){l:Expr}(hl:QE X l tl):QI X tg l (Ad K tl):=by subst hK;exact⟨Ep hl.h⟩
theorem wj:Hg X [] f9:=⟨Bp⟩
end
section
variable {X:Cx} {e o tg:Expr} {te to:TE} {st:Stmt} {sts xs ys:List Stmt} {t u:TS} {pos pos':Pos} {x:Str}
theorem b8:QB X [] qf:=⟨BN⟩
theorem ax(h:QS X st t):QB X [st] t:=⟨Ce h.h⟩
theorem ao(h:QS X st t)(h2:QB X sts u):QB X (st::sts) (vi t u):=⟨zW h.h h2.h⟩
theorem set(hN:X.N.Nodup)(hi:X.N[i]?=some x)(hx:Loc X.env.scope x)(he:QE X e te)(hs:autoParam (HF e=true) ℜ0)(hf:autoParam (X.fn x=true\/X.env.scope.names.lookup x=some .local) ℜ2):
  QS X (.Assign [.Name x pos'] e pos) (lH te (aZ i)):=⟨EX hN hi hx he.h (Jc hs) hf⟩
theorem setC{p2:Pos}{wi:TI}(hN:X.N.Nodup)(hj:X.N[j]?=some x)(hx:Loc X.env.scope x)(S:aF osc ON scope own N)(hosc:X.env.scope=osc)(hON:X.N=ON)(hc:X.calm=true)(hi:QI X tg iter wi)
  (hg:∀C s H fp,QG (aJ X scope N C s H fp) tg g) (ht:∀C s H fp,Hg (aJ X scope N C s H fp) ifs tc) (he:∀C s H fp,QE (aJ X scope N C s H fp) elt te)
  (hsw:autoParam (swapsWith (.ListComp elt [⟨tg,iter,ifs,0⟩] scope p2) (some (.Name x pos')) pos.line X.env=pure true) ℜ0)
  (hf:autoParam (X.fn x=true\/X.env.scope.names.lookup x=some .local) ℜ2) (hs:autoParam (∀x,foldedSetIterable iter X.env x=pure x) ℜ3) :
  QS X (.Assign [.Name x pos'] (.ListComp elt [⟨tg,iter,ifs,0⟩] scope p2) pos) (lH (hX wi own.length g tc te) (aZ j)):=⟨qL hN hj hx S hosc hON hc hi.h (λC s H fp=>(hg C s H fp).h) (λC s H fp=>(ht C s H fp).h) (λC s H fp=>(he C s H fp).h) hsw hf hs⟩
theorem asg(he:QE X e te)(hg:QG X tg g)(hs:autoParam (swapsWithSole [tg] e pos.line X.env=pure false) ℜ0)(hw:autoParam (swappedStores [tg] e X.env=pure none) ℜ0)
  (h1:autoParam ((assignEach [tg] X.env).map (·.2)=[assign tg X.env]) ℜ0):QS X (.Assign [tg] e pos) (lH te g):=⟨Fh he.h hg.h hs hw h1⟩
theorem ret(he:QE X e te):QS X (.Return (some e) pos) (zl te):=⟨Dm he.h⟩
theorem expr(he:QE X e te)(hs:autoParam (HF e=true) ℜ0):QS X (.Expr e pos) (p_ te):=⟨A6 he.h (Jc hs)⟩
theorem cJ{c:Expr}(hc:QT X c tc)(ha:QB X xs t)(hb:QB X ys u):QS X (.If c xs ys pos) (vR tc t u):=⟨Gi hc.h ha.h hb.h⟩
theorem iy{wi:TI}(hp:PassesOwn (model X.prog X.w) X.A X.env X.xe)(hc:X.calm=true)(hi:QI X tg iter wi)(hg:QG X tg g)(hb:QB X xs t)(hs:autoParam (∀x,foldedSetIterable iter X.env x=pure x) ℜ3):QS X (.For tg iter xs [] pos) (Fo wi g t):=⟨DE hp hc hi.h hg.h hb.h hs⟩
theorem rg{c:Expr}(hp:PassesOwn (model X.prog X.w) X.A X.env X.xe)(hc:QT X c tc)(hb:QB X xs t):QS X (.While c xs [] pos) (w6 tc t):=⟨xV hp hc.h hb.h⟩
end
end Z
namespace Ap
theorem Bg(K:W.Frag)(ta:TE)(σ:St)(H:Hp)(Q:Bool->Hp->Prop):L2.Z.Bg K ta σ H Q=ta σ H λx H'=>∃k,xG K x H' k/\Q k H':=rfl
end Ap
theorem HasFn.eX{ps:List Str}{k:Nat}(F:HasFn K mg x st ps)(S:av N ps (ae st))(len:∀vs H Q E,sp vs H Q E->vs.length=ps.length)
  (hbody:∀(f:Addr) (cdv:Value) (A:Around) (outer:List Env) (s:Shared) (H:Hp) (vs:List V) (Q:VK) (E:XK),b9 k (A.deeper (envOfC x (ae st) s.heap.objs.size f cdv))->sp vs H Q E ->
   ∃t,QB (fE aP P w K mg base N x (ae st) f cdv A outer s H E).vO (aR st) t/\t {nx:=λ_ H'=>Q .aG H',rt:=Q} (start N vs) H):aq P w K mg base aP (k+1) x ps sp:=
 F.ok S len λf cdv A outer s H vs Q E hr h=>let ⟨t,q,r⟩:=hbody f cdv A outer s H vs Q E hr h;⟨t,q.h,r⟩
theorem BZ{ps:List Str}{k:Nat}(F:lQ K x x st f fd)(S:av N ps (ae st))(len:∀vs H Q E,sp vs H Q E->vs.length=ps.length)
  (hbody:∀(cdv:Value) (A:Around) (outer:List Env) (s:Shared) (H:Hp) (vs:List V) (Q:VK) (E:XK),b9 k (A.deeper (envOfC x (ae st) s.heap.objs.size f cdv))->sp vs H Q E ->
   ∃t,QB (fE aP P w K mg base N x (ae st) f cdv A outer s H E).vO (aR st) t/\t {nx:=λ_ H'=>Q .aG H',rt:=Q} (start N vs) H):bT P w K mg base aP (k+1) f fd ps sp:=
 F.ok S len λcdv A outer s H vs Q E hr h=>let ⟨t,q,r⟩:=hbody cdv A outer s H vs Q E hr h;⟨t,q.h,r⟩
noncomputable def gW(e:Addr)(cls:Value)(d:Option Addr)(h:Heap):Prop:=∃o vs,h.get? e=some o/\o.cls=cls/\o.dict=d/\o.data=.fields vs
noncomputable def II(c:Addr)(n:Nat)(h:Heap):Prop:=∃(its:List Value) (m:Nat),h.get? c=some {cls:=.type "list",data:=.seq its.toArray m}/\its.length=n/\∀v∈its,∃(i:Int) (t:Tok),v=.int i t/\0<=i
inductive T where
 |il (n:Nat)|aG|bl (b:Bool)|int (i:Int)|str (x:Str)|tup (ts:List T)|lst (ts:List T)|IS (ts:List T)|mi (lo hi:Int)|IV (ts:List T)|I_ (ks:List Key) (ts:List T)|exc (c:Value) (f:Option (Str×Int))|adr (a:Addr)|ins (a c:Addr) (ks:List Str) (ts:List T)
variable{t u:T}{ts ys:List T}
abbrev mR:=Addr->Prop
noncomputable def GH(K:W.Frag)(a:Addr)(xs:List V):Prop:=∃(o:Obj) (its:Array Value) (n:Nat),K.lookup a=some o/\o.cls=.type "tuple"/\o.data=.seq its n/\its.size<=sizeLine/\Vals xs its.toList
noncomputable def Jg(K:W.Frag)(a:Addr)(xs:List V):Prop:=∃(o:Obj) (its:Array Value) (n:Nat),K.lookup a=some o/\o.cls=.type "list"/\o.dict=none/\o.data=.seq its n/\its.size<=sizeLine/\Vals xs its.toList
noncomputable def LB(K:W.Frag)(H:Hp)(B:mR)(a:Addr)(xs:List V):Prop:=(¬ B a/\Rd H a (.lst xs))\/Jg K a xs
mutual
inductive Rep (K:W.Frag) (H:Hp) (B:mR):V->T->Prop
 |aG:Rep K H B .aG .aG
 |bl (b:Bool):Rep K H B (.bl b) (.bl b)
 |int (i:Int):Rep K H B (.int i) (.int i)
 |str (x:Str):Rep K H B (.str x) (.str x)
 |tup {a:Addr} {vs:List V} {ts:List T} (n:¬ B a) (h:H a=some (.tup vs)) (r:cG K H B vs ts):Rep K H B (.ref a) (.tup ts)
 |IV {a:Addr} {vs:List V} {ts:List T} (h:GH K a vs) (r:cG K H B vs ts):Rep K H B (.ref a) (.IV ts)
 |lst {a:Addr} {vs:List V} {ts:List T} (n:¬ B a) (h:H a=some (.lst vs)) (r:cG K H B vs ts):Rep K H B (.ref a) (.lst ts)
 |IS {a:Addr} {vs:List V} {ts:List T} (h:LB K H B a vs) (r:cG K H B vs ts):Rep K H B (.ref a) (.IS ts)
 |mi {a:Addr} {lo hi:Int} (n:¬ B a) (h:H a=some (.mi lo hi)):Rep K H B (.ref a) (.mi lo hi)
 |I_ {a:Addr} {ks:List Key} {vs:List V} {ts:List T} (n:¬ B a) (h:Rd H a (.dK (ks.zip vs))) (l:ks.length=vs.length) (r:cG K H B vs ts):Rep K H B (.ref a) (.I_ ks ts)
 |exc {a:Addr} {c:Value} (n:¬ B a) (h:H a=some (.ext (gW a c none))):Rep K H B (.ref a) (.exc c none)
 |Jq {a d:Addr} {c:Value} {x:Str} {i:Int} (n:¬ B a) (h:H a=some (.ext (gW a c (some d)))) (m:¬ B d) (g:H d=some (.xd [(x,.int i)])):Rep K H B (.ref a) (.exc c (some (x,i)))
 |il {a:Addr} {n:Nat} (m:¬ B a) (h:H a=some (.ext (II a n))):Rep K H B (.ref a) (.il n)
 |adr (a:Addr):Rep K H B (.ref a) (.adr a)
 |ins {a dx c:Addr} {ks:List Str} {vs:List V} {ts:List T} (n:¬ B a) (h:H a=some (.ins c dx (ks.zip vs))) (l:ks.length=vs.length) (r:cG K H B vs ts):Rep K H B (.ref a) (.ins a c ks ts)
inductive cG (K:W.Frag) (H:Hp) (B:mR):List V->List T->Prop
 |nil:cG K H B [] []
 |cons {v:V} {t:T} {vs:List V} {ts:List T} (h:Rep K H B v t) (r:cG K H B vs ts):cG K H B (v::vs) (t::ts)
end
section
variable {K:W.Frag} {H:Hp} {B:mR} {v:V}
theorem cG.Im{vs:List V}(h:cG K H B vs []):vs=[]:=by cases h;rfl
theorem cG.C1{vs:List V}(h:cG K H B vs (t::ts)):∃v ws,vs=v::ws/\Rep K H B v t/\cG K H B ws ts:=by cases h with|cons h r=>exact⟨_,_,rfl,h,r⟩
end
theorem Paired.vz{β:Type}{P:α->β->Prop}{ys:List β}(h:Paired P [] ys):ys=[]:=by cases h;rfl
theorem Paired.gz{β:Type}{P:α->β->Prop}{x:α}{xs:List α}{ys:List β}(h:Paired P (x::xs) ys):∃y zs,ys=y::zs/\P x y/\Paired P xs zs:=by cases h with|cons h r=>exact⟨_,_,rfl,h,r⟩
section
variable {K:W.Frag} {H H':Hp} {B B':mR}
theorem cG.length{vs:List V}(r:cG K H B vs ts):vs.length=ts.length:=by
 induction ts generalizing vs with
 |nil=>obtain rfl:=r.Im;rfl
 |cons t ts ih=>obtain⟨v,ws,rfl,_,r⟩:=r.C1;exact Kk (·+1) (ih r)
theorem cG.get{vs:List V}{i:Nat}(r:cG K H B vs ts)(e:ts[i]?=some t):∃v,vs[i]?=some v/\Rep K H B v t:=by
 induction ts generalizing vs i with
 |nil=>cases e
 |cons u ts ih =>
  obtain⟨v,ws,rfl,h,r⟩:=r.C1
  cases i with
  |zero=>cases e;exact⟨_,rfl,h⟩
  |succ i=>exact ih (vs:=ws) (i:=i) r e
end
noncomputable def mP:T->Bool
 |.aG|.bl _|.int _|.str _=>true
 |_=>false
inductive Sl where
 |un|tr (t:T)|bx (c:T)|pb (c:T)
abbrev Mu:=List Sl
inductive R where
 |tr (t:T)|br (i:Nat)|fr (c:T)
structure Fx where
 K:W.Frag
 H0:Hp
 P:Nat->Option Addr
 Bc:mR
 bh:∀b,Bc b->∃o,H0 b=some o
 G:Addr->Option HO
abbrev UE:=Mu->(R->Mu->Prop)->Prop
abbrev UT:=Mu->(Bool->Mu->Prop)->Prop
abbrev UA:=Mu->(List R->Mu->Prop)->Prop
structure Ed where
 nx:Mu->Prop
 rt:R->Mu->Prop
 bk:Mu->Prop:=λ_=>False
 ct:Mu->Prop:=λ_=>False
abbrev US:=Ed->Mu->Prop
namespace Y
noncomputable def C5(K:W.Frag):R2:=λx y H Q=>∃a b xs ys,x=.ref a/\y=.ref b/\bb K H a xs/\bb K H b ys/\xs.length+ys.length<=sizeLine /\
 (xs=[]->Q (.ref b) H)/\(xs≠[]->ys=[]->Q (.ref a) H)/\(xs≠[]->ys≠[]->∀p,H p=none->Q (.ref p) (upd H p (.tup (xs++ys))))
theorem xw{A:Around}{s:Shared}{t b:Addr}{ws:List Value}{Q:Value->Shared->Prop}(ht:IsTup s.heap t ([]:List Value).toArray)(hb:IsTup s.heap b ws.toArray)(h0:Q (.ref b) s):wpAny (model prog w) A (binaryOp .Add (.ref t) (.ref b)) Q E s:=by
 obtain⟨⟨cls,dd,data,sl⟩,ho,hc,n,hd⟩:=id ht;obtain⟨⟨cls2,dd2,data2,sl2⟩,ho2,hc2,n2,hd2⟩:=id hb;simp only at hc hd hc2 hd2;subst hc hd hc2 hd2;exact concat_meets ⟨_,ho,rfl⟩ ⟨_,ho2,rfl⟩ noFill_tuple_add seq_tuple_add PySem.F.slot_tuple_add PySem.F.entry_tuple_add (PySem.F.args_tuple_add_2 _ _)
   (tuple_addW0 t b _ ws.toArray n n2 dd dd2 sl sl2 (by simp)) ⟨ho,ho2,h0⟩
theorem BG:cB X (binaryOp .Add) (C5 X.K):=by
 intro pins s σ H x y v u Q I rx ry h;obtain⟨a,b,xs,ys,rfl,rfl,ha,hb,hz,q0,q1,q2⟩:=h;by_cases hx:xs=[]
 ·subst hx
  cases rx;cases ry
  obtain⟨its,r1,p1,_⟩:=I.tuple ha;obtain⟨its2,r2,p2,_⟩:=I.tuple hb;obtain rfl:=Paired.vz r1;exact xw p1 p2 ⟨.ref b,H,I,rfl,q0 rfl⟩
 ·exact sN pins s σ H _ _ v u Q I rx ry ⟨a,b,xs,ys,rfl,rfl,ha,hb,hx,hz,q1 hx,q2 hx⟩
noncomputable def ze(K:W.Frag):R2:=λx y H Q=>(∃i j,x=.int i/\y=.int j/\Q (.int (i+j)) H)\/(∃i j,x=.str i/\y=.str j/\i.length+j.length<=sizeLine/\Q (.str (i++j)) H)\/Hq x y H Q\/C5 K x y H Q
theorem cc(K:W.Frag)(hK:X.K=K):cB X (binaryOp .Add) (ze K):=by subst hK;exact xb.or (kM.or (yV.or BG))
noncomputable def CV:T->T->Bool
 |.aG,.aG=>true
 |.bl a,.bl b=>a == b
 |.bl a,.int b=>(if a then 1 else 0) == b
 |.int a,.bl b=>a ==(if b then 1 else 0)
 |.int a,.int b=>a == b
 |.str a,.str b=>a == b
 |_,_=>false
theorem Gz{B:mR}{x y:V}(h1:Rep K H B x t)(h2:Rep K H B y u)(f1:mP t=true)(f2:mP u=true):b_ x=true/\b_ y=true/\wm x y=CV t u:=by
 cases h1<;>first | (cases f1;done) | (cases h2<;>first | (cases f2;done)|exact⟨rfl,rfl,rfl⟩)
noncomputable def Bm(K:W.Frag)(neg:Bool):R2:=λx y H Q=>∃a b xs ys,x=.ref a/\y=.ref b/\((bB K H a xs/\bB K H b ys)\/(bb K H a xs/\bb K H b ys))/\xs.all b_=true/\ys.all b_=true /\
 ∀c,c=(xs.length == ys.length && (List.range (min xs.length ys.length)).all λj=>match xs[j]?,ys[j]? with|some x,some y=>wm x y|_,_=>true)->Q (.bl (if neg then !c else c)) H
theorem Fq(hu:X.A.units<cLine):cB X (compareOp .Eq) (Bm X.K false):=by
 intro pins s σ H x y v u Q I rx ry h;obtain⟨a,b,xs,ys,rfl,rfl,hq,fx,fy,q⟩:=h
 cases rx;cases ry
 have item:∀(its its2:List Value),Vals xs its->Vals ys its2->∀j (h1:j<its.toArray.size) (h2:j<its2.toArray.size),SeqAt.EqAt X.A.in1 s its.toArray[j] its2.toArray[j] (match xs[j]?,ys[j]? with|some x,some y=>wm x y|_,_=>true):=λits its2 r1 r2 j h1 h2=>by
  have l1:=r1.length;have l2:=r2.length;rw[Jy] at h1 h2;obtain⟨u1,e1,g1⟩:=r1.get (i:=j) (x:=xs[j]) (Jr (by lia))
  obtain⟨u2,e2,g2⟩:=r2.get (i:=j) (x:=ys[j]) (Jr (by lia))
  rw[Jr (show j<xs.length by lia),Jr (show j<ys.length by lia)]
  have z1:its.toArray[j]=u1:=by
   rw[Jr h1] at e1;simpa using e1
  have z2:its2.toArray[j]=u2:=by
   rw[Jr h2] at e2;simpa using e2
  rw[z1,z2];exact nF g1 g2 (Lc.mp fx _ (JM _)) (Lc.mp fy _ (JM _))
 rcases hq with ⟨ha,hb⟩|⟨ha,hb⟩
 ·obtain⟨its,r1,p1,_⟩:=I.list ha;obtain⟨its2,r2,p2,_⟩:=I.list hb;have l1:=r1.length;have l2:=r2.length;by_cases e:xs.length=ys.length
  ·refine SeqAt.eq_listAt p1.isList p2.isList (by rw[Jy,Jy];lia) hu (item its its2 r1 r2) ⟨.bl _,H,I,rfl,q _ ?_⟩
   rw[Jy,<- l1,<- e,Lr,K4,Ow]
  ·refine NM p1.isList p2.isList (by rw[Jy,Jy,N4];lia) hu ⟨.bl _,H,I,rfl,q _ ?_⟩
   rw[Kf.mpr e,M_]
 ·obtain⟨its,r1,p1,_⟩:=I.tuple ha;obtain⟨its2,r2,p2,_⟩:=I.tuple hb;have l1:=r1.length;have l2:=r2.length;refine SeqAt.eq_tupleAt p1 p2 hu (item its its2 r1 r2) ⟨.bl _,H,I,rfl,q _ ?_⟩;rw[Jy,Jy,<- l1,<- l2,Bool.and_comm];rfl
noncomputable def G0(K:W.Frag):R2:=λx y H Q=>Eg x y H Q\/Bm K false x y H Q
theorem DJ(K:W.Frag)(hK:X.K=K)(hu:X.A.units<cLine):cB X (compareOp .Eq) (G0 K):=by subst hK;exact CU.or (Fq hu)
theorem gy{lo:Int}:∀(n:Nat) (acc:List Value) (k:Nat),acc.length=n->(∀j v,acc[j]?=some v->∃t,v=Value.int (lo+((k+j:Nat):Int)) t)->Vals ((List.range' k n).map λk=>V.int (lo+(k:Nat))) acc
 |0,acc,k,h,_=>by cases acc with|nil=>exact .nil|cons a b=>cases h
 |n+1,[],k,h,_=>by cases h
 |n+1,a::acc,k,h,g=>by
  rw[Ld,JY];refine .cons ?_ (gy n acc (k+1) (by simpa using h) λj v e=>?_)
  ·obtain⟨t,e⟩:=g 0 a rfl;exact⟨t,by simpa using e⟩
  ·obtain⟨t,e2⟩:=g (j+1) v (by simpa using e)
   exact⟨t,by rw[e2];congr 2;lia⟩
noncomputable def Bu:List V->Hp->VK->Prop:=λxs H Q=>(∃j,xs=[.int j]/\∀p,H p=none->Q (.ref p) (upd H p (.mi 0 j)))\/(∃i j,xs=[.int i,.int j]/\∀p,H p=none->Q (.ref p) (upd H p (.mi i j)))
theorem pB:a_ X (.type "range") Bu:=by
 intro pins s σ H xs us Q I r h;rcases h with ⟨j,rfl,q⟩|⟨i,j,rfl,q⟩
 ·obtain⟨u,rfl,t,rfl⟩:=vals1 r;refine call_range_1 ?_;exact⟨.ref s.heap.objs.size,_,I.laid (o:=.mi 0 j) (λb ob q=>Jw _ q) (J7 _) (show bA X.prog X.w _ _ _ (.mi 0 j) from⟨_,_,_,JH _ rfl⟩),rfl,q _ (I.aN.fresh (J7 _))⟩
 ·obtain⟨u,w',rfl,⟨t,rfl⟩,⟨t',rfl⟩⟩:=vals2 r;refine call_range_2 ?_;exact⟨.ref s.heap.objs.size,_,I.laid (o:=.mi i j) (λb ob q=>Jw _ q) (J7 _) (show bA X.prog X.w _ _ _ (.mi i j) from⟨_,_,_,JH _ rfl⟩),rfl,q _ (I.aN.fresh (J7 _))⟩
section
variable {X:Cx} {a b c e o:Expr} {es rest:List Expr} {ua ub uc ue uo:UE} {uA uB:UT} {us:UA} {pos p p2 p3:Pos} {x:Str}
noncomputable def y6(xs:List α)(lo hi:Option Int):List α:=(xs.drop (HT.bD xs.length 0 lo)).take (HT.bD xs.length xs.length hi-HT.bD xs.length 0 lo)
noncomputable def GK(K:W.Frag):V->Option Int->Option Int->Hp->VK->Prop:=λx lo hi H Q=>∃a xs,x=.ref a/\bb K H a xs/\HT.bD xs.length 0 lo=0/\HT.bD xs.length xs.length hi=xs.length/\Q (.ref a) H
theorem iq{A:Around}{s:Shared}{t sl:Addr}{vl vu:Value}{lo hi:Option Int}{Q:Value->Shared->Prop}(ht:IsTup s.heap t items)(hs:s.heap.IsSliceOf sl vl vu .none)(pl:IsPart vl lo)(pu:IsPart vu hi)
  (h1:HT.bD items.size 0 lo=0) (h2:HT.bD items.size items.size hi=items.size) (h:Q (.ref t) s):wpAny (model prog w) A (getItem (.ref t) (.ref sl)) Q E s:=by
 obtain⟨os,hos,hcs,sy⟩:=id hs;have hTs:s.TypeIs (.ref sl) "slice":=⟨os,hos,hcs⟩;unfold getItem
 try with_reducible refine Ky ?_
 first|refine Js (Jz ?_)|skip
 refine Js (wpAny_sequenceKey ht.typeIs (by decide) ?_)
 refine Js (Kp (name:=Str.ofString "__getitem__") ht.typeIs Lf
  (K6 Lf ht.typeIs entry_tuple_getitem ?_ (args_tuple_getitem _ _)))
 show wpAny _ _ (Builtin.Tuple.tupleItemsOf (.ref t) >>= _) _ _ s;refine Js (tupleItemsOf_ ht ?_);refine Js (MM hTs ?_);rw[J6 (by decide)]
 refine Js (HT.eR hs pl pu ?_);show wpAny _ _ (if (((HT.bD items.size 0 lo:Nat):Int) == 0 && (1:Int) == 1 && (HT.bD items.size items.size hi-HT.bD items.size 0 lo) == items.size)=true then _ else _) _ _ s
 rw[J6 (by rw[h1,h2];simp)]
 unfold Builtin.Tuple.tupleIsExact;refine Js ?_;refine Js (MM ht.typeIs (Jz ?_));rw[J6 (by decide)]
 exact Js (N3 (Jz ⟨_,rfl,Jz h⟩))
theorem DK:sT X (GK X.K):=by
 intro pins s σ H x v vl vu lo hi sl Q I rx hs pl pu h;obtain⟨a,xs,rfl,hx,h1,h2,q⟩:=h;cases rx;obtain⟨its,r,ht,hz⟩:=I.tuple hx;have hlen:its.toArray.size=xs.length:=by rw[Jy];exact r.length.symm
 exact⟨"tuple",_,Lf.lookup,ht.typeIs,iq ht hs pl pu (by rw[hlen];exact h1) (by rw[hlen];exact h2) ⟨.ref a,H,I,rfl,q⟩⟩
noncomputable def Bt(K:W.Frag):V->Option Int->Option Int->Hp->VK->Prop:=λx lo hi H Q=>E4 K x lo hi H Q\/qH K x lo hi H Q\/GK K x lo hi H Q
theorem ph(K:W.Frag)(hK:X.K=K):sT X (Bt K):=by subst hK;exact nN.or (qF.or DK)
end
end Y
abbrev UI:=Mu->(List T->Option (Nat×List T)->Mu->Prop)->Prop
noncomputable def wL(K:W.Frag)(tl:TE):TI:=λσ H R=>tl σ H λx H1=>∃a,x=V.ref a/\(((∃xs,bB K H1 a xs)/\R (we K a) H1)\/((∃xs,bb K H1 a xs)/\R (vC K a) H1))
theorem Ea{l:Expr}(hl:PE X l tl):PI X tg l (wL X.K tl):=by
 intro pins s σ H R I h;refine bR (hl pins s σ H _ I h) λv s1 hq2=>?_;obtain⟨x,H1,I1,r1,q1⟩:=hq2;obtain⟨a,rfl,q⟩:=q1;cases r1;rcases q with ⟨⟨xs,hq⟩,q⟩|⟨⟨xs,hq⟩,q⟩
 ·obtain⟨its,rv,p,hz⟩:=I1.list hq;refine M1 p.isList ?_;refine⟨s1.heap.objs.size,[s1.heap.objs.size],_,_,H1,rfl,I1.kept (t':=s1.toks) λb o e=>Jw _ e,mZ a _,⟨_,JH _ rfl,rfl,rfl⟩,λb hb=>?_,q⟩;have e:b=s1.heap.objs.size:=by simpa using hb
  subst e;exact I1.pN (J7 _) (I1.aN.fresh (J7 _))
 ·obtain⟨its,rv,p,hz⟩:=I1.tuple hq;refine LL (show s1.heap.IsTuple a its.toArray from p) ?_;refine⟨s1.heap.objs.size,[s1.heap.objs.size],_,_,H1,rfl,I1.kept (t':=s1.toks) λb o e=>Jw _ e,jT a _,⟨_,JH _ rfl,rfl,rfl⟩,λb hb=>?_,q⟩;have e:b=s1.heap.objs.size:=by simpa using hb
  subst e;exact I1.pN (J7 _) (I1.aN.fresh (J7 _))
namespace Y
theorem vG{α:Type _}{l:List α}(h:l.length=1):∃y,l=[y]:=by
 rcases l with _|⟨a,_|⟨b,t⟩⟩
 ·cases h
 ·exact⟨a,rfl⟩
 ·cases h
theorem AR{α:Type _}{l:List α}(h:l.length=2):∃y z,l=[y,z]:=by
 rcases l with _|⟨a,t⟩
 ·cases h
 ·obtain⟨b,rfl⟩:=vG (Nat.succ.inj h);exact⟨a,b,rfl⟩
theorem vy{α:Type _}{l:List α}(h:l.length=3):∃x y z,l=[x,y,z]:=by
 rcases l with _|⟨a,t⟩
 ·cases h
 ·obtain⟨b,c,rfl⟩:=AR (Nat.succ.inj h);exact⟨a,b,c,rfl⟩
theorem IJ{α:Type _}{l:List α}(h:l.length=4):∃w x y z,l=[w,x,y,z]:=by
 rcases l with _|⟨a,t⟩
 ·cases h
 ·obtain⟨b,c,d,rfl⟩:=vy (Nat.succ.inj h);exact⟨a,b,c,d,rfl⟩
end Y
abbrev IY:=List T->(R->List T->Prop)->Prop
noncomputable def BO(K:W.Frag)(f:Addr)(cdv:Value):Prop:=∃(o:Obj) (fd:FuncData),K.lookup f=some o/\o.data=.func fd/\fd.code=cdv
noncomputable def my(K:W.Frag)(k:Bool)(H:Hp)(a:Addr)(xs:List V):Prop:=if k=true then bB K H a xs else bb K H a xs
noncomputable def lg(k:Bool)(h:Heap)(it a:Addr)(i:Nat):Prop:=if k=true then h.IsListIter it a i else h.IsTupleIter it a i
noncomputable def e9(k:Bool)(h:Heap)(a:Addr)(items:Array Value):Prop:=if k=true then h.IsList a items else h.IsTuple a items
theorem tT{A:Around}(k:Bool)(hh:A.handled=none)(it l:Addr)(hne:l≠it)(items:Array Value):Draws prog w A it [it,l] items.size (λi v=>items[i]?=some v) (λi h=>lg k h it l i/\e9 k h l items):=by
 cases k with
 |true=>exact Draws.list hh it l hne items
 |false=>exact iG hh it l hne items
theorem Inv.x_{s:Shared}{k:Bool}(I:Inv X pins σ H s)(h:my X.K k H a xs):∃its:List Value,Vals xs its/\e9 k s.heap a its.toArray:=by
 cases k with
 |true=>obtain⟨its,r,p,_⟩:=I.list h;exact⟨its,r,p.isList⟩
 |false=>obtain⟨its,r,p,_⟩:=I.tuple h;exact⟨its,r,p⟩
theorem Inv.yr{s:Shared}{k:Bool}{ys:List V}(I:Inv X pins σ H s)(h:my X.K k H a xs)(h':my X.K k H a ys):xs=ys:=by
 cases k with
 |true=>exact I.kO h h'
 |false=>exact I.iI h h'
theorem e9.ty{k:Bool}(x:e9 k h a items):∃o,h.get? a=some o/\(o.cls=.type "list"\/o.cls=.type "tuple")/\∃n,o.data=.seq items n:=by
 cases k with
 |true=>obtain⟨o,e,c,n,d⟩:=(show h.IsList a items from x);exact⟨o,e,.inl c,n,d⟩
 |false=>obtain⟨o,e,c,n,d⟩:=(show h.IsTuple a items from x);exact⟨o,e,.inr c,n,d⟩
theorem lg.ty{k:Bool}(x:lg k h it a i):∃o,h.get? it=some o/\(o.cls=.type "list_iterator"\/o.cls=.type "tuple_iterator")/\o.data=.fields #[.ref a,.int i 0]:=by
 cases k with
 |true=>obtain⟨o,e,c,d⟩:=(show h.IsListIter it a i from x);exact⟨o,e,.inl c,d⟩
 |false=>obtain⟨o,e,c,d⟩:=(show h.IsTupleIter it a i from x);exact⟨o,e,.inr c,d⟩
noncomputable def FF(k:Bool):String:=if k=true then "list_iterator" else "tuple_iterator"
theorem yl(x:h.IsTuple a items)(o:Obj):(h.push o).IsTuple a items:=by
 obtain⟨ob,e,r⟩:=x;exact⟨ob,Jw _ e,r⟩
theorem GA{k:Bool}(e:h.get? it=some {cls:=.type (FF k),data:=.fields #[.ref a,.int 0 0]}):lg k h it a 0:=by
 cases k with
 |true=>exact⟨_,e,rfl,rfl⟩
 |false=>exact⟨_,e,rfl,rfl⟩
noncomputable def qi(K:W.Frag):Sp:=λvs H Q _=>∃(a:Addr) (ns:List Int),vs=[.ref a]/\bB K H a (ns.map V.int)/\ns.length<=63/\∀H',Q (.bl true) H'
namespace Y
theorem EI(hu:X.A.units<cLine):cB X (compareOp .NotEq) (Bm X.K true):=by
 intro pins s σ H x y v u Q I rx ry h;obtain⟨a,b,xs,ys,rfl,rfl,hq,fx,fy,q⟩:=h
 cases rx;cases ry
 have item:∀(its its2:List Value),Vals xs its->Vals ys its2->∀j (h1:j<its.toArray.size) (h2:j<its2.toArray.size),SeqAt.EqAt X.A.in1 s its.toArray[j] its2.toArray[j] (match xs[j]?,ys[j]? with|some x,some y=>wm x y|_,_=>true):=λits its2 r1 r2 j h1 h2=>by
  have l1:=r1.length;have l2:=r2.length;rw[Jy] at h1 h2;obtain⟨u1,e1,g1⟩:=r1.get (i:=j) (x:=xs[j]) (Jr (by lia))
  obtain⟨u2,e2,g2⟩:=r2.get (i:=j) (x:=ys[j]) (Jr (by lia))
  rw[Jr (show j<xs.length by lia),Jr (show j<ys.length by lia)]
  have z1:its.toArray[j]=u1:=by
   rw[Jr h1] at e1;simpa using e1
  have z2:its2.toArray[j]=u2:=by
   rw[Jr h2] at e2;simpa using e2
  rw[z1,z2];exact nF g1 g2 (Lc.mp fx _ (JM _)) (Lc.mp fy _ (JM _))
 rcases hq with ⟨ha,hb⟩|⟨ha,hb⟩
 ·obtain⟨its,r1,p1,_⟩:=I.list ha;obtain⟨its2,r2,p2,_⟩:=I.list hb;have l1:=r1.length;have l2:=r2.length;by_cases e:xs.length=ys.length
  ·refine SeqAt.RcNeAt.lists p1.isList p2.isList (by rw[Jy,Jy];lia) hu (item its its2 r1 r2) X.prog X.w X.xe _ ⟨.bl _,H,I,rfl,q _ ?_⟩
   rw[Jy,<- l1,<- e,Lr,K4,Ow]
   try rfl
  ·refine Np p1.isList p2.isList (by rw[Jy,Jy,N4];lia) hu X.prog X.w X.xe _ ⟨.bl true,H,I,rfl,?_⟩
   exact q false (by rw[Kf.mpr e,M_])
 ·obtain⟨its,r1,p1,_⟩:=I.tuple ha;obtain⟨its2,r2,p2,_⟩:=I.tuple hb;have l1:=r1.length;have l2:=r2.length;refine SeqAt.RcNeAt.tuples p1 p2 hu (item its its2 r1 r2) X.prog X.w X.xe _ ⟨.bl _,H,I,rfl,q _ ?_⟩;rw[Jy,Jy,<- l1,<- l2,Bool.and_comm]
  try rfl
noncomputable def Hs(K:W.Frag):R2:=λx y H Q=>Hv x y H Q\/Bm K true x y H Q
theorem DT(K:W.Frag)(hK:X.K=K)(hu:X.A.units<cLine):cB X (compareOp .NotEq) (Hs K):=by subst hK;exact CQ.or (EI hu)
theorem lM:fillsNumberSlot (.type "tuple") "mul"=pure false:=
 PySem.fillsNumberSlot_seq (id:="tuple.__mul__") (r:=some (.builtin "tuple.__rmul__")) PySem.F.slot_tuple_mul.lookup (by decide +kernel) PySem.F.slot_tuple_rmul.lookup (by decide +kernel)
theorem rT:seqRepeat? (.type "tuple")=pure (some (.builtin "tuple.__mul__")):=by
 unfold seqRepeat?;rw[PySem.seqSlot_of (T:="tuple") (name:="__mul__") (id:="tuple.__mul__") PySem.F.slot_tuple_mul.lookup (by decide +kernel),PySem.seqSlot_of (T:="tuple") (name:="__rmul__") (id:="tuple.__rmul__") PySem.F.slot_tuple_rmul.lookup (by decide +kernel)];rfl
theorem w8(a:Int)(t:Tok)(l:Addr)(ob:Obj)(items:Array Value)(n:Nat)(hc:ob.cls=.type "tuple")(hd:ob.data=.seq items n):
  Meets (Builtin.«int.__rmul__» ⟨[.int a t,.ref l],[]⟩) (λ_ R s=>s.heap.get? l=some ob/\R (.ok (.ret Value.notImplemented)) s):=
 .of_wp λprog w A R s h=>by
  obtain⟨hp,g,d,tk,os⟩:=s;obtain⟨hl,h⟩:=h;obtain⟨c,dd,da,sl⟩:=ob;simp only at hc hd;subst hc hd
  wp_walk
  exact⟨_,rfl,h⟩
theorem Ca(l:Addr)(items:Array Value)(ob:Obj)(n:Nat)(k:Int)(t:Tok)(hc:ob.cls=.type "tuple")(hd:ob.data=.seq items n)(hne:items.isEmpty=false)(h1:1<k)(h2:k<=1000)(hsz:items.size<=1000):
  Meets (Builtin.«tuple.__mul__» ⟨[.ref l,.int k t],[]⟩) (λ_ R s=>s.heap.get? l=some ob/\R (.ok (.ret (.ref s.heap.objs.size))) {s with heap:=s.heap.push {cls:=.type "tuple",data:=.seq ((List.replicate k.toNat items).foldl (·++·) #[])}}):=
 .of_wp λprog w A R s h=>by
  obtain⟨hp,g,d,tk,os⟩:=s;obtain⟨hl,h⟩:=h;obtain⟨c,dd,da,sl⟩:=ob;simp only at hc hd;subst hc hd;have e1:(decide (k < -(2^63)) || decide (k >= 2^63))=false:=by rw[JV (by lia),JV (by lia)];rfl
  have e2:(items.isEmpty || k == 1)=false:=by rw[hne,Kf.mpr (by lia)];rfl
  have e3:(decide (k<=0) || items.isEmpty)=false:=by rw[hne,JV (by lia)];rfl
  wp_walk using AutoSeq1.wpAny_loadPart' hl;rw[Jx (by rw[e1];exact JE)]
  have ht:IsTup (Shared.heap ⟨hp,g,d,tk,os⟩) l items:=⟨_,hl,rfl,n,rfl⟩;show wpAny _ _ (Builtin.Tuple.tupleItemsOf (.ref l) >>= _) _ _ _;refine Js (tupleItemsOf_ ht ?_);rw[Jx (by rw[e2];exact JE)]
  show wpAny _ _ (if (decide (k<=0) || items.isEmpty)=true then _ else _) _ _ _
  rw[Jx (by rw[e3];exact JE)]
  have hm:(items.size:Int)*k<=1000*1000:=Int.mul_le_mul (by lia) h2 (by lia) (by lia)
  show wpAny _ _ (if (items.size:Int)*k >(2^63-1) / 8 then _ else _) _ _ _
  rw[Jx (by lia)]
  show wpAny _ _ (if Builtin.Tuple.tupleTooMany ((items.size:Int)*k)=true then _ else _) _ _ _
  have e4:Builtin.Tuple.tupleTooMany ((items.size:Int)*k)=false:=JV (by
   have:((sizeLine:Nat):Int) >= 1000000:=by decide
   lia)
  rw[Jx (by rw[e4];exact JE)]
  have hl2:((List.replicate k.toNat items).foldl (·++·) #[]).size<=sizeLine:=by
   have fs:∀(m:Nat) (acc:Array Value),((List.replicate m items).foldl (·++·) acc).size=acc.size+m*items.size:=λm=>by
    induction m with
    |zero=>intro acc;simp
    |succ m ih=>intro acc;rw[Ki,MK,ih,Nx,Mo];lia
   rw[fs];have h3:k.toNat*items.size<=1000*1000:=Nat.mul_le_mul (by lia) hsz
   have h4:(1000000:Nat)<=sizeLine:=by decide
   simp;lia
  exact Js (m:=Builtin.Tuple.tupleExact _) (KD (Jz ⟨_,rfl,h⟩) hl2)
theorem ve(its:List Value):∀(m:Nat) (acc:List Value),(List.replicate m its.toArray).foldl (·++·) acc.toArray=(acc++(List.replicate m its).flatten).toArray:=λm acc=>foldl_rep its m acc
noncomputable def C6(K:W.Frag):R2:=λx y H Q=>∃a k xs,x=.ref a/\y=.int k/\bb K H a xs/\xs≠[]/\xs.length<=1000/\1<k/\k<=1000/\∀p,H p=none->Q (.ref p) (upd H p (.tup (List.replicate k.toNat xs).flatten))
theorem By:cB X (binaryOp .Mult) (C6 X.K):=by
 intro pins s σ H x y v u Q I rx ry h;obtain⟨a,k,xs,rfl,rfl,hx,hne,hsz,h1,h2,q⟩:=h;cases rx;obtain⟨t,rfl⟩:=ry;obtain⟨its,r,p,hz⟩:=I.tuple hx;obtain⟨ob,ho,hc,n,hd⟩:=id p;have hlen:=r.length;have hemp:its.toArray.isEmpty=false:=by
  cases its with
  |nil=>cases r;exact absurd rfl hne
  |cons a b=>rfl
 refine N2 (T:="tuple") (U:="int") (by decide) ⟨_,ho,hc⟩ (λs'=>N1 s' k t) lM PySem.F.fills_int_mul PySem.F.slot_int_rmul rT PySem.F.slot_int_index.lookup
  (LI PySem.F.slot_int_rmul (N1 s k t) PySem.F.entry_int_rmul (PySem.F.args_int_rmul_2 _ _) (w8 k t a ob its.toArray n hc hd)
   ⟨ho,rfl,⟨_,ho,hc⟩,LI PySem.F.slot_tuple_mul ⟨_,ho,hc⟩ PySem.F.entry_tuple_mul (PySem.F.args_tuple_mul_2 _ _) (Ca a its.toArray ob n k t hc hd hemp h1 h2 (by rw[Jy];lia)) ⟨ho,?_⟩⟩)
 have e0:=ve its k.toNat [];rw[KH] at e0;have e0':(List.replicate k.toNat its.toArray).foldl (·++·) #[]=(List.replicate k.toNat its).flatten.toArray:=e0;rw[e0'];refine⟨.ref s.heap.objs.size,_,I.laid (t':=s.toks) (o:=.tup (List.replicate k.toNat xs).flatten) (λb ob q=>Jw _ q) (J7 _) ?_,rfl,q _ (I.aN.fresh (J7 _))⟩;refine⟨?_,_,r.rep k.toNat,dF.new _ _⟩;rw[len_rep];have h3:k.toNat*xs.length<=1000*1000:=Nat.mul_le_mul (by lia) hsz
 exact JC h3 (by decide)
noncomputable def C8(K:W.Frag):R2:=λx y H Q=>En x y H Q\/C6 K x y H Q
theorem nG(K:W.Frag)(hK:X.K=K):cB X (binaryOp .Mult) (C8 K):=by subst hK;exact dm.or By
end Y
open PySem PySem.Spec PyProof PyProof.Rows
namespace Y
theorem e_:∀{us:List Value} {ns:List Int},IntsAre us ns->Vals (ns.map V.int) us
 |_,_,.nil=>.nil
 |_,_,.cons n t h=>.cons ⟨t,rfl⟩ (e_ h)
theorem jF:∀{us:List Value} {ns:List Int},IntsAre us ns->us.length=ns.length
 |_,_,.nil=>rfl
 |_,_,.cons n t h=>by simp[jF h]
section
variable {prog:Program} {w:World} {A:Around} {E:Value->Shared->Prop} {s:Shared}
theorem pQ{l:Addr}{vs:List Value}{Q:List Value->Shared->Prop}(hl:IsTup s.heap l vs.toArray)(hsz:vs.length<=sizeLine)
  (h:Q vs {s with heap:=(s.heap.push (seqObj "list" #[] 0)).update s.heap.objs.size (Obj.mapSeq (·++vs.toArray))}):wpAny (model prog w) A (collect (.ref l)) Q E s:=by
 obtain⟨o,ho,hc,n,hd⟩:=id hl;unfold collect;refine Js (wpAny_runValue (LM entry_proto_collect' ?_));show wpAny _ _ (do again (.builtin "list.__iadd__" ⟨[<- newList [],.ref l],[]⟩)) _ _ s
 refine Js (Nq (Jz ⟨Code.quiet_builtin _ (by decide +kernel),LM entry_list_iadd' ?_⟩))
 show wpAny _ _ (Builtin.List.listExtendWith (.ref s.heap.objs.size) (.ref l) (.ref s.heap.objs.size)) _ _ {s with heap:=s.heap.push (seqObj "list" #[] 0)}
 unfold Builtin.List.listExtendWith;have ho':(s.heap.push (seqObj "list" #[] 0)).get? l=some o:=Jw _ ho;refine Js (MM (T:="tuple") ⟨o,ho',hc⟩ ?_);have ht:(Value.type "tuple" == Value.type "tuple")=true:=by rfl
 rw[J6 (by rw[ht];simp)]
 refine Js (NG ho' hd ?_);refine Js (NG (xs:=#[]) (n:=0) (JH _ rfl) rfl ?_);rw[Jx (by simp)]
 refine Js (listUpdate_at (xs:=#[]) (n:=0) (JH _ rfl) rfl ?_ (JL _) (by show (#[]++vs.toArray).size<=sizeLine+1;simp only[Nx,Jy,Ks];lia))
 refine Jz ?_;show wpAny (model prog w) A (load s.heap.objs.size >>= _) Q E {s with heap:=(s.heap.push (seqObj "list" #[] 0)).update s.heap.objs.size (Obj.mapSeq (·++vs.toArray))}
 refine Js (wpAny_load (MN (JH _ rfl) _) ?_);show wpAny _ _ (pure ((#[]:Array Value)++vs.toArray).toList) Q E _;rw[show ((#[]:Array Value)++vs.toArray).toList=vs by simp]
 exact Jz h
theorem qJ{l:Addr}{vs:List Value}{Q:Value->Shared->Prop}(hl:IsTup s.heap l vs.toArray)(hI:IntsAre vs ns)(h64:vs.length<64)
  (h:∀(out:Array Value) (ns':List Int),IntsAre out.toList ns'->ns'.Perm ns->ns'.Pairwise (·<=·)->Q (.ref (s.heap.objs.size+1)) {s with heap:=sortedAll s.heap vs out}) :
  wpAny (model prog w) A (call (.builtin "sorted") [.ref l]) Q E s:=by
 have hz:vs.length<=sizeLine:=JC (L3 h64) (by decide)
 refine Calls.call_function_entry kind_sorted plain_sorted entry_sorted (args_sorted1 _) ?_;unfold Builtin.«sorted»;refine Js (m:=checkCount "sorted" 1 1 _) (Jz ?_);refine Js (pQ hl hz ?_);refine Js (Nq ?_ hz);have hs:((s.heap.push (seqObj "list" #[] 0)).update s.heap.objs.size (Obj.mapSeq (·++vs.toArray))).objs.size=s.heap.objs.size+1:=by rw[Heap.size_update,size_push']
 have ho:(((s.heap.push (seqObj "list" #[] 0)).update s.heap.objs.size (Obj.mapSeq (·++vs.toArray))).push (seqObj "list" vs.toArray 0)).get? (s.heap.objs.size+1)=some (seqObj "list" vs.toArray 0):=by
  rw[<- hs];exact JH _ rfl
 show wpAny _ _ _ _ _ {s with heap:=((s.heap.push (seqObj "list" #[] 0)).update s.heap.objs.size (Obj.mapSeq (·++vs.toArray))).push (seqObj "list" vs.toArray 0)}
 rw[hs];refine Js (Ky (K6 slot_list_sort ⟨_,ho,rfl⟩ entry_list_sort (list_sort_tree ho hI h64 λout ns' a1 a2 a3=>⟨_,rfl,?_⟩) (args_list_sort _)));exact Jz ⟨_,rfl,h out ns' a1 a2 a3⟩
end
noncomputable def Ct(K:W.Frag):List V->Hp->VK->Prop:=λxs H Q=>∃p ns,xs=[.ref p]/\bb K H p (ns.map V.int)/\ns.length<64/\∀ns':List Int,ns'.Perm ns->ns'.Pairwise (·<=·)->∀l,H l=none->Q (.ref l) (upd H l (.lst (ns'.map V.int)))
theorem uE(K:W.Frag)(hK:X.K=K):a_ X (.builtin "sorted") (Ct K):=by
 subst hK;intro pins s σ H xs us Q I r h;obtain⟨p,ns,rfl,hq,h64,q⟩:=h;obtain⟨u,rfl,ru⟩:=vals1 r;cases ru;obtain⟨its,rv,pl,hz⟩:=I.tuple hq;have hi:=intsAre_of rv;refine qJ pl hi (by rw[jF hi];exact h64) λout ns' a1 a2 a3=>?_
 obtain⟨e,he⟩:=sortedAll_at s.heap its out;refine⟨.ref (s.heap.objs.size+1),_,I.laid (t':=s.toks) (λb ob q=>sortedAll_old q) (Lg _) (show bA X.prog X.w _ _ _ (.lst (ns'.map V.int)) from⟨?_,out.toList,e,e_ a1,by simpa using he⟩),rfl,q ns' a2 a3 _ (I.aN.fresh (Lg _))⟩
 rw[Jt,a2.length_eq];exact JC (L3 h64) (by decide)
theorem zo(l:List Nat):∀(n a:Nat),((List.range n).map (λk=>a+k)).filterMap (l[·]?)=(l.drop a).take n
 |0,_=>by simp
 |n+1,a=>by
  rw[NQ,JN,List.filterMap_append,zo l n a,List.take_add_one,KN]
  cases h:l[a+n]?<;>simp[h]
theorem qh(lo hi:Option Int)(n:Nat):Builtin.Str.strSliceIndices lo hi 1 n=(List.range (HT.bD n n hi-HT.bD n 0 lo)).map (λk=>HT.bD n 0 lo+k):=by
 have ea:∀(v:Int),max 0 (min (if v<0 then v+(n:Int) else v) (n:Int))=(((if v<0 then (v+(n:Int)).toNat else min v.toNat n):Nat):Int):=by
  intro v;split<;>lia
 have e:Builtin.Str.strSliceIndices lo hi 1 n=sliceRange (HT.bD n 0 lo) (HT.bD n n hi) 1:=by
  cases lo with
  |none=>cases hi with
   |none=>rfl
   |some j=>show sliceRange 0 (max 0 (min (if j<0 then j+(n:Int) else j) (n:Int))) 1=_;rw[ea];rfl
  |some i=>cases hi with
   |none=>show sliceRange (max 0 (min (if i<0 then i+(n:Int) else i) (n:Int))) n 1=_;rw[ea];rfl
   |some j=>show sliceRange (max 0 (min (if i<0 then i+(n:Int) else i) (n:Int))) (max 0 (min (if j<0 then j+(n:Int) else j) (n:Int))) 1=_;rw[ea,ea];rfl
 rw[e];generalize HT.bD n 0 lo=a;generalize HT.bD n n hi=b;unfold sliceRange;simp only[show ((1:Int) > 0)=True from by simp,LU,Int.one_mul]
 have c:(if (a:Int)<(b:Int) then ((b:Int)-a+1-1) / 1 else 0).toNat=b-a:=by split<;>lia
 rw[c];refine List.map_congr_left λk _=>?_;lia
theorem r_(z:Str)(lo hi:Option Int):Txt.slice z lo hi=⟨((z.cps.toList.drop (HT.bD z.cps.toList.length 0 lo)).take (HT.bD z.cps.toList.length z.cps.toList.length hi-HT.bD z.cps.toList.length 0 lo)).toArray⟩:=by
 have hl:z.cps.toList.length=z.length:=Kc;rw[hl];have hp:(Builtin.Str.strSliceIndices lo hi 1 z.length).filterMap (z.cps[·]?)=(z.cps.toList.drop (HT.bD z.length 0 lo)).take (HT.bD z.length z.length hi-HT.bD z.length 0 lo):=by
  rw[qh];have:=zo z.cps.toList (HT.bD z.length z.length hi-HT.bD z.length 0 lo) (HT.bD z.length 0 lo)
  simpa using this
 unfold Txt.slice;split
 ·rename_i h;rw[qh] at h;simp at h;have h2:=HT.rP z.length z.length (J7 _) hi;have h3:=HT.rP z.length 0 (JL _) lo;have a0:HT.bD z.length 0 lo=0:=by lia
  have b0:HT.bD z.length z.length hi=z.length:=by lia
  rw[a0,b0,KA,LX,<- hl,Kl]
 ·rw[hp]
noncomputable def jq(z:Str)(lo hi:Option Int):Str:=⟨(y6 z.cps.toList lo hi).toArray⟩
theorem vI(z:Str)(lo hi:Option Int):Txt.slice z lo hi=jq z lo hi:=r_ z lo hi
noncomputable def Ij:V->Option Int->Option Int->Hp->VK->Prop:=λx lo hi H Q=>∃z,x=.str z/\z.length<=sizeLine/\Q (.str (jq z lo hi)) H
theorem oC:sT X Ij:=by
 intro pins s σ H x v vl vu lo hi sl Q I rx hs pl pu h;obtain⟨z,rfl,hz,q⟩:=h;rw[<- vI] at q;obtain⟨t,rfl⟩:=rx;refine⟨"str",_,PySem.F.slot_str_getitem.lookup,Ot _ _ _,?_⟩
 cases pl<;>cases pu
 ·exact LA (l:=none) (u:=none) (st:=none) hs rfl (MO ⟨JC (Txt.slice_le z _ _) hz,λt' k=>⟨.str _,H,I.tok _,⟨_,rfl⟩,q⟩⟩)
 ·exact LA (l:=none) (u:=some (_,_)) (st:=none) hs rfl (MO ⟨JC (Txt.slice_le z _ _) hz,λt' k=>⟨.str _,H,I.tok _,⟨_,rfl⟩,q⟩⟩)
 ·exact LA (l:=some (_,_)) (u:=none) (st:=none) hs rfl (MO ⟨JC (Txt.slice_le z _ _) hz,λt' k=>⟨.str _,H,I.tok _,⟨_,rfl⟩,q⟩⟩)
 ·exact LA (l:=some (_,_)) (u:=some (_,_)) (st:=none) hs rfl (MO ⟨JC (Txt.slice_le z _ _) hz,λt' k=>⟨.str _,H,I.tok _,⟨_,rfl⟩,q⟩⟩)
noncomputable def lO(z y:Str)(i:Int):Bool:=decide (fromIndex z.length i+y.length<=z.length) && Builtin.Str.subAt z y (fromIndex z.length i)
noncomputable def zK:V->List V->Hp->VK->Prop:=λx vs H Q=>∃z y i,x=.str z/\vs=[.str y,.int i]/\Q (.bl (lO z y i)) H
theorem r9:vk X "str.startswith" zK:=by
 intro pins s σ H x xs v us Q I rx rs h;obtain⟨z,y,i,rfl,rfl,q⟩:=h;obtain⟨t,rfl⟩:=rx;obtain⟨_,_,rfl,r1,rs⟩:=Paired.gz rs;obtain⟨_,_,rfl,r2,rs⟩:=Paired.gz rs;obtain rfl:=Paired.vz rs;obtain⟨u1,rfl⟩:=r1;obtain⟨u2,rfl⟩:=r2;exact call_gives PySem.F.slot_str_startswith (Ot _ _ _) PySem.F.entry_str_startswith (PySem.F.args_str_startswith_3 _ _ _) (gives_str_startswith_from z y i t _ _) ⟨.bl _,H,I,rfl,q⟩
end Y
noncomputable def Fl(h:Heap)(e:Addr)(cls:Value)(d:Option Addr):Option Addr->Prop
 |none=>∃oe vs,h.get? e=some oe/\oe.cls=cls/\oe.dict=d/\oe.data=.fields vs/\vs[1]?=some Value.none
 |some T=>∃oe vs oT ts,h.get? e=some oe/\oe.cls=cls/\oe.dict=d/\oe.data=.fields vs/\vs[1]?=some (.ref T)/\T≠e/\h.get? T=some oT/\oT.data=.fields ts/\3<ts.size
theorem Fl.is(f:Fl h e cls d To):gW e cls d h:=by
 cases To with
 |none=>obtain⟨oe,vs,h1,h2,h3,h4,_⟩:=f;exact⟨oe,vs,h1,h2,h3,h4⟩
 |some T=>obtain⟨oe,vs,_,_,h1,h2,h3,h4,_⟩:=f;exact⟨oe,vs,h1,h2,h3,h4⟩
theorem gW.ok(x:gW e cls d h):bA P w H h e (.ext (gW e cls d)):=
 ⟨x,let ⟨o,_,h1,_⟩:=x;⟨o,h1⟩,λh1 h2 ⟨o,vs,a,b,c,d⟩ k=>⟨o,vs,k o a,b,c,d⟩⟩
theorem gW.one{cls':Value}{d':Option Addr}(x:gW e cls d h)(y:gW e cls' d' h):cls=cls'/\d=d':=by
 obtain⟨o,_,h1,h2,h3,_⟩:=x;obtain⟨o',_,g1,g2,g3,_⟩:=y;rw[h1] at g1;cases g1;exact⟨h2.symm.trans g2,h3.symm.trans g3⟩
structure Mv (h h':Heap) (e:Addr) (To:Option Addr) (fs:List Addr) (T':Addr):Prop where
 keep:∀b o,b≠e->(∀T,To=some T->b≠T)->b∉fs->h.get? b=some o->h'.get? b=some o
 slot:∀b o,b∈fs->h.get? b=some o->∃sl,h'.get? b=some {o with slots:=sl}
 new:(h.get? T'=none\/To=some T')/\T'∉fs
section
variable {h:Heap} {e:Addr} {cls:Value} {d:Option Addr} {base:Heap} {l:List Env}
theorem Fl.yi{T:Addr}(f:Fl h e cls d (some T))(hl:h.FunFrames base l):T∉jn l:=λm=>by
 obtain⟨_,o,ho,hd⟩:=hl.mem m;obtain⟨_,_,oT,ts,_,_,_,_,_,_,hT,hdT,_⟩:=f;rw[hT] at ho;cases ho;exact hd ts hdT
theorem Ag{o:Obj}{vs:Array Value}(q:o.data=.fields vs)(g:Array Value->Array Value):o.mapFields g={o with data:=.fields (g vs)}:=by
 obtain⟨c,dd,dt,sl⟩:=o;cases q;rfl
end
section
variable {M:Model} {A:Around} {E:Value->Shared->Prop} {s:Shared} {env:Env} {outer:List Env} {L e:Addr} {cls:Value} {d:Option Addr} {base:Heap}
theorem nR{o:Obj}{vs:Array Value}{x:Value}(ho:s.heap.get? a=some o)(hd:o.data=.fields vs)(hi:i<vs.size)
  (hq:∀h':Heap,(∀b,b≠a->h'.get? b=s.heap.get? b)->h'.get? a=some {o with data:=.fields (vs.setIfInBounds i x)}->Q () {s with heap:=h'}):wpAny M A (setField (.ref a) i x) Q E s:=by
 have hm:=Ag hd (·.setIfInBounds i x);refine Mx ho hd hi (hq _ (λb n=>M6 _ _ (Ko n)) ?_);have:=Lv (Obj.mapFields (·.setIfInBounds i x)) ho (ME (LK hd _));rw[hm] at this;exact this
theorem iN{T:Addr}{fl:Value}{oe oT:Obj}{vs ts:Array Value}(he:s.heap.get? e=some oe)(hd:oe.data=.fields vs)(h1:vs[1]?=some (.ref T))(hne:T≠e)(hT:s.heap.get? T=some oT)(hdT:oT.data=.fields ts)(h3:ts[3]?=some fl)
  (hq:∀h':Heap,(∀b,b≠T->h'.get? b=s.heap.get? b)->h'.get? T=some {oT with data:=.fields (ts.setIfInBounds 3 .none)}->Q () {s with heap:=h'}):wpAny M A (setFlight (.ref e) none) Q E s:=by
 unfold setFlight;refine Js (La he hd h1 ?_);rw[J6 (by simp)]
 exact nR hT hdT (Kh.mp h3).1 hq
theorem tO{oe:Obj}{vs:Array Value}{head:Value}{hn:Bool}(hfr:A.frames=some (env::outer))(hf:env.frame=some L)(hl:s.heap.FunFrames base (env::outer))(he:s.heap.get? e=some oe)(hd:oe.data=.fields vs)(hsz:1<vs.size)
  (hq:∀(h':Heap) (T':Addr) (oT:Obj) (ts:Array Value),(∀b o,b≠e->b∉jn (env::outer)->s.heap.get? b=some o->h'.get? b=some o)->(∀b o,b∈jn (env::outer)->s.heap.get? b=some o->∃sl,h'.get? b=some {o with slots:=sl}) ->
   s.heap.get? T'=none->h'.get? e=some {oe with data:=.fields (vs.setIfInBounds 1 (.ref T'))}->h'.get? T'=some oT->oT.data=.fields ts->ts[3]?=some (rawInt L)->T'≠e->T'∉jn (env::outer)->Q () {s with heap:=h'}) :
  wpAny M A (frameOf env >>= λa=>entryPlaceOf L hn >>= λpl=>EntryCells.newEntry head a .none (rawInt L) .none pl >>= λb=>setField (.ref e) 1 b) Q E s:=by
 have nfe:e∉jn (env::outer):=λm=>by
  obtain⟨_,o,ho,hnf⟩:=hl.mem m;rw[he] at ho;cases ho;exact hnf vs hd
 refine Js (wpAny_frameOf_fun hfr hl hf λh1 hs=>?_);obtain⟨hs1,hs2,hs3⟩:=hs;refine Js (wpAny_entryPlaceOf λpl hpl=>?_);unfold EntryCells.newEntry newFields;refine Js (KD ?_ (hpl.sizeOk5 _ _ _ _ _));have e1:h1.get? e=some oe:=(hs2 e nfe).trans he;have hsize:∀b o,h1.get? b=some o->b≠h1.objs.size:=λb o q=>JS (JI q);refine nR (Jw _ e1) hd hsz λh2 k1 k2=>?_;have nfT:h1.objs.size∉jn (env::outer):=λm=>by
  obtain⟨_,o,ho,_⟩:=hl.mem m;obtain⟨sl,q⟩:=hs3 _ o ho;exact hsize _ _ q rfl
 refine hq h2 h1.objs.size _ _ (λb o n1 n2 q=>?_) (λb o m q=>?_) ?_ k2 ((k1 _ (Ko (hsize _ _ e1))).trans (JH h1 rfl)) rfl ?_ (Ko (hsize _ _ e1)) nfT
 ·rw[k1 b n1];exact Jw _ ((hs2 b n2).trans q)
 ·obtain⟨sl,q1⟩:=hs3 b o q;exact⟨sl,(k1 b λz=>nfe (by rw[<- z];exact m)).trans (Jw _ q1)⟩
 ·cases q:s.heap.get? h1.objs.size with
  |none=>rfl
  |some o =>
   obtain⟨sl,q1⟩:=hs3 _ o q;exact absurd rfl (hsize _ _ q1)
 ·rcases hpl with rfl|⟨_,_,_,_,_,_,_,rfl⟩<;>simp
theorem pU{T:Addr}{l:List Env}(hl:s.heap.FunFrames base l)(f:Fl s.heap e cls d (some T))
  (hq:∀h' T',Mv s.heap h' e (some T) (jn l) T'->Fl h' e cls d (some T')->Q () {s with heap:=h'}):wpAny M A (setFlight (.ref e) none) Q E s:=by
 have nfT:=f.yi hl;obtain⟨oe,vs,oT,ts,g1,g2,g3,g4,g5,g6,g7,g8,g9⟩:=id f;refine iN g1 g4 g5 g6 g7 g8 (Ly g9) λh2 j1 j2=>?_;refine hq h2 T ⟨λb o n1 n2 n3 q=>(j1 b (n2 T rfl)).trans q,λb o m q=>⟨o.slots,(j1 b λz=>nfT (by rw[<- z];exact m)).trans q⟩,.inr rfl,nfT⟩ ⟨_,_,_,_,(j1 e (Ko g6)).trans g1,g2,g3,g4,g5,g6,j2,rfl,?_⟩
 simp[g9]
theorem oO(hfr:A.frames=some (env::outer))(hf:env.frame=some L)(hl:s.heap.FunFrames base (env::outer))(f:Fl s.heap e cls d To)
  (hq:∀h' T',Mv s.heap h' e To (jn (env::outer)) T'->Fl h' e cls d (some T')->Q () {s with heap:=h'}):wpAny M A (noteFrame (.ref e) env) (λ_ s2=>wpAny M A (setFlight (.ref e) none) Q E s2) E s:=by
 unfold noteFrame;simp only[hf]
 cases To with
 |none =>
  obtain⟨oe,vs,g1,g2,g3,g4,g5⟩:=id f;have hsz:=(Kh.mp g5).1;refine Js (La g1 g4 g5 ?_);rw[Jx (by decide)]
  refine tO hfr hf hl g1 g4 hsz λh1 T' oT ts k1 k2 k3 k4 k5 k6 k7 k8 k9=>?_;refine iN (s:={s with heap:=h1}) k4 rfl (by simp[hsz]) k8 k5 k6 k7 λh2 j1 j2=>?_
  have nT:∀b o,s.heap.get? b=some o->b≠T':=λb o q z=>by rw[z,k3] at q;cases q
  refine hq h2 T' ⟨λb o n1 _ n3 q=>?_,λb o m q=>?_,.inl k3,k9⟩ ⟨_,_,_,_,(j1 e (Ko k8)).trans k4,g2,g3,rfl,by simp[hsz],k8,j2,rfl,?_⟩
  ·exact (j1 b (nT b o q)).trans (k1 b o n1 n3 q)
  ·obtain⟨sl,q1⟩:=k2 b o m q;exact⟨sl,(j1 b (nT b o q)).trans q1⟩
  ·have:=(Kh.mp k7).1;simp[this]
 |some T =>
  obtain⟨oe,vs,oT,ts,g1,g2,g3,g4,g5,g6,g7,g8,g9⟩:=id f;have hsz:=(Kh.mp g5).1;have nfT:=f.yi hl;refine Js (La g1 g4 g5 ?_);rw[J6 (by simp)]
  refine Js (La g7 g8 (Ly g9) ?_);by_cases cL:(ts[3] == rawInt L)=true
  ·rw[J6 cL];exact Jz (pU hl f hq)
  rw[Jx cL];refine Js (nR g7 g8 g9 λh0 i1 i2=>?_);have hl0:h0.FunFrames base (env::outer):=hl.of_keeps λb o q hn=>⟨o,(i1 b λz=>by rw[z,g7] at q;cases q;exact hn ts g8).trans q,rfl⟩
  refine tO (s:={s with heap:=h0}) hfr hf hl0 ((i1 e (Ko g6)).trans g1) g4 hsz λh1 T' oT' ts' k1 k2 k3 k4 k5 k6 k7 k8 k9=>?_
  refine iN (s:={s with heap:=h1}) k4 rfl (by simp[hsz]) k8 k5 k6 k7 λh2 j1 j2=>?_
  have nTT:T'≠T:=λz=>by
   have k3':h0.get? T'=none:=k3;rw[z,i2] at k3';cases k3'
  have nT:∀b o,s.heap.get? b=some o->b≠T':=λb o q z=>by
   have k3':h0.get? T'=none:=k3;rw[<- z] at k3';by_cases z2:b=T
   ·exact nTT (z.symm.trans z2)
   ·rw[i1 b z2,q] at k3';cases k3'
  refine hq h2 T' ⟨λb o n1 n2 n3 q=>?_,λb o m q=>?_,.inl ?_,k9⟩ ⟨_,_,_,_,(j1 e (Ko k8)).trans k4,g2,g3,rfl,by simp[hsz],k8,j2,rfl,?_⟩
  ·exact (j1 b (nT b o q)).trans (k1 b o n1 n3 ((i1 b (n2 T rfl)).trans q))
  ·have nbT:b≠T:=λz=>nfT (by rw[<- z];exact m)
   obtain⟨sl,q1⟩:=k2 b o m ((i1 b nbT).trans q);exact⟨sl,(j1 b (nT b o q)).trans q1⟩
  ·exact (i1 T' nTT).symm.trans k3
  ·have:=(Kh.mp k7).1;simp[this]
theorem uS(hfr:A.frames=some (env::outer))(hf:env.frame=some L)(hl:s.heap.FunFrames base (env::outer))(f:Fl s.heap e cls d To)
  (hq:∀h' T',Mv s.heap h' e To (jn (env::outer)) T'->Fl h' e cls d (some T')->Q () {s with heap:=h'}):wpAny M A (leaving env (.ref e)) Q E s:=by
 unfold leaving;exact Js (oO hfr hf hl f hq)
end
theorem f7.xA(x:f7 P w H h)(k:∀b u,h.get? b=some u->h'.get? b=some u)(hn:H a=none)(new:bA P w (upd H a o) h' a o):f7 P w (upd H a o) h':=λb u e=>by
 by_cases z:b=a
 ·subst z;rw[aa] at e;cases e;exact new
 ·rw[ar z] at e;exact (x b u e).jt (λc v _ q=>k c v q) (λc q=>by rw[ar (af q hn)];exact q) (λc xs q=>by rw[ar (af q hn)];exact q) λc _ _ q=>by rw[ar (af q hn)];exact q
theorem Un.xA{fs:List Addr}(k:∀b u,h.get? b=some u->h'.get? b=some u)(h0:h.get? a=none)(hn:H a=none):Un fs ex H (upd H a o) h h' where
 keep:=λb u q _ _ _=>k b u q
 slot:=λb u q _ _ _=>⟨u.slots,k b u q⟩
 free:=λb u q n _=>by rw[ar (λz=>by rw[z,h0] at q;cases q)];exact n
 there:=λb u q _=>⟨u,k b u q⟩
 lL:=λb xs q=>by rw[ar (af q hn)];exact q
 js:=λb u xs q=>by rw[ar (af q hn)];exact q
 iJ:=λb ps q=>⟨#[],by rw[ar (af q hn),q];simp⟩
theorem f7.none_of(x:f7 P w H h)(e:h.get? a=none):H a=none:=by
 cases q:H a with
 |none=>rfl
 |some u =>
  have:=x a u q;obtain⟨o,ho⟩:∃o,h.get? a=some o:=by
   clear q
   induction u with
   |lst xs=>obtain⟨_,_,_,_,z⟩:=this;exact⟨_,z⟩
   |tup xs=>obtain⟨_,_,_,o,z,_⟩:=this;exact⟨_,z⟩
   |dK kvs=>obtain⟨_,_,_,_,o,_,_,z,_⟩:=this;exact⟨_,z⟩
   |dT kvs=>obtain⟨_,_,_,_,o,_,_,z,_⟩:=this;exact⟨_,z⟩
   |set S n=>obtain⟨o,_,_,_,z,_⟩:=this;exact⟨_,z⟩
   |ins C dx fs=>obtain⟨_,_,_,z,_⟩:=this;exact⟨_,z⟩
   |own x=>exact this
   |xd fs=>obtain⟨_,⟨o,_,_,z,_⟩,_⟩:=this;exact⟨_,z⟩
   |met f x=>exact⟨_,this⟩
   |mi lo hi=>obtain⟨_,_,_,z⟩:=this;exact⟨_,z⟩
   |jD o u ih=>exact⟨_,this.1⟩
   |vZ ps=>obtain⟨_,z,_⟩:=this;exact⟨_,z⟩
   |ext φ=>exact this.2.1
  rw[e] at ho;cases ho
theorem f7.moved{T':Addr}{fs:List Addr}(x:f7 P w H h)(mv:Mv h h' e To fs T')(f':gW e cls d h')(he:H e=some (.ext (gW e cls d)))(hT:∀T,To=some T->H T=none)(hf:∀b∈fs,H b=none):f7 P w H h':=λb u q=>by
 by_cases z:b=e
 ·subst z;rw[he] at q;cases q;exact f'.ok
 ·refine (x b u q).jt (λc v hc r=>?_) (λ_ q=>q) (λ_ _ q=>q) λ_ _ _ q=>q;have tr:∃o,H c=some o:=by
   rcases hc with rfl|hc
   ·exact⟨u,q⟩
   ·exact⟨_,hc⟩
  obtain⟨o,tr⟩:=tr;refine mv.keep c v (λz2=>?_) (λT hT' z2=>?_) (λm=>?_) r
  ·rcases hc with rfl|hc
   ·exact z z2
   ·rw[z2,he] at hc;cases hc
  ·rw[z2,hT T hT'] at tr;cases tr
  ·rw[hf c m] at tr;cases tr
section
variable {X:Cx} {pins:List (Addr×Obj)} {σ:St} {H H':Hp} {s:Shared} {h':Heap}
theorem Inv.Hj{ch:List Addr}(I:Inv X pins σ H s)
  (hch:∀b∈ch,X.s₀.heap.get? b=none/\b≠X.env.locals/\(∀x c,X.env.cells.lookup x=some c->c≠b)/\∀p∈X.pn++pins,p.1≠b)
  (keep:∀b o,b≠X.env.locals->b∉X.fs->b∉ch->s.heap.get? b=some o->H b=none->h'.get? b=some o)
  (slot:∀b o,b≠X.env.locals->b∈X.fs->b∉ch->s.heap.get? b=some o->H b=none->∃sl,h'.get? b=some {o with slots:=sl})
  (there:∀b o,b∉ch->s.heap.get? b=some o->∃o',h'.get? b=some o')
  (ns:∀m,s.heap.Ns X.env.locals m->h'.Ns X.env.locals m) (aN:f7 X.prog X.w H h') :
  Inv X pins σ H {s with heap:=h'}:=by
 have neL:∀b o,X.s₀.heap.get? b=some o->b≠X.env.locals:=λb o e=>JS (JQ (JI e) I.ok.above);have neC:∀b o,X.s₀.heap.get? b=some o->b∉ch:=λb o e hb=>by rw[(hch b hb).1] at e;cases e
 have cellK:∀x c,X.env.cells.lookup x=some c->∀v,s.heap.IsCell c v->h'.IsCell c v:=λx c e v ⟨o,ho,hd⟩=>by
  have nch:c∉ch:=λz=>(hch c z).2.2.1 x c e rfl;by_cases hc:c∈X.fs
  ·obtain⟨sl,q⟩:=slot c o (I.vx x c e) hc nch ho (I.cu x c e);exact⟨_,q,hd⟩
  ·exact⟨o,keep c o (I.vx x c e) hc nch ho (I.cu x c e),hd⟩
 refine⟨I.ok,I.os,I.bare,⟨λb o e n hb hx=>?_,λb o e n hb hx=>?_,I.base.free,λb o e hx=>?_,I.base.lL,I.base.js,I.base.iJ⟩,?_,λx c e=>?_,I.free,I.cu,λp hp=>?_,aN,I.len⟩
 ·exact keep b o (neL b o e) hb (neC b o e) (I.base.keep b o e n hb hx) (I.base.free b o e n hx)
 ·obtain⟨sl,e1⟩:=I.base.slot b o e n hb hx;obtain⟨sl',e2⟩:=slot b _ (neL b o e) hb (neC b o e) e1 (I.base.free b o e n hx);exact⟨sl',e2⟩
 ·obtain⟨o',e1⟩:=I.base.there b o e hx;exact there b o' (neC b o e) e1
 ·obtain⟨m,hn,hl⟩:=I.loc;refine⟨m,ns m hn,λi x v e1 e2 e3=>?_⟩;obtain⟨u,r,l⟩:=hl i x v e1 e2 e3;refine⟨u,r,?_⟩;rcases l with l|⟨k,c,e,z⟩
  ·exact .inl l
  ·exact .inr ⟨k,c,e,cellK x c e _ z⟩
 ·obtain⟨v,z⟩:=I.cell x c e;exact⟨v,cellK x c e v z⟩
 ·obtain⟨e,n,ne,nf,d⟩:=I.pin p hp;have nch:p.1∉ch:=λz=>(hch p.1 z).2.2.2 p hp rfl;exact⟨keep p.1 p.2 ne nf nch e n,n,ne,nf,d⟩
structure Nw (X:Cx) (pins:List (Addr×Obj)) (H:Hp) (e:Addr) (cls:Value) (d To:Option Addr):Prop where
 tr:H e=some (.ext (gW e cls d))
 e0:X.s₀.heap.get? e=none
 d0:∀a,d=some a->X.s₀.heap.get? a=none
 t0:∀T,To=some T->H T=none/\X.s₀.heap.get? T=none/\∀p∈X.pn++pins,p.1≠T
theorem Inv.moved{T':Addr}(I:Inv X pins σ H s)(hex:X.ex=[])(f:Fl s.heap e cls d To)(nw:Nw X pins H e cls d To)(mv:Mv s.heap h' e To (jn X.stack) T')(f':Fl h' e cls d (some T')):
  Inv X pins σ H {s with heap:=h'}/\Nw X pins H e cls d (some T'):=by
 have hfr:=I.j5;have teT:∀T o,To=some T->s.heap.get? T=some o->T∉jn X.stack:=λT o hT _=>by subst hT;exact f.yi I.stack
 have hne:∀b o,s.heap.get? b=some o->H b=none->b≠e:=λb o _ n z=>by rw[z,nw.tr] at n;cases n
 refine⟨I.Hj (ch:=To.toList) (λb hb=>?_) (λb o hL hb hc q n=>?_) (λb o _ hb hc q n=>?_) (λb o hc q=>?_) (λm hm=>?_) (I.aN.moved mv f'.is nw.tr (λT hT=>(nw.t0 T hT).1) hfr),nw.tr,nw.e0,nw.d0,λT hT=>?_⟩
 ·cases To with
  |none=>cases hb
  |some T =>
   have:b=T:=by simpa using hb
   subst this;obtain⟨h1,h2,h3⟩:=nw.t0 b rfl;obtain⟨_,_,oT,ts,_,_,_,_,_,_,hT,hdT,_⟩:=f;refine⟨h2,λz=>?_,λx c hc z=>?_,h3⟩
   ·obtain⟨m,⟨o,es,ep,ho,hd,_⟩,_⟩:=I.loc;rw[<- z,hT] at ho;cases ho;rw[hdT] at hd;cases hd
   ·obtain⟨v,o,ho,hd⟩:=I.cell x c hc;rw[z,hT] at ho;cases ho;rw[hdT] at hd;cases hd
 ·refine mv.keep b o (hne b o q n) (λT hT z=>hc (by rw[hT,z];simp)) (λm=>?_) q
  exact (J5.mp (I.kT b m)).elim hL hb
 ·by_cases m:b∈jn X.stack
  ·exact mv.slot b o m q
  ·exact⟨o.slots,mv.keep b o (hne b o q n) (λT hT z=>hc (by rw[hT,z];simp)) m q⟩
 ·by_cases z:b=e
  ·obtain⟨o',_,q',_⟩:=f'.is;exact⟨o',by rw[z];exact q'⟩
  ·by_cases m:b∈jn X.stack
   ·obtain⟨sl,q2⟩:=mv.slot b o m q;exact⟨_,q2⟩
   ·exact⟨o,mv.keep b o z (λT hT z=>hc (by rw[hT,z];simp)) m q⟩
 ·obtain⟨o,es,ep,ho,r⟩:=hm;have n:=I.free;by_cases mm:X.env.locals∈jn X.stack
  ·obtain⟨sl,q2⟩:=mv.slot _ o mm ho;exact⟨_,es,ep,q2,r⟩
  ·refine⟨o,es,ep,mv.keep _ o (hne _ o ho n) (λT hT z=>?_) mm ho,r⟩;subst hT;obtain⟨_,_,oT,ts,_,_,_,_,_,_,hT,hdT,_⟩:=f;rw[z,hT] at ho;cases ho;obtain⟨hd,_⟩:=r;rw[hdT] at hd;cases hd
 ·cases hT;rcases mv.new.1 with q|q
  ·refine⟨I.aN.none_of q,?_,λp hp z=>?_⟩
   ·cases q2:X.s₀.heap.get? T' with
    |none=>rfl
    |some o =>
     obtain⟨o',q3⟩:=I.base.there T' o q2 (by rw[hex];simp)
     rw[q] at q3;cases q3
   ·rw[<- z,(I.pin p hp).1] at q;cases q
  ·exact nw.t0 T' q
noncomputable def qS(X:Cx)(cls:Value)(d:Option Addr)(e:Addr)(σ:St)(H:Hp):Prop:=∀(pins:List (Addr×Obj)) (s:Shared) (To:Option Addr),Inv X pins σ H s->Fl s.heap e cls d To->Nw X pins H e cls d To->X.xe (.ref e) s
noncomputable def wc(P:Program)(w:World):oI:=λouter H s E x s'=>∃(e T:Addr) (cls:Value) (d:Option Addr) (H':Hp),x=.ref e/\s'.os=s.os/\AllBare s'.gens/\Un (jn outer) [] H H' s.heap s'.heap/\f7 P w H' s'.heap/\Fl s'.heap e cls d (some T)/\s.heap.get? e=none/\(∀a,d=some a->s.heap.get? a=none)/\s.heap.get? T=none/\H' e=some (.ext (gW e cls d))/\H' T=none/\E cls (some e) H'
end
theorem pz{base:Heap}{cd:Value}{A:Around}{outer:List Env}{s0:Shared}{H0:Hp}{E:XK}(hE:E cls (some e) H):
  qS (fE (wc P w) P w K mg base N qual scope f cd A outer s0 H0 E) cls d e σ H:=by
 intro pins s To I fl nw;refine uS (base:=base) I.ok.frames rfl I.stack fl λh' T' mv f'=>?_;obtain⟨I2,nw2⟩:=I.moved rfl fl nw mv f';exact⟨e,T',cls,d,H,rfl,I.os,I.bare,I2.base,I2.aN,f',nw.e0,nw.d0,(nw2.t0 T' rfl).2.1,nw.tr,(nw2.t0 T' rfl).1,hE⟩
section
variable {X:Cx}
noncomputable def Gp(X:Cx)(σ:St)(H:Hp):XK:=λcls de H'=>∃(e:Addr) (d:Option Addr),de=some e/\H' e=some (.ext (gW e cls d))/\(H e=none->(∀a,d=some a->H a=none)->qS X cls d e σ H')
structure fK (K:W.Frag) (C:Addr):Prop where
 q:W.excIn K C [.type "ValueError",.type "Exception",.type "BaseException",.type "object"] "ValueError.__new__"=true
theorem fK.obj(c:fK K C):∃bm N nm qn bs hd sn sub ab col dd k0 k1 k2 k3 k5,K.lookup C=some (excClassObj nm qn C N bs bm hd sn sub ab col dd k0 k1 k2 k3 k5 "ValueError.__new__") /\
  (∀h:Heap,K.In h->OwnTail h [.type "ValueError",.type "Exception",.type "BaseException",.type "object"] bm)/\(∃oN,K.lookup N=some oN)/\∀h:Heap,K.In h->∃mN,h.Ns N mN/\mN "__init__"=none:=by
 have q:=c.q;unfold W.excIn at q
 split at q
 ·rename_i dd cd sl ho
  split at q
  ·rename_i C2 bm k0 k1 k2 k3 nw k5 hm hs;simp only[beq_iff_eq,Bool.not_eq_true',Bool.and_eq_true] at q;obtain⟨⟨⟨⟨⟨z1,z2⟩,z3⟩,z4⟩,z5⟩,z6⟩:=q;subst z1;subst z2;obtain⟨nm,bs,mr,ns,qn,hd,sn,sub,ab,col,dl⟩:=cd;dsimp only at hm z3 z5 z6 ho;subst hm;subst z3;obtain⟨l⟩:=sl;have hs':l=[k0,k1,k2,k3,some (.builtin "ValueError.__new__"),k5]:=hs;subst hs';refine⟨bm,ns,nm,qn,bs,hd,sn,sub,ab,col,dd,k0,k1,k2,k3,k5,ho,λh tW=>W.tail_of_in tW z4,?_,λh tW=>⟨_,.of_isNs (W.isNs_of_in tW z5),W.nsMap_none_of_in tW z5 z6⟩⟩;unfold W.nsOkIn at z5
   split at z5
   ·rename_i hN;exact⟨_,hN⟩
   ·cases z5
  ·cases q
 ·cases q
noncomputable def Df(X:Cx)(C:Addr)(t:TA):TS:=λD σ H=>t σ H λvs H1=>vs.length<=sizeLine/\∀e,H1 e=none->qS X (.ref C) none e σ (upd H1 e (.ext (gW e (.ref C) none)))
theorem yY{C:Addr}{np pos:Pos}{e:Expr}{t:TA}(hg:Gl X x)(hm:X.mg x=some (.ref C))(hk:fK X.K C)(hc:X.calm=true)(hex:X.ex=[])(ha:PA X (e::es) t)(h1:autoParam (eZ e=true) ℜ0)(h2:autoParam (es.all eZ=true) ℜ0)(hdb:autoParam ((x ==("__debug__":Str))=false) ℜ1):
  PS X (.Raise (some (.Call (.Name x np) (e::es) [] cpos)) none pos) (Df X C t):=by
 intro pins s σ H D I h;obtain⟨bm,N,nm,qn,bs,hd,sn,sub,ab,col,dd,k0,k1,k2,k3,k5,lk,tl,⟨oN,lN⟩,hns⟩:=hk.obj;obtain⟨mN,hN,hni⟩:=hns s.heap I.iA;have FB:=PySem.F.excBase_ValueError;have hstar:starEach (e::es) X.env=(false,eval e X.env)::starEach es X.env:=df h1;refine wpAny_Raise_call_subU (C:=C) (nm:=nm) (q:=qn) (N:=N) (bs:=bs) (bm:=bm) (hdct:=hd) (sn:=sn) (sub:=sub) (ab:=ab) (col:=col) (dd:=dd) (k0:=k0) (k1:=k1) (k2:=k2) (k3:=k3) (k5:=k5) FB FB.hasB FB (mN:=mN) ((tl s.heap I.iA).hasType FB.hasBase) (I.ok.hd hc) ?_ hni (ib I hg hm ⟨rfl,?_⟩ hdb)
 ·rw[hstar];show (false || (backTo cpos (starEach es X.env)).any (·.1))=false;rw[plain_any h2];rfl
 ·have hp:=ha cpos pins s σ H _ I h;rw[hstar] at hp ⊢;refine Calls.evalArgs_plain (Km hp (λus s2 hq1=>?_) λ_ _ y=>y);obtain⟨vs,H1,I1,r,hl,q⟩:=hq1;refine⟨rfl,by rw[<- r.length];exact hl,I1.iA _ _ lk,?_,tl _ I1.iA,λh' ea hm2=>?_⟩
  ·obtain⟨o,es',ep,ho,rr⟩:=hN;have z1:=I.iA _ _ lN;rw[ho] at z1;cases z1;exact⟨_,es',ep,I1.iA _ _ lN,rr⟩
  ·have hne:=I1.aN.none_of hm2.new;obtain⟨tt,g1,g2,g3⟩:=hm2.there;have fl:Fl h' ea (.ref C) none none:=⟨_,_,g1,rfl,rfl,rfl,rfl⟩;have I2:Inv X pins σ (upd H1 ea (.ext (gW ea (.ref C) none))) {s2 with heap:=h'}:=I1.un (t':=s2.toks) (Un.xA hm2.keeps hm2.new hne) (I1.aN.xA hm2.keeps hne fl.is.ok)
   refine q ea hne pins _ none I2 fl ⟨aa,?_,(λa z=>by cases z),λT z=>by cases z⟩
   cases q2:X.s₀.heap.get? ea with
   |none=>rfl
   |some o =>
    obtain⟨o',q3⟩:=I1.base.there ea o q2 (by rw[hex];simp)
    rw[hm2.new] at q3;cases q3
end
abbrev Xw:=T->Mu->Prop
abbrev wb:=Value->Option Addr->Addr->St->Hp->Prop
abbrev UX:=Mu->(R->Mu->Prop)->Xw->Prop
abbrev Ji:=Ed->Xw->Mu->Prop
noncomputable def Fn(K:W.Frag)(mg:Str->Option Value)(x:Str)(f:Addr)(cdv:Value):Prop:=mg x=some (.ref f)/\∃(o:Obj) (fd:FuncData),K.lookup f=some o/\o.data=.func fd/\fd.code=cdv
abbrev vp(X:Cx)(pins:List (Addr×Obj))(E:Value->Shared->Prop):Cx:={X with xe:=E,pn:=X.pn++pins}
abbrev DS(X:Cx)(e:Addr):Cx:={X with A:=X.A.mark (some (.ref e)),calm:=false,xe:=λ_ _=>False}
section
variable {X:Cx} {pins pins':List (Addr×Obj)} {σ:St} {H:Hp} {s:Shared} {E:Value->Shared->Prop} {e:Addr}
theorem Inv.Hc(I:Inv X pins σ H s):Inv (vp X pins E) [] σ H s:=
 ⟨⟨I.ok.mod,I.ok.kind,I.ok.glob,I.ok.blt,I.ok.above,I.ok.inj,I.ok.has,I.ok.AV,I.ok.hd,I.ok.frames,I.ok.C9,I.ok.FE,I.ok.bs,I.ok.sP,I.ok.nI,I.ok.pP,I.ok.gq,I.ok.yn,I.ok.tabs⟩,
  I.os,I.bare,I.base,I.loc,I.cell,I.free,I.cu,λp hp=>I.pin p (by simpa using hp),I.aN,I.len⟩
theorem Inv.jm(I:Inv (vp X pins E) pins' σ H s):Inv X pins σ H s:=
 ⟨⟨I.ok.mod,I.ok.kind,I.ok.glob,I.ok.blt,I.ok.above,I.ok.inj,I.ok.has,I.ok.AV,I.ok.hd,I.ok.frames,I.ok.C9,I.ok.FE,I.ok.bs,I.ok.sP,I.ok.nI,I.ok.pP,I.ok.gq,I.ok.yn,I.ok.tabs⟩,
  I.os,I.bare,I.base,I.loc,I.cell,I.free,I.cu,λp hp=>I.pin p (KP _ hp),I.aN,I.len⟩
theorem Inv.HD(I:Inv X pins σ H s):Inv (DS X e) pins σ H s:=
 ⟨⟨I.ok.mod,I.ok.kind,I.ok.glob,I.ok.blt,I.ok.above,I.ok.inj,I.ok.has,I.ok.AV,(λz=>nomatch z),I.ok.frames,I.ok.C9,I.ok.FE,I.ok.bs,I.ok.sP,I.ok.nI,I.ok.pP,I.ok.gq,I.ok.yn,I.ok.tabs⟩,
  I.os,I.bare,I.base,I.loc,I.cell,I.free,I.cu,I.pin,I.aN,I.len⟩
theorem SP.jm{f:Flow}(h:SP (vp X pins E) pins' D f s):SP X pins D f s:=by
 cases f with
 |next=>obtain⟨σ',H',I,q⟩:=h;exact⟨σ',H',I.jm,q⟩
 |brk=>obtain⟨σ',H',I,q⟩:=h;exact⟨σ',H',I.jm,q⟩
 |cont=>obtain⟨σ',H',I,q⟩:=h;exact⟨σ',H',I.jm,q⟩
 |ret u=>obtain⟨v,σ',H',I,r,q⟩:=h;exact⟨v,σ',H',I.jm,r,q⟩
theorem SP.Ig{f:Flow}(hd:X.A.handled=none)(hc:X.calm=true)(h:SP (DS X e) pins D f s):SP X pins D f s:=by
 have go:∀{σ':St} {H':Hp} {s':Shared},Inv (DS X e) pins σ' H' s'->Inv X pins σ' H' s':=λI =>
  ⟨⟨I.ok.mod,I.ok.kind,I.ok.glob,I.ok.blt,I.ok.above,I.ok.inj,I.ok.has,I.ok.AV,λ_=>hd,I.ok.frames,I.ok.C9,I.ok.FE,I.ok.bs,I.ok.sP,I.ok.nI,I.ok.pP,I.ok.gq,I.ok.yn,I.ok.tabs⟩,
   I.os,I.bare,I.base,I.loc,I.cell,I.free,I.cu,I.pin,I.aN,I.len⟩
 cases f with
 |next=>obtain⟨σ',H',I,q⟩:=h;exact⟨σ',H',go I,q⟩
 |brk=>obtain⟨σ',H',I,q⟩:=h;exact⟨σ',H',go I,q⟩
 |cont=>obtain⟨σ',H',I,q⟩:=h;exact⟨σ',H',go I,q⟩
 |ret u=>obtain⟨v,σ',H',I,r,q⟩:=h;exact⟨v,σ',H',go I,r,q⟩
end
abbrev UJ:=Mu->(Mu->Prop)->Prop
theorem lu(a b:Str):(a++b).length=a.length+b.length:=Nx
theorem nB{n:Nat}(h:n<=40000):n<=sizeLine:=JC h (by decide)
noncomputable def oA(n m:Nat)(e:Nat->Bool):Bool:=(List.range (min n m)).all e && n == m
inductive lR:Nat->T->T->Bool->Prop
 |flat {n:Nat} {t u:T} (f1:mP t=true) (f2:mP u=true):lR n t u (Y.CV t u)
 |tup {n:Nat} {xs ys:List T} (e:Nat->Bool) (h:∀(j:Nat) (x y:T),xs[j]?=some x->ys[j]?=some y->lR n x y (e j)):lR (n+1) (.tup xs) (.tup ys) (oA xs.length ys.length e)
 |lst {n:Nat} {xs ys:List T} (e:Nat->Bool) (h:∀(j:Nat) (x y:T),xs[j]?=some x->ys[j]?=some y->lR n x y (e j)):lR (n+1) (.lst xs) (.lst ys) (oA xs.length ys.length e)
theorem yp{v:V}{B:mR}(h1:Rep K H B v t)(h2:Rep K H B v u)(f1:mP t=true)(f2:mP u=true):Y.CV t u=true:=by
 cases h1<;>first | (cases f1;done) | (cases h2<;>first | (cases f2;done)|simp[Y.CV])
theorem ja{n m:Nat}{e:Nat->Bool}(h:n=m)(h2:∀j,j<n->e j=true):oA n m e=true:=by
 subst h;unfold oA;rw[Lr,K4,MA,Lc];intro j hj;exact h2 j (by simpa using hj)
theorem lR.same{n:Nat}(d:lR n t u b):∀{K:W.Frag} {H:Hp} {B:mR} {v:V},Rep K H B v t->Rep K H B v u->b=true:=by
 induction d with
 |flat f1 f2=>exactλh1 h2=>yp h1 h2 f1 f2
 |tup e h ih =>
  rename_i nn xs ys;intro K H B v h1 h2
  cases h1 with
  |tup n1 a1 r1=>cases h2 with
   |tup n2 a2 r2 =>
    rw[a1] at a2;cases a2;refine ja (r1.length.symm.trans r2.length) λj hj=>?_;have hx:=Jr hj;have hj2:j<ys.length:=by rw[<- r2.length,r1.length];exact hj
    have hy:=Jr hj2;obtain⟨v1,g1,p1⟩:=r1.get hx;obtain⟨v2,g2,p2⟩:=r2.get hy;rw[g1] at g2;cases g2;exact ih j _ _ hx hy p1 p2
 |lst e h ih =>
  rename_i nn xs ys;intro K H B v h1 h2
  cases h1 with
  |lst n1 a1 r1=>cases h2 with
   |lst n2 a2 r2 =>
    rw[a1] at a2;cases a2;refine ja (r1.length.symm.trans r2.length) λj hj=>?_;have hx:=Jr hj;have hj2:j<ys.length:=by rw[<- r2.length,r1.length];exact hj
    have hy:=Jr hj2;obtain⟨v1,g1,p1⟩:=r1.get hx;obtain⟨v2,g2,p2⟩:=r2.get hy;rw[g1] at g2;cases g2;exact ih j _ _ hx hy p1 p2
section
variable {X:Cx} {pins:List (Addr×Obj)} {σ:St} {H:Hp} {s:Shared} {B:mR}
theorem eU{A:Around}{n:Nat}{xs:List T}{vs:List V}{e:Nat->Bool}(r1:cG X.K H B vs xs)(r2:cG X.K H B ws ys)(g1:Vals vs its)(g2:Vals ws its2)
  (ih:∀(j:Nat) (x y:T),xs[j]?=some x->ys[j]?=some y->∀(v w:V) (a b:Value),Rep X.K H B v x->Rep X.K H B w y->RelV v a->RelV w b->SeqAt.EqAt A s a b (e j)) :
  ∀j (h1:j<its.toArray.size) (h2:j<its2.toArray.size),SeqAt.EqAt A s its.toArray[j] its2.toArray[j] (e j):=by
 intro j h1 h2;have l1:=g1.length;have l2:=g2.length;have l3:=r1.length;have l4:=r2.length;rw[Jy] at h1 h2;have hx:=Jr (show j<xs.length by lia)
 have hy:=Jr (show j<ys.length by lia)
 obtain⟨v1,q1,p1⟩:=r1.get hx;obtain⟨v2,q2,p2⟩:=r2.get hy;obtain⟨u1,e1,f1⟩:=g1.get q1;obtain⟨u2,e2,f2⟩:=g2.get q2;have z1:its.toArray[j]=u1:=by
  rw[Jr h1] at e1;simpa using e1
 have z2:its2.toArray[j]=u2:=by
  rw[Jr h2] at e2;simpa using e2
 rw[z1,z2];exact ih j _ _ hx hy v1 v2 u1 u2 p1 p2 f1 f2
theorem eQ{vs:List V}{xs:List T}(e:Nat->Bool)(r1:cG X.K H B vs xs)(r2:cG X.K H B ws ys)(g1:Vals vs its)(g2:Vals ws its2):((List.range (min its.toArray.size its2.toArray.size)).all e && its.toArray.size == its2.toArray.size)=oA xs.length ys.length e:=by
 have l1:=g1.length;have l2:=g2.length;have l3:=r1.length;have l4:=r2.length;unfold oA;rw[Jy,Jy,<- l1,<- l2,l3,l4]
theorem yg{n:Nat}(d:lR n t u b):∀(I:Inv X pins σ H s) {A:Around} (hu:A.units+n<cLine) (v w:V) (a c:Value),Rep X.K H B v t->Rep X.K H B w u->RelV v a->RelV w c->SeqAt.EqAt A s a c b:=by
 induction d with
 |flat f1 f2 =>
  intro I A hu v w a c h1 h2 r1 r2;obtain⟨z1,z2,z3⟩:=Y.Gz h1 h2 f1 f2;rw[<- z3];exact nF r1 r2 z1 z2
 |tup e h ih =>
  intro I A hu v w a c h1 h2 r1 r2;rename_i n xs ys;have h1':=h1;have h2':=h2
  cases h1 with
  |tup n1 a1 q1=>cases h2 with
   |tup n2 a2 q2 =>
    rename_i p1 vs p2 ws
    cases r1;cases r2
    by_cases z:p1=p2
    ·subst z;rw[(lR.tup (n:=n) e h).same h1' h2'];exact SeqAt.EqAt.same _
    ·obtain⟨its,g1,pl1,_⟩:=I.tuple (bb.of a1);obtain⟨its2,g2,pl2,_⟩:=I.tuple (bb.of a2);rw[<- eQ (X:=X) e q1 q2 g1 g2];exact Nh z (SeqAt.RcAt.tuples pl1 pl2 (by lia) (eU (n:=n) q1 q2 g1 g2 λj x y hx hy v w a c=>ih j x y hx hy I (A:=A.in1) (by show A.units+1+n<cLine;lia) v w a c))
 |lst e h ih =>
  intro I A hu v w a c h1 h2 r1 r2;rename_i n xs ys;have h1':=h1;have h2':=h2
  cases h1 with
  |lst n1 a1 q1=>cases h2 with
   |lst n2 a2 q2 =>
    rename_i p1 vs p2 ws
    cases r1;cases r2
    by_cases z:p1=p2
    ·subst z;rw[(lR.lst (n:=n) e h).same h1' h2'];exact SeqAt.EqAt.same _
    ·obtain⟨its,g1,pl1,_⟩:=I.list (bB.of a1);obtain⟨its2,g2,pl2,_⟩:=I.list (bB.of a2);have sz:=eQ (X:=X) e q1 q2 g1 g2;rw[<- sz];by_cases hs:its.toArray.size=its2.toArray.size
     ·rw[hs,Lr,K4,MA,<- hs];exact Nh z (SeqAt.RcAt.lists pl1.isList pl2.isList hs (by lia) (eU (n:=n) q1 q2 g1 g2 λj x y hx hy v w a c=>ih j x y hx hy I (A:=A.in1) (by show A.units+1+n<cLine;lia) v w a c))
     ·rw[Kf.mpr hs,Oh];exact Nh z (SeqAt.RcAt.lists_lengths pl1.isList pl2.isList (N4.mpr hs) (by lia))
end
namespace Y
noncomputable def yy(K:W.Frag)(n:Nat)(neg:Bool):R2:=λx y H Q=>∃(B:mR) (a b:Addr) (vs ws:List V) (xs ys:List T) (e:Nat->Bool),x=.ref a/\y=.ref b/\((bb K H a vs/\bb K H b ws)\/(bB K H a vs/\bB K H b ws))/\cG K H B vs xs/\cG K H B ws ys /\
 (∀(j:Nat) (x y:T),xs[j]?=some x->ys[j]?=some y->lR n x y (e j))/\Q (.bl (if neg then !oA xs.length ys.length e else oA xs.length ys.length e)) H
theorem AQ{X:Cx}{n:Nat}(hu:X.A.units+n+1<cLine):cB X (compareOp .Eq) (yy X.K n false):=by
 intro pins s σ H x y v u Q I rx ry h;obtain⟨B,a,b,vs,ws,xs,ys,e,rfl,rfl,hq,r1,r2,ih,q⟩:=h
 cases rx;cases ry
 have it:∀(j:Nat) (x y:T),xs[j]?=some x->ys[j]?=some y->∀(v w:V) (a b:Value),Rep X.K H B v x->Rep X.K H B w y->RelV v a->RelV w b->SeqAt.EqAt X.A.in1 s a b (e j):=λj x y hx hy v w a c=>yg (ih j x y hx hy) I (A:=X.A.in1) (by show X.A.units+1+n<cLine;lia) v w a c
 rcases hq with ⟨ha,hb⟩|⟨ha,hb⟩
 ·obtain⟨its,g1,p1,_⟩:=I.tuple ha;obtain⟨its2,g2,p2,_⟩:=I.tuple hb;refine SeqAt.eq_tupleAt p1 p2 (by lia) (eU (n:=n) r1 r2 g1 g2 it) ⟨.bl _,H,I,rfl,?_⟩
  rw[eQ (X:=X) e r1 r2 g1 g2];exact q
 ·obtain⟨its,g1,p1,_⟩:=I.list ha;obtain⟨its2,g2,p2,_⟩:=I.list hb;have sz:=eQ (X:=X) e r1 r2 g1 g2;by_cases hs:its.toArray.size=its2.toArray.size
  ·rw[hs,Lr,K4,MA,<- hs] at sz;refine SeqAt.eq_listAt p1.isList p2.isList hs (by lia) (eU (n:=n) r1 r2 g1 g2 it) ⟨.bl _,H,I,rfl,?_⟩
   rw[sz];exact q
  ·rw[Kf.mpr hs,Oh] at sz;refine NM p1.isList p2.isList (N4.mpr hs) (by lia) ⟨.bl _,H,I,rfl,?_⟩
   rw[sz];exact q
theorem AA{X:Cx}{n:Nat}(hu:X.A.units+n+1<cLine):cB X (compareOp .NotEq) (yy X.K n true):=by
 intro pins s σ H x y v u Q I rx ry h;obtain⟨B,a,b,vs,ws,xs,ys,e,rfl,rfl,hq,r1,r2,ih,q⟩:=h
 cases rx;cases ry
 have it:∀(j:Nat) (x y:T),xs[j]?=some x->ys[j]?=some y->∀(v w:V) (a b:Value),Rep X.K H B v x->Rep X.K H B w y->RelV v a->RelV w b->SeqAt.EqAt X.A.in1 s a b (e j):=λj x y hx hy v w a c=>yg (ih j x y hx hy) I (A:=X.A.in1) (by show X.A.units+1+n<cLine;lia) v w a c
 rcases hq with ⟨ha,hb⟩|⟨ha,hb⟩
 ·obtain⟨its,g1,p1,_⟩:=I.tuple ha;obtain⟨its2,g2,p2,_⟩:=I.tuple hb;refine SeqAt.RcNeAt.tuples p1 p2 (by lia) (eU (n:=n) r1 r2 g1 g2 it) X.prog X.w X.xe _ ⟨.bl _,H,I,rfl,?_⟩
  rw[eQ (X:=X) e r1 r2 g1 g2];exact q
 ·obtain⟨its,g1,p1,_⟩:=I.list ha;obtain⟨its2,g2,p2,_⟩:=I.list hb;have sz:=eQ (X:=X) e r1 r2 g1 g2;by_cases hs:its.toArray.size=its2.toArray.size
  ·rw[hs,Lr,K4,MA,<- hs] at sz;refine SeqAt.RcNeAt.lists p1.isList p2.isList hs (by lia) (eU (n:=n) r1 r2 g1 g2 it) X.prog X.w X.xe _ ⟨.bl _,H,I,rfl,?_⟩
   rw[sz];exact q
  ·rw[Kf.mpr hs,Oh] at sz;refine Np p1.isList p2.isList (N4.mpr hs) (by lia) X.prog X.w X.xe _ ⟨.bl true,H,I,rfl,?_⟩
   have q2:=q;rw[<- sz] at q2;exact q2
end Y
theorem iD{A:Around}{k:Nat}(hr:b9 k A):A.units+4+1<cLine:=Kt (Nat.add_le_add_left (by decide:4+1<=64) _) hr.units
namespace Y
noncomputable def Iz(K:W.Frag):R2:=λx y H Q=>G0 K x y H Q\/yy K 4 false x y H Q
theorem r6(K:W.Frag)(hK:X.K=K)(hu:X.A.units+4+1<cLine):cB X (compareOp .Eq) (Iz K):=by subst hK;exact (DJ X.K rfl (by lia)).or (AQ hu)
noncomputable def E9(K:W.Frag):R2:=λx y H Q=>Hs K x y H Q\/yy K 4 true x y H Q
theorem qX(K:W.Frag)(hK:X.K=K)(hu:X.A.units+4+1<cLine):cB X (compareOp .NotEq) (E9 K):=by subst hK;exact (DT X.K rfl (by lia)).or (AA hu)
end Y
structure zH (K:W.Frag) (C:Addr):Prop where
 ga:W.findIn K (.ref C) "__getattribute__"=some (some (.builtin "BaseException.__getattribute__"))
 gt:W.findIn K (.ref C) "__getattr__"=some none
 ck:W.findIn K (.ref C) "__class__"=some (some (.builtin "object.__class__"))
 sp:W.specialIn K (.builtin "object.__class__") "__get__"=some (some (.builtin "getset_descriptor.__get__"))
 tk:W.takesIn K (.builtin "object.__class__")=some true
 mo:W.mroIn K C (.type "object")=some true
 mb:W.mroIn K C (.type "BaseException")=some true
section
variable {prog:Program} {w:World} {A:Around} {E:Value->Shared->Prop} {s:Shared} {K:W.Frag} {x C:Addr} {ox:Obj}
theorem mI{tk:Tok}{Q:Fin->Shared->Prop}(KX:zH K C)(X:K.In s.heap)(I:W.InstAt s.heap x ox C none)(h:Q (.done (.ret (.ref C))) s):wpAny (model prog w) A (Builtin.«object.__getattribute__» ⟨[.ref x,.str "__class__" tk],[]⟩) Q E s:=by
 obtain⟨cd,eY⟩:∃cd,W.clsIn K C=some cd:=by
  have:=KX.mo;unfold W.mroIn at this
  cases q:W.clsIn K C with
  |none=>rw[q] at this;cases this
  |some cd=>exact⟨cd,rfl⟩
 have hf:W.findObj K C none "__class__"=some (.bind (.builtin "getset_descriptor.__get__") (.builtin "object.__class__")):=by
  unfold W.findObj;rw[eY,Le,KX.ck,Le];simp[KX.sp,KX.tk]
 have L0:=I.type (M:=model prog w);have L1:=W.looks_find (M:=model prog w) X I hf;obtain⟨hh,g,d,t,os⟩:=s;unfold Builtin.«object.__getattribute__»
 repeat (any_goals (first|assumption|with_reducible refine Js (L0.at ?_)|with_reducible refine Js (L1.at ?_)|wp_step))
 exact W.class_get X I KX.mo (Jz h)
theorem uG{Q:Option Value->Shared->Prop}(KX:zH K C)(X:K.In s.heap)(I:W.InstAt s.heap x ox C none)(h:Q (some (.ref C)) {s with toks:=s.toks+1}):wpAny (model prog w) A (getAttr? (.ref x) "__class__") Q E s:=by
 have L0:=I.type (M:=model prog w);have L1:=Of (M:=model prog w) X KX.ga;have L2:=Of (M:=model prog w) X KX.gt;have LB:W.Looks (model prog w) s.heap (isInstance (.ref x) (.type "BaseException")) true:=L0.andThen (W.looks_mroIn (M:=model prog w) X KX.mb);have fb:=PySem.F.attr_ValueError.ga.bind (.ref x);have n1:(onTheHeap (Value.ref C) && Value.builtin "BaseException.__getattribute__" == Value.builtin "object.__getattribute__")=false:=by
  rw[show (Value.builtin "BaseException.__getattribute__" == Value.builtin "object.__getattribute__")=false from by decide +kernel];rfl
 obtain⟨hh,g,d,t,os⟩:=s;unfold getAttr? getAttrBy? getAttrBy;refine wpAny_bind (wpAny_mkText (wpAny_bind (wpAny_attempt (wpAny_holding (wpAny_bind (L0.at (wpAny_bind (L1.at ?_))))))));dsimp only;rw[if_neg (by rw[n1];decide)]
 unfold getAttrByItsOwn hookBefore;rw[J6 (show onTheHeap (Value.ref C)=true from rfl)];refine Js (L2.at (Js (Mi (Ky ?_))));unfold callGetattribute boundAndCalled;rw[Jx (by decide),fb]
 refine Js (Jz (N0 ?_));refine codeAny_call_builtin PySem.F.attr_ValueError.ga.plain PySem.F.entry_bexc_ga ?_;have hk:builtinKind "BaseException.__getattribute__"=some .slot:=by decide +kernel
 have lS:splitId "BaseException.__getattribute__"=some ("BaseException","__getattribute__"):=by decide +kernel
 have ha:=PySem.F.args_bexc_ga (.ref x) (.str "__class__" t);simp only[checkBuiltinCall,hk,lS];show wpAny _ _ (isInstance (.ref x) (.type "BaseException") >>= _) _ _ _;refine Js (LB.at ?_);rw[Jx (by decide)]
 unfold argsOk at ha
 cases q:Manifest.signature? "BaseException.__getattribute__" with
 |none =>
  refine Jz (mI (s:=⟨hh,g,d,t+1,os⟩) KX X I ?_);exact Jz (Jz h)
 |some sg =>
  rw[q] at ha;have ha':Bind.checkArgs "BaseException.__getattribute__" sg ⟨[.ref x,.str "__class__" t],[]⟩=pure ():=ha;show wpAny _ _ (Bind.checkArgs "BaseException.__getattribute__" sg ⟨[.ref x,.str "__class__" t],[]⟩) _ _ _;rw[ha'];refine Jz (mI (s:=⟨hh,g,d,t+1,os⟩) KX X I ?_);exact Jz (Jz h)
end
theorem gW.inst{x:Addr}(p:gW x (.ref C) none h):∃ox,W.InstAt h x ox C none:=by
 obtain⟨o,vs,h1,h2,h3,h4⟩:=p;refine⟨o,h1,h2,by unfold W.notCls;rw[h4],?_⟩
 rw[h3];trivial
theorem lG{v:Value}(e:W.mroIn K C v=some b):∃c d cd sl,K.lookup C=some ⟨c,d,.cls cd,sl⟩:=by
 unfold W.mroIn W.clsIn at e
 split at e
 ·rename_i c d cd sl q;exact⟨c,d,cd,sl,q⟩
 ·cases e
theorem qk{x:Addr}(KX:zH K C):W.KitX K (.ref x) (.ref C) (gW x (.ref C) none) where
 ty:=λM h _ p=>by
  obtain⟨o,I⟩:=p.inst;exact I.type
 it:=λM h X _=>by
  obtain⟨c,d,cd,sl,q⟩:=lG KX.mo;intro A' Q' E' s' k z;unfold isType loadHead;exact Js (wpAny_loadPart (k _ _ (X _ _ q)) (Jz z))
 ne:=λh tp dd its n sl X htp=>by
  obtain⟨c,d,cd,sl',q⟩:=lG KX.mo;refine Bool.eq_false_iff.mpr λz=>?_;have e:C=tp:=Value.ref.inj (LG.mp z);subst e;have:=(X _ _ q).symm.trans htp;cases this
 ca:=λX p k=>by
  obtain⟨o,I⟩:=p.inst;exact uG KX X I k
noncomputable def HP(K:W.Frag)(H:Hp)(x:V)(t:Value):Prop:=(x=.aG/\t=.type "NoneType")\/∃a C,x=.ref a/\t=.ref C/\H a=some (.ext (gW a (.ref C) none))/\zH K C
noncomputable def CW(K:W.Frag)(y:V)(c:Value):List V->Hp->VK->Prop:=λxs H Q=>∃x t b,xs=[x,y]/\HP K H x t/\W.kitOne K t c=some b/\Q (.bl b) H
noncomputable def Cz(K:W.Frag)(ds:List Addr):List V->Hp->VK->Prop:=λxs H Q=>∃x t b p,xs=[x,.ref p]/\H p=some (.tup (ds.map V.ref))/\HP K H x t/\W.kitAny K t (ds.map Value.ref)=some b/\Q (.bl b) H
theorem mH:∀{ds:List Addr} {us:List Value},Vals (ds.map V.ref) us->us=ds.map Value.ref
 |[],_,.nil=>rfl
 |d::ds,u::us,.cons h r=>by
  have h':u=Value.ref d:=h;rw[h',mH r];rfl
section
variable {X:Cx}
theorem vQ{y:V}{c:Value}(hy:∀u,RelV y u->u=c):a_ X (.builtin "isinstance") (CW X.K y c):=by
 rintro pins s σ H xs us Q I r ⟨x,t,b,rfl,ty,e,q⟩;obtain⟨u,w',rfl,r1,r2⟩:=vals2 r
 cases hy _ r2
 rcases ty with ⟨rfl,rfl⟩|⟨a,C,rfl,rfl,ha,KX⟩
 ·cases (show u=Value.none from r1)
  exact W.kia_one W.kitx_none I.iA True.intro e (λz=>nomatch z) λtk=>⟨.bl b,H,I.tok _,rfl,q⟩
 ·cases (show u=Value.ref a from r1)
  exact W.kia_one (qk KX) I.iA (show gW a (.ref C) none s.heap from (I.aN _ _ ha).1) e (λz=>nomatch z) λtk=>⟨.bl b,H,I.tok _,rfl,q⟩
theorem vE{ds:List Addr}:a_ X (.builtin "isinstance") (Cz X.K ds):=by
 rintro pins s σ H xs us Q I r ⟨x,t,b,p,rfl,hp,ty,e,q⟩;obtain⟨u,w',rfl,r1,r2⟩:=vals2 r
 cases (show w'=Value.ref p from r2)
 obtain⟨_,its,hv,⟨⟨oc,od,oda,osl⟩,h1,h2,n,h3,_⟩⟩:=(show bA X.prog X.w H s.heap p (.tup (ds.map V.ref)) from I.aN _ _ hp);cases h2;cases h3
 cases mH hv
 rcases ty with ⟨rfl,rfl⟩|⟨a,C,rfl,rfl,ha,KX⟩
 ·cases (show u=Value.none from r1)
  exact W.kia_tup W.kitx_none I.iA True.intro h1 e (λz=>nomatch z) λtk=>⟨.bl b,H,I.tok _,rfl,q⟩
 ·cases (show u=Value.ref a from r1)
  exact W.kia_tup (qk KX) I.iA (show gW a (.ref C) none s.heap from (I.aN _ _ ha).1) h1 e (λz=>nomatch z) λtk=>⟨.bl b,H,I.tok _,rfl,q⟩
end
section
variable {X:Cx} {pins:List (Addr×Obj)} {σ:St} {H:Hp} {s:Shared}
theorem name_goes{A:Around}{pos:Pos}(I:Inv X pins σ H s)(hN:X.N.Nodup)(hi:X.N[i]?=some x)(hk:X.env.kindOf x=some .local)
  (hq:∀s',Inv X pins (σ.set i none) H s'->Q () s'):wpAny M A (do bindName X.env x .none;unbindBehindTheSuite X.env x pos) Q E s:=by
 obtain⟨m,hn,hl⟩:=id I.loc;have hcls:(X.env.scope.kind == .class || (X.env.scope.kind == .module && X.env.locals != X.env.globals))=false:=by rw[I.ok.kind];rfl
 have vx:=I.vx;refine wpAny_nameGoes_keeps hk hn hcls λh' v hn' hs=>hq _ ?_;have keep:∀b o,b≠X.env.locals->s.heap.get? b=some o->h'.get? b=some o:=λb o n q=>(hs.2 b n).trans q;have neL:∀b o,X.s₀.heap.get? b=some o->b≠X.env.locals:=λb o e=>JS (JQ (JI e) I.ok.above);refine⟨I.ok,I.os,I.bare,⟨λb o e n hb hx=>keep b o (neL b o e) (I.base.keep b o e n hb hx),λb o e n hb hx=>?_,I.base.free,λb o e hx=>?_,I.base.lL,I.base.js,I.base.iJ⟩,⟨_,hn',λj y v' e1 e2 e3=>?_⟩,λy c e=>?_,I.free,I.cu,λp hp=>?_,λb ob e=>?_,by simpa using I.len⟩
 ·obtain⟨sl,e1⟩:=I.base.slot b o e n hb hx;exact⟨sl,keep b _ (neL b o e) e1⟩
 ·obtain⟨o',e1⟩:=I.base.there b o e hx;exact⟨o',keep b _ (neL b o e) e1⟩
 ·by_cases hj:j=i
  ·subst hj;have:j<σ.length:=by rw[I.len];exact (Jv.mp hi).1
   rw[Lq this] at e2;cases e2
  ·rw[LZ (Ko hj)] at e2;obtain⟨u',r',q⟩:=hl j y v' e1 e2 e3;refine⟨u',r',?_⟩;rcases q with ⟨k,e⟩|⟨k,c,e,z⟩
   ·refine .inl ⟨k,?_⟩;have:y≠x:=λe=>hj (ll hN e1 (e ▸ hi));simp[this,e]
   ·exact .inr ⟨k,c,e,z.sameBut hs (vx y c e)⟩
 ·obtain⟨w',z⟩:=I.cell y c e;exact⟨w',z.sameBut hs (vx y c e)⟩
 ·obtain⟨e,n,ne,nf,d⟩:=I.pin p hp;exact⟨keep _ _ ne e,n,ne,nf,d⟩
 ·refine (I.aN b ob e).jt (λc w' hc q=>keep c w' ?_ q) (λ_ q=>q) (λ_ _ q=>q) λ_ _ _ q=>q;rintro rfl;rcases hc with rfl|hc
  ·rw[I.free] at e;cases e
  ·rw[I.free] at hc;cases hc
end
theorem vb{A:Around}{g:Array GenState}{d:Drawn}{t:Nat}{os:OsState}{D:Addr}{d0:Option Addr}{Q:Bool->Shared->Prop}(tW:K.In h)(hC:fK K C)(hD:fK K D)(he:gW e (.ref C) d0 h)(hs:W.mroIn K C (.ref D)=some true)
  (hq:Q true ⟨h,g,d,t,os⟩):wpAny M A (excMatches (.ref e) (.ref D)) Q E ⟨h,g,d,t,os⟩:=by
 obtain⟨bm,N,nm,qn,bs,hd,sn,sub,ab,col,dd,k0,k1,k2,k3,k5,lk,tl,_,_⟩:=hC.obj;obtain⟨bm',N',nm',qn',bs',hd',sn',sub',ab',col',dd',k0',k1',k2',k3',k5',lk',tl',_,_⟩:=hD.obj;have gC:=tW _ _ lk;have gD:=tW _ _ lk';obtain⟨oe,vs,h1,h2,_,_⟩:=he;have c1:(Value.ref D::bm').contains (.type "BaseException")=true:=by rw[List.contains_cons,(tl' _ tW).hasType PySem.F.excBase_ValueError.hasBase,Bool.or_true]
 have c2:(Value.ref C::bm).contains (.ref D)=true:=by
  unfold W.mroIn W.clsIn at hs;rw[lk] at hs;simp only[excClassObj,Le] at hs
  split at hs
  ·cases hs
  ·exact Option.some.inj hs
 have f:=tc_notTuple;unfold excMatches
 repeat (first | (with_reducible refine wpAny_loadPart_at h1 ?_;rw[h2])|with_reducible refine wpAny_loadPart_at gD ?_ | (with_reducible refine wpAny_isSubtype_exc gD ?_;rw[c1]) | (with_reducible refine wpAny_isSubtype_exc gC ?_;rw[c2])|wp_step)
 exact hq
theorem ko{k:Str}{t t':Tok}{prog:Program}{w:World}{A:Around}{E:Value->Shared->Prop}{Q:Option Fin×Unit->Shared->Prop}(hit:items[j]?=some (.str k t'))(hno:∀m,m<j->∃y ty,items[m]?=some (.str y ty)/\y≠k):∀(m i c:Nat) (s:Shared),i+m=j->m<c->Q (some (.done (.ret (.int (j:Nat) s.toks))),()) {s with toks:=s.toks+1} ->
  wpAny (model prog w) A (forIn (List.range' i c) ((none,()):Option Fin×Unit) λi __s=>match items[i]? with
      |some y=>do
       let __do_lift <- eqBool y (Value.str k t)
       if __do_lift=true then do
         let __do_lift <- retInt (i:Nat)
         pure (ForInStep.done (some __do_lift,()))
        else pure (ForInStep.yield (none,()))
      |x=>pure (ForInStep.yield (none,()))) Q E s:=by
 intro m
 induction m with
 |zero =>
  intro i c s e hc h
  cases c with
  |zero=>exact absurd hc (MP _)
  |succ c =>
   obtain rfl:i=j:=e;rw[Ld,LJ];simp only[hit];refine Js (Js (N8 ?_));rw[JX rfl]
   wp_walk
   exact h
 |succ m ih =>
  intro i c s e hc h
  cases c with
  |zero=>exact absurd hc (MP _)
  |succ c =>
   obtain⟨y,ty,hy,ne⟩:=hno i (by lia)
   rw[Ld,LJ];simp only[hy];refine Js (Js (N8 ?_));rw[JV ne];exact Jz (ih (i+1) c s (by lia) (by lia) h)
theorem vX{n:Nat}{dd:Option Addr}{sl:Array (Option Value)}{k:Str}{t t':Tok}(hit:items[j]?=some (.str k t'))(hno:∀m,m<j->∃y ty,items[m]?=some (.str y ty)/\y≠k):
  Meets (Builtin.«tuple.index» ⟨[.ref p,.str k t],[]⟩) (λA R s=>s.heap.get? p=some {cls:=.type "tuple",dict:=dd,data:=.seq items n,slots:=sl}/\R (.ok (.ret (.int (j:Nat) s.toks))) {s with toks:=s.toks+1}):=by
 intro prog w A R s h;obtain⟨hp,g,d,tk,os⟩:=s;obtain⟨ho,h⟩:=h;unfold Builtin.«tuple.index»;simp only[Std.Legacy.Range.forIn_eq_forIn_range'];wp_walk using ML ho;have hj:j<items.size:=by
  rcases K8 j items.size with z|z
  ·exact z
  ·rw[Nr.mpr z] at hit;cases hit
 refine ko hit hno j 0 _ _ (LY _) ?_ ?_
 ·simp[Std.Legacy.Range.size];exact hj
 ·exact Jz h
noncomputable def Ip(K:W.Frag):V->List V->Hp->VK->Prop:=λx vs H Q=>∃(a:Addr) (ws:List Str) (k:Str) (j:Nat),x=.ref a/\bb K H a (ws.map V.str)/\vs=[.str k]/\ws[j]?=some k/\(∀m,m<j->ws[m]?≠some k)/\Q (.int (j:Nat)) H
theorem i6:∀{ws:List Str} {its:List Value},Vals (ws.map V.str) its->∀(m:Nat) (y:Str),ws[m]?=some y->∃t,its[m]?=some (.str y t):=λr m y e=>by
 obtain⟨u,h1,h2⟩:=r.get (i:=m) (x:=V.str y) (by rw[JA,e];rfl)
 obtain⟨t,rfl⟩:=(show RelV (.str y) u from h2);exact⟨t,h1⟩
theorem El:vk X "tuple.index" (Ip X.K):=by
 intro pins s σ H x xs v us Q I rx rs h;obtain⟨a,ws,k,j,rfl,hq,rfl,hj,hno,q⟩:=h;obtain rfl:v=Value.ref a:=rx;obtain⟨u,rfl,t,rfl⟩:=vals1 rs;obtain⟨its,r,pl,hz⟩:=I.tuple hq;obtain⟨⟨oc,od,oda,osl⟩,ho,hc,n,hd⟩:=id pl;obtain rfl:oc=.type "tuple":=hc;obtain rfl:oda=.seq its.toArray n:=hd;obtain⟨t',hit⟩:=i6 r j k hj;refine LI PySem.F.slot_tuple_index ⟨_,ho,rfl⟩ PySem.F.entry_tuple_index (PySem.F.args_tuple_index_2 _ _) (vX (j:=j) (t':=t') (by rw[Kz];exact hit) λm hm=>?_) ⟨ho,⟨.int (j:Nat),H,I.tok _,⟨_,rfl⟩,q⟩⟩
 have hl:m<ws.length:=L4 hm (Jv.mp hj).1;have e:=Jr hl;obtain⟨ty,hy⟩:=i6 r m _ e;exact⟨_,ty,by rw[Kz];exact hy,λz=>hno m hm (by rw[e,z])⟩
open Builtin Builtin.Str
open PySem PySem.Spec PyProof PyProof.Rows
noncomputable def wA(K:W.Frag)(a:Addr):It:=
 ⟨λi H=>∃x,getL K a i H x,λi H x H'=>∃p y,(∀xs,bB K H a xs->xs[i]?=some y)/\H p=none/\x=.ref p/\H'=upd H p (.tup [.int i,y]),Ic K a⟩
theorem rJ{P:Program}{w:World}{K:W.Frag}{es:List Expr}{tk:Nat}{tp:Pos}(a it e:Addr)(hne:e≠it):Turn P w K (.Tuple es tk tp) (wA K a) [e,it] e (λi h=>(∃old,IsEnum h e it i old)/\h.IsListIter it a i) where
 mem:=by simp
 obj:=λi h st b hb=>by
  obtain⟨⟨old,he⟩,o,eo,c,d⟩:=st;rcases J5.mp hb with z|z
  ·subst z;exact⟨_,he,λv z=>by cases z⟩
  ·have z:b=it:=by simpa using z
   subst z;exact⟨o,eo,λv z=>by rw[d] at z;cases z⟩
 keep:=λi h h' st k=>by
  obtain⟨⟨old,he⟩,o,eo,r⟩:=st;exact⟨⟨old,k e (by simp) _ he⟩,o,k it (by simp) o eo,r⟩
 item:=by
  intro X hP hw hK hc i pins s σ H E I hf st hg;subst hP hw hK;obtain⟨x,xs,hq,hx⟩:=hg;obtain⟨⟨old,he⟩,hit⟩:=st;obtain⟨its,rv,p,hz⟩:=I.list hq;obtain⟨u,hu,ru⟩:=rv.get hx;obtain⟨g0,g1,g2,g3,g4,g5⟩:=hf e (by simp)
  obtain⟨f0,f1,f2,f3,f4,f5⟩:=hf it (by simp)
  have ht:s.heap.IsList a its.toArray:=p.isList;have ha:a≠it:=by
   rintro rfl;obtain⟨o,e1,c1,_⟩:=hit;obtain⟨o',e2,c2,_⟩:=ht;rw[e1] at e2;cases e2;rw[c1] at c2;exact absurd (Value.type.inj c2) (by decide)
  have hea:e≠a:=by
   rintro rfl;obtain⟨o',e2,c2,_⟩:=ht;have e1:s.heap.get? e=some _:=he;rw[e1] at e2;cases e2;exact absurd (Value.type.inj c2) (by decide)
  have hi:i<its.toArray.size:=by
   have:=(Jv.mp hu).1
   simpa using this
  refine NL (Draws.list (A:=X.A.in1) (I.ok.hd hc) it a ha its.toArray) he ⟨hit,ht⟩ hi hne (by simp[hne,hea]) λx' h' tk' hP ho hs' hT hsz hk=>?_
  have ex:x'=u:=by
   have hP':its.toArray[i]?=some x':=hP;rw[Kz,hu] at hP';exact (Option.some.inj hP').symm
  subst ex;refine⟨.ref s.heap.objs.size,rfl,Nn ho λh2 he2 hs2=>?_⟩;have fr:H s.heap.objs.size=none:=I.aN.fresh (J7 _);have hle:e≠s.heap.objs.size:=JS (JI he);have hT2:h2.get? s.heap.objs.size=some {cls:=.type "tuple",data:=.seq #[.int i tk',x']}:=(hs2.2 _ (Ko hle)).trans hT;have I2:Inv X pins σ (upd H s.heap.objs.size (.tup [.int i,x])) {s with heap:=h2,toks:=tk'+1}:=by
   refine I.nK (fp:=[e,it]) hf (J7 _) (λb o hb eb=>?_) ⟨by show 2<=sizeLine;decide,[.int i tk',x'],.cons ⟨_,rfl⟩ (.cons ru .nil),⟨_,hT2,rfl,_,rfl,rfl⟩⟩
   have n1:b≠e:=λz=>hb (by simp[z])
   have n2:b≠it:=λz=>hb (by simp[z])
   exact (hs2.2 b n1).trans (hk b o n1 n2 eb)
  refine⟨.ref s.heap.objs.size,_,I2,rfl,⟨s.heap.objs.size,x,λys hy=>by rw[I.kO hy hq];exact hx,fr,rfl,rfl⟩,⟨⟨x',?_⟩,?_⟩,λb hb=>?_⟩
  ·have e:(((i+1:Nat)):Int)=(i:Int)+1:=by lia
   rw[e];exact he2
  ·obtain⟨o,e1,r⟩:=hs'.1;exact⟨o,(hs2.2 it (Ko hne)).trans e1,r⟩
  ·have n:b≠s.heap.objs.size:=by
    rcases J5.mp hb with z|z
    ·subst z;exact hle
    ·have z:b=it:=by simpa using z
     subst z;obtain⟨o,e1,_⟩:=hit;exact JS (JI e1)
   rw[ar n];exact (hf b hb).1
 done:=by
  intro X hP hw hK hc i pins s σ H E I hf st hg;subst hP hw hK;obtain⟨xs,hq,hx⟩:=hg;obtain⟨⟨old,he⟩,hit⟩:=st;obtain⟨its,rv,p,hz⟩:=I.list hq;have ht:s.heap.IsList a its.toArray:=p.isList;have ha:a≠it:=by
   rintro rfl;obtain⟨o,e1,c1,_⟩:=hit;obtain⟨o',e2,c2,_⟩:=ht;rw[e1] at e2;cases e2;rw[c1] at c2;exact absurd (Value.type.inj c2) (by decide)
  have hl:=rv.length;have hsz:its.toArray.size=i:=by simp;lia
  refine NW (Draws.list (A:=X.A.in1) (I.ok.hd hc) it a ha its.toArray) he (by rw[hsz];exact⟨hit,ht⟩) λh' eb=>⟨rfl,?_⟩
  exact I.turns (t':=s.toks) hf λb o hb e1=>eb b o (λz=>hb (by simp[z])) e1
 self:=λA i s Q E st h=>by
  obtain⟨⟨old,he⟩,_⟩:=st;exact M0 he h
section
variable {X:Cx} {es:List Expr} {tk:Nat} {tp:Pos}
noncomputable def jN(K:W.Frag)(ta:TA):TI:=λσ H R=>ta σ H λvs H1=>∃a,vs=[.ref a]/\(∃xs,bB K H1 a xs)/\R (wA K a) H1
theorem zz{e:Expr}{ta:TA}{p pos:Pos}(hg:Gl X "enumerate")(hm:X.mg "enumerate"=none)(ha:PA X [e] ta)(h1:autoParam (eZ e=true) ℜ0)(hv:autoParam (bootBuiltins "enumerate"=some (.type "enumerate")) ℜ6):
  PI X (.Tuple es tk tp) (.Call (.Name "enumerate" p) [e] [] pos) (jN X.K ta):=by
 intro pins s σ H R I h;refine Call_ (fN I hg hm hv (KW (bR (ha pos pins s σ H _ I h) λus s1 hq1=>?_) (df h1) rfl));obtain⟨vs,H1,I1,r1,q1⟩:=hq1;obtain⟨a,e,⟨xs,hq⟩,q⟩:=q1;subst e;obtain⟨u,rfl,ru⟩:=vals1 r1;cases ru;obtain⟨its,rv,pt,hz⟩:=I1.list hq;refine call_enumerate_list pt.isList λh' he hit hsz hk=>?_;refine M0 he ?_;have I2:Inv X pins σ H1 {s1 with heap:=h'}:=I1.kept (t':=s1.toks) hk
 refine⟨s1.heap.objs.size+1,[s1.heap.objs.size+1,s1.heap.objs.size],_,_,H1,rfl,I2,rJ a s1.heap.objs.size (s1.heap.objs.size+1) (KZ (L_ _)),⟨⟨_,he⟩,hit⟩,λb hb=>?_,q⟩;have hb':s1.heap.objs.size<=b:=by
  rcases J5.mp hb with z|z
  ·rw[z];exact Lg _
  ·have z:b=s1.heap.objs.size:=by simpa using z
   rw[z];exact J7 _
 exact I1.pN hb' (I1.aN.fresh hb')
end
noncomputable def xc(K:W.Frag)(ws:List Str)(v:Value):Prop:=∃p,v=.ref p/\GH K p (ws.map V.str)
structure jL (K:W.Frag) (a:Addr) (D:List (Str×List Str)):Prop where
 low:(a == sysModules)=false
 ex:∃o es ep,K.lookup a=some o/\o.ExactDict/\o.data=.dict es ep/\KTD.Rows (xc K) es.toList D
section
variable {prog:Program} {w:World} {A:Around} {E:Value->Shared->Prop} {s:Shared} {K:W.Frag} {a:Addr} {D:List (Str×List Str)} {k:Str} {tk:Tok}
theorem jL.typeIs(T:jL K a D)(X:K.In s.heap):s.TypeIs (.ref a) "dict":=let ⟨o,_,_,ho,hc,_⟩:=T.ex;⟨o,X _ _ ho,hc.1⟩
theorem zm{Q:Option Value->Shared->Prop}(T:jL K a D)(X:K.In s.heap)(h1:∀d v,KTD.datumAt k D=some d->xc K d v->Q (some v) {s with toks:=s.toks+1})(h2:KTD.datumAt k D=none->Q none {s with toks:=s.toks+1}):
  wpAny (model prog w) A (dictGet a (.str k tk)) Q E s:=by
 obtain⟨o,es,ep,ho,hc,hd,hr⟩:=T.ex;have ho:=X _ _ ho;unfold dictGet
 try with_reducible refine Ky ?_
 refine Js (wpAny_pyHash_str (Js (KTD.kt_dictFind_strs (s:={s with toks:=s.toks+1}) ho hd (by obtain⟨l⟩:=es;simpa using hr.exact) ?_)))
 have hq:Q (findBy (λk v=>v.isStr k) es k) {s with toks:=s.toks+1}:=by
  have hf:findBy (λk v=>v.isStr k) es k=(es.toList.find? λe=>e.key.isStr k).map (·.val):=by
   obtain⟨l⟩:=es;simp[findBy]
  rw[hf]
  cases hat:KTD.datumAt k D with
  |some d=>obtain⟨v,hv,hfl⟩:=hr.find_some hat;rw[hv];exact h1 d v hat hfl
  |none=>rw[hr.find_none hat];exact h2 hat
 rw[findBy_of_findIdx?] at hq
 cases hi:es.findIdx? λe=>e.key.isStr k with
 |none=>rw[hi] at hq;exact Jz hq
 |some i=>rw[hi] at hq;exact Js (M3 (s:={s with toks:=s.toks+1}) ho hd (Jz hq))
end
namespace Y
noncomputable def GF(neg:Bool):R2:=λx y H Q=>∃a o,y=.ref a/\ma H a x o/\Q (.bl (if neg then !o.isSome else o.isSome)) H
theorem zf{X:Cx}(hu:X.A.units+1<cLine):cB X (compareOp .NotIn) (GF true):=by
 intro pins s σ H x y v u Q I rx ry h;obtain⟨a,o,rfl,g,q⟩:=h;obtain rfl:u=Value.ref a:=ry;exact Cj hu I g rx λs' I'=>⟨.bl (!o.isSome),H,I',rfl,q⟩
theorem nc:∀(more kvs:List (Key×V)),((kvs++more).map (·.1)).Nodup->fP kvs more=kvs++more
 |[],kvs,_=>by rw[Kq];rfl
 |p::r,kvs,h=>by
  have hn:fB kvs p.1=none:=by
   cases hv:fB kvs p.1 with
   |none=>rfl
   |some v =>
    have hm:=AL hv;rw[JN,JY] at h;have:=List.nodup_append.mp h;exact absurd rfl (this.2.2 _ hm _ J9)
  show fP (putK kvs p.1 p.2) r=_;rw[yx p.2 hn,nc r _ (by rw[JT];exact h),JT]
  rfl
end Y
noncomputable def iH{α:Type}(xs:List α)(i:Nat)(y:α):List α:=xs.take i++y::xs.drop i
noncomputable def Cg:V->List V->Hp->VK->Prop:=λx vs H Q=>∃l xs i y,x=.ref l/\vs=[.int i,y]/\H l=some (.lst xs)/\0<=i/\i<2^63/\xs.length<sizeLine/\Q .aG (upd H l (.lst (iH xs (min i.toNat xs.length) y)))
theorem mE{X:Cx}:HM X "list.insert" Cg:=by
 intro pins s σ H x vs v us Q I rx rv h;obtain⟨l,xs,i,y,rfl,rfl,hH,h0,h1,hz,q⟩:=h;cases rx;obtain⟨u,w',rfl,⟨t,rfl⟩,rw'⟩:=vals2 rv;obtain⟨z,its,n,r,hl,e⟩:=I.rj hH;have hfit:¬ (!Builtin.List.listFitsIndex i)=true:=by
  have:=Og (k:=i) (by lia) h1
  rw[this];exact JE
 refine LI F.slot_list_insert ⟨_,e,rfl⟩ F.entry_list_insert (F.args_list_insert_3 _ _ _) (AutoSeq1.list_insert_list_int_val_1 l its.toArray n i t w' hfit (by rw[Jy];lia)) ⟨e,?_⟩
 have el:its.length=xs.length:=hl.symm;refine⟨.aG,_,I.EA (its':=iH its (min i.toNat its.length) w') hH e ?_ ?_ ?_,rfl,q⟩
 ·show (have k:=if i<0 then _ else min i.toNat its.toArray.size;(its.toArray.extract 0 k).push w'++its.toArray.extract k)=_
  rw[Jx (by lia)]
  apply Array.toList_inj.mp;unfold iH;simp[N5,Kn]
 ·rw[el];unfold iH;exact (r.take _).append (.cons rw' (r.drop _))
 ·unfold iH;rw[Ju,JD,JK,JW];lia
open Builtin Builtin.Str
open PySem PySem.Spec PyProof PyProof.Rows
open Builtin Builtin.Str
section
variable {prog:Program} {w:World} {A:Around} {E:Value->Shared->Prop} {h:Heap} {g:Array GenState} {d:Drawn} {t:Nat} {os:OsState} {a:Addr} {items:Array Value} {cn:Nat}
theorem A0:typeLookup (.type "list") "keys"=pure none:=am_miss_of_fast (by kernel_rfl)
theorem rZ:typeLookup (.type "list") "__getattr__"=pure none:=by rw[typeLookup_type,builtinLookup_eq_fast];kernel_rfl
theorem zq{name:Str}{tk:Tok}{Q:Fin->Shared->Prop}(hx:h.get? a=some {cls:=.type "list",dict:=none,data:=.seq items cn,slots:=#[]})(hmiss:typeLookup (.type "list") name=pure none)(hnc:(["__module__","__name__","__qualname__","__doc__","__annotations__"]:List Str).contains name=false)(hh:A.handled=none)
  (hq:∀h' tk' e,Heap.NewAttrErr h h' e (.ref a) name->E (.ref e) ⟨h',g,d,tk',os⟩) (hsz:name.length+100<=sizeLine:=by size_fits) :
  wpAny (model prog w) A (Builtin.«object.__getattribute__» ⟨[.ref a,.str name tk],[]⟩) Q E ⟨h,g,d,t,os⟩:=by
 have hT:(⟨h,g,d,t,os⟩:Shared).TypeIs (.ref a) "list":=⟨_,hx,rfl⟩;unfold Builtin.«object.__getattribute__»
 repeat (any_goals (first|assumption|wp_step))
 rw[Jx (by rw[hnc];decide)]
 repeat (any_goals (first|assumption|wp_step))
 exact wpAny_raiseAttrError hh hq (attrMsg_fits (by decide +kernel) hsz)
theorem AJ{name:Str}{tk:Tok}{R:Result->Shared->Prop}(hx:h.get? a=some {cls:=.type "list",dict:=none,data:=.seq items cn,slots:=#[]})(hmiss:typeLookup (.type "list") name=pure none)(hnc:(["__module__","__name__","__qualname__","__doc__","__annotations__"]:List Str).contains name=false)(hh:A.handled=none)
  (hq:∀h' tk' e,Heap.NewAttrErr h h' e (.ref a) name->R (.error (.ref e)) ⟨h',g,d,tk',os⟩) (hsz:name.length+100<=sizeLine:=by size_fits) :
  codeAny (model prog w) A (.call (.builtin "list.__getattribute__") ⟨[.ref a,.str name tk],[]⟩) R ⟨h,g,d,t,os⟩:=
 codeAny_call_builtin L5.plain F.entry_list_ga (L5.check _ _ _ _ _ _ _ _ (show (⟨h,g,d,t,os⟩:Shared).TypeIs (.ref a) "list" from⟨_,hx,rfl⟩) (F.args_list_getattribute_2 _ _) (zq hx hmiss hnc hh hq hsz))
theorem GW{name:Str}{tk:Tok}{Q:Value->Shared->Prop}(hx:h.get? a=some {cls:=.type "list",dict:=none,data:=.seq items cn,slots:=#[]})(hmiss:typeLookup (.type "list") name=pure none)(hnc:(["__module__","__name__","__qualname__","__doc__","__annotations__"]:List Str).contains name=false)(hh:A.handled=none)
  (hq:∀h' tk' e,Heap.NewAttrErr h h' e (.ref a) name->E (.ref e) ⟨h',g,d,tk',os⟩) (hsz:name.length+100<=sizeLine:=by size_fits) :
  wpAny (model prog w) A (getAttrBy (.ref a) (.str name tk) false) Q E ⟨h,g,d,t,os⟩:=by
 have hT:(⟨h,g,d,t,os⟩:Shared).TypeIs (.ref a) "list":=⟨_,hx,rfl⟩;have f1:=sub_AttributeError;have f2:=L5.lookup;have f3:=L5.bind (.ref a);have f5:=rZ
 repeat (any_goals (first|assumption|wp_step))
 refine AJ hx hmiss hnc hh (λh' tk' e x=>?_) hsz;obtain⟨t',u',he⟩:=x.there;show wpAny _ _ (getattributeRaised _ _ _ _ _ _ _) _ _ _;unfold getattributeRaised
 repeat (any_goals (first|assumption|wp_step))
 exact hq _ _ _ x
theorem AZ{name:Str}{Q:Option Value->Shared->Prop}(hx:h.get? a=some {cls:=.type "list",dict:=none,data:=.seq items cn,slots:=#[]})(hmiss:typeLookup (.type "list") name=pure none)(hnc:(["__module__","__name__","__qualname__","__doc__","__annotations__"]:List Str).contains name=false)(hh:A.handled=none)
  (hq:∀h' tk',(∀b o,h.get? b=some o->h'.get? b=some o)->Q none ⟨h',g,d,tk',os⟩) (hsz:name.length+100<=sizeLine:=by size_fits) :
  wpAny (model prog w) A (getAttr? (.ref a) name) Q E ⟨h,g,d,t,os⟩:=by
 have f1:=sub_AttributeError;unfold getAttr? getAttrBy?;refine Js (wpAny_mkText (Js (Mi (GW hx hmiss hnc hh (λh' tk' e x=>?_) hsz))));obtain⟨t',u',he⟩:=x.there;have k:=x.keeps
 repeat (any_goals (first|assumption|wp_step))
 exact hq _ _ x.keeps
end
section
variable {prog:Program} {w:World} {K:Type} [DecidableEq K] {knd:KeyKind prog w K} {A:Around} {R:Result->Shared->Prop}
theorem h_:plainId "dict.update.loop"=true:=by decide +kernel
theorem gE:entryFor table "dict.update.loop"=some Builtin.«dict.update.loop»:=entryFor_of_fast (by kernel_rfl)
theorem rG(kvs:List (K×Value))(k:K)(v:Value):(stored kvs k v).length<=kvs.length+1:=by
 unfold stored;split
 ·rw[Jt];lia
 ·rw[Ju];simp
theorem kR:∀(more kvs:List (K×Value)),(merged kvs more).length<=kvs.length+more.length
 |[],kvs=>by unfold merged;simp
 |p::more,kvs=>by
  have h1:=kR more (stored kvs p.1 p.2);have h2:=rG kvs p.1 p.2;have e:merged kvs (p::more)=merged (stored kvs p.1 p.2) more:=rfl;rw[e,JD];lia
theorem BB{it l dd:Addr}{items:Array Value}{more:List (K×Value)}(hh:A.handled=none)(hn:more.length=items.size)(h1:dd≠it)(h2:dd≠l)(h3:it≠l)(ps:Nat->Addr)(hps:∀i,i<items.size->items[i]?=some (.ref (ps i))/\ps i≠it/\ps i≠dd)(hsz:more.length<=20000):
  ∀(k i:Nat) (s:Shared),items.size-i=k->i<=items.size->s.heap.IsListIter it l i->s.heap.IsList l items->s.heap.DictOf knd dd (merged [] (more.take i)) ->
  (∀j,j<items.size->∃key v,s.heap.IsTuple (ps j) #[key,v]/\∃kk,more[j]?=some (kk,v)/\knd.is kk key=true) ->
  (∀h' tk,h'.DictOf knd dd (merged [] more)->(∀b o,b≠it->b≠dd->s.heap.get? b=some o->h'.get? b=some o)->R (.ok (.ret .none)) {s with heap:=h',toks:=tk}) ->
  codeAny (model prog w) A (.builtin "dict.update.loop" ⟨[.ref dd,.ref it,rawInt i,.none],[]⟩) R s:=by
 intro k
 induction k with
 |zero =>
  intro i s hk hi hit hl hd hp hR;have hin:i=items.size:=by lia
  subst hin;refine LM gE ?_;rw[Mb h_ _];show wpAny _ A.in1 (pyNext (.ref it) >>= _) _ _ s;refine Js (wpAny_pyNext_list_end hh hit hl (by simp) λh' he=>?_)
  refine Js (Jz (Jz ?_));refine hR h' s.toks ?_ λb o b1 b2 e=>he b o b1 e;rw[Kn (by lia)] at hd
  exact hd.extBut he h1
 |succ k ih =>
  intro i s hk hi hit hl hd hp hR;have hlt:i<items.size:=by lia
  refine LM gE ?_;rw[Mb h_ _];show wpAny _ A.in1 (pyNext (.ref it) >>= _) _ _ s;obtain⟨e1,e2,e3⟩:=hps i hlt;refine Js (NS hit hl e1 λh' hit' hs'=>?_);obtain⟨key,v,ht,kk,em,hkk⟩:=hp i hlt;have ht':h'.IsTuple (ps i) #[key,v]:=by obtain⟨o,ho,r⟩:=ht;exact⟨o,(hs'.2 _ e2).trans ho,r⟩
  have hd':h'.DictOf knd dd (merged [] (more.take i)):=by obtain⟨o,es,ep,ho,r⟩:=hd;exact⟨o,es,ep,(hs'.2 _ h1).trans ho,r⟩
  refine Js (Ky (Js (wpAny_tryCatch ?_)));unfold Dict.pairItems;refine Js (MM ht'.typeIs ?_);rw[J6 (by decide)]
  obtain⟨o,ho,hoc,nn,hod⟩:=id ht';refine Js (LW ho hod (Jz ?_));show wpAny _ A.in1 (holding [key,v] (dictSet dd key v)) _ _ _;refine Ky (wpAny_dictSet_pairs hkk hd' (λh2' hd2 hs2=>?_) ?_)
  rotate_left
  ·exact JC (kR _ _) (JC (by rw[Ks,LY,JK];exact JC (Nat.min_le_right _ _) hsz) (by decide))
  have et:merged [] (more.take (i+1))=stored (merged [] (more.take i)) kk v:=by
   have hlt':i<more.length:=by lia
   have:more[i]=(kk,v):=by rw[Jr hlt'] at em;exact Option.some.inj em
   rw[List.take_succ_eq_append_getElem hlt',this];unfold merged;rw[List.foldl_append];rfl
  refine Jz ⟨Oy h_ _,?_⟩;have:=ih (i+1) {s with heap:=h2',toks:=s.toks+1} (by lia) hlt (by obtain⟨o,ho,r⟩:=hit';exact⟨o,(hs2.2 _ (Ko h1)).trans ho,r⟩) (by obtain⟨o,ho,r⟩:=hl;exact⟨o,(hs2.2 _ (Ko h2)).trans ((hs'.2 _ (Ko h3)).trans ho),r⟩) (by rw[et];exact hd2) (λj hj=>by
   obtain⟨key,v,⟨o,ho,r⟩,rr⟩:=hp j hj;obtain⟨f1,f2,f3⟩:=hps j hj;exact⟨key,v,⟨o,(hs2.2 _ f3).trans ((hs'.2 _ f2).trans ho),r⟩,rr⟩) (λh3' tk hd3 hk3=>hR h3' tk hd3 λb o b1 b2 e=>hk3 b o b1 b2 ((hs2.2 _ b2).trans ((hs'.2 _ b1).trans e)))
  exact this
theorem rK{E:Value->Shared->Prop}{s:Shared}{l:Addr}{items:Array Value}{cn:Nat}{more:List (K×Value)}{Q:Value->Shared->Prop}(hl:s.heap.get? l=some {cls:=.type "list",dict:=none,data:=.seq items cn,slots:=#[]})(hh:A.handled=none)(hn:more.length=items.size)(hsz:more.length<=20000)
  (ps:Nat->Addr) (hps:∀i,i<items.size->items[i]?=some (.ref (ps i))) (hp:∀j,j<items.size->∃key v,s.heap.IsTuple (ps j) #[key,v]/\∃kk,more[j]?=some (kk,v)/\knd.is kk key=true)
  (h:∀h' tk,h'.DictOf knd s.heap.objs.size (merged [] more)->(∀b o,s.heap.get? b=some o->h'.get? b=some o)->Q (.ref s.heap.objs.size) {s with heap:=h',toks:=tk}) :
  wpAny (model prog w) A (call (.type "dict") [.ref l]) Q E s:=by
 refine callType_codes (Q₁:=λobj s₁=>obj=.ref s.heap.objs.size/\s₁={s with heap:=s.heap.push {cls:=.type "dict",data:=.dict #[]}}) F.kt_called_dict (F.kt_typeCall_dict_1 _) F.entry_dict_init (kt_code_dict_new _ ⟨rfl,rfl⟩) ?_
 rintro obj s₁ ⟨rfl,rfl⟩;have hnew:(s.heap.push {cls:=.type "dict",data:=.dict #[]}).DictOf knd s.heap.objs.size []:=Heap.DictOf.new s.heap;refine⟨hnew.typeIs,F.args_dict_init_2 _ _,?_⟩;unfold Builtin.«dict.__init__»;refine Js ?_;unfold Builtin.Dict.selfAndRest;refine Js (wpAny_notOrdered_dict hnew.typeIs ?_);show wpAny _ _ (pure (s.heap.objs.size,[Value.ref l])) _ _ _;refine Jz ?_;show wpAny _ _ (Builtin.Dict.updateFrom "dict.__init__" s.heap.objs.size (.ref l) [] .none) _ _ _;unfold Builtin.Dict.updateFrom;have hl1:(s.heap.push {cls:=.type "dict",data:=.dict #[]}).get? l=some {cls:=.type "list",dict:=none,data:=.seq items cn,slots:=#[]}:=Jw _ hl;have hT:({s with heap:=s.heap.push {cls:=.type "dict",data:=.dict #[]}}:Shared).TypeIs (.ref l) "list":=⟨_,hl1,rfl⟩
 refine Js (MM hT ?_);rw[J6 (by decide)]
 refine Js ?_;refine AZ hl1 A0 (by decide +kernel) hh (λh1 tk1 k1=>?_)
 rw[J6 (show (none:Option Value).isNone=true from rfl)];have hl2:h1.IsList l items:=⟨_,k1 _ _ hl1,rfl,cn,rfl⟩;have up:∀b o,s.heap.get? b=some o->h1.get? b=some o:=λb o e=>k1 b o (Jw _ e);obtain⟨od,es,ep,hod,hor⟩:=hnew;have hdl:s.heap.objs.size<h1.objs.size:=JI (k1 _ _ hod);have hll:l<s.heap.objs.size:=JI hl;have hpl:∀j,j<items.size->ps j<s.heap.objs.size:=λj hj=>by obtain⟨key,v,⟨o,ho,_⟩,_⟩:=hp j hj;exact JI ho
 refine Js (N3 (Js (M1 hl2 (Jz ⟨Oy h_ _,?_⟩))));refine BB (knd:=knd) (it:=h1.objs.size) (l:=l) (items:=items) (more:=more) (A:=A.in1) hh hn (JS hdl) (KZ hll) (KZ (L4 hll hdl)) ps (λi hi=>⟨hps i hi,JS (L4 (hpl i hi) hdl),JS (hpl i hi)⟩) hsz _ 0 _ rfl (JL _) ⟨_,JH _ rfl,rfl,rfl⟩ ?_ ⟨od,es,ep,Jw _ (k1 _ _ hod),hor⟩ (λj hj=>?_) (λh' tk hd hk=>⟨rfl,h h' tk hd λb o e=>hk b o ?_ ?_ (Jw _ (up b o e))⟩)
 ·obtain⟨o,ho,r⟩:=hl2;exact⟨o,Jw _ ho,r⟩
 ·obtain⟨key,v,⟨o,ho,r⟩,rr⟩:=hp j hj;exact⟨key,v,⟨o,Jw _ (up _ _ ho),r⟩,rr⟩
 ·exact JS (L4 (JI e) hdl)
 ·exact JS (JI e)
end
theorem mD{α β:Type}{F:α->β->Prop}:∀{l₁:List α} {l₂:List β},l₁.length=l₂.length->(∀(j:Nat) a b,l₁[j]?=some a->l₂[j]?=some b->F a b)->Paired F l₁ l₂
 |[],[],_,_=>.nil
 |[],_::_,h,_=>by cases h
 |_::_,[],h,_=>by cases h
 |a::l₁,b::l₂,h,f=>.cons (f 0 a b rfl rfl) (mD (Nat.succ.inj h) λj x y hx hy=>f (j+1) x y (by simpa using hx) (by simpa using hy))
noncomputable def BH(K:W.Frag)(H:Hp)(vs:List V)(kvs:List (Key×V)):Prop:=vs.length=kvs.length/\∀(j:Nat) (k:Key) (x:V),kvs[j]?=some (k,x)->∃p,vs[j]?=some (.ref p)/\H p=some (.tup [kV k,x])
noncomputable def Dz(K:W.Frag):List V->Hp->VK->Prop:=λxs H Q=>∃l vs kvs,xs=[.ref l]/\H l=some (.lst vs)/\BH K H vs kvs/\kvs.length<=20000/\∀p,H p=none->Q (.ref p) (upd H p (.dK (fP [] kvs)))
theorem pe{X:Cx}(K:W.Frag)(hc:X.calm=true):a_ X (.type "dict") (Dz K):=by
 intro pins s σ H xs us Q I r h;obtain⟨l,vs,kvs,rfl,hl,hp,hk,q⟩:=h;obtain⟨u,rfl,e0⟩:=vals1 r;have e1:u=.ref l:=e0;subst e1;obtain⟨hlen,its,n,hv,hget⟩:=(show bA X.prog X.w H s.heap l (.lst vs) from I.aN l _ hl);have hsz:its.toArray.size=kvs.length:=by rw[<- hp.1,Jy,<- Paired.length hv]
 have key:∀j,j<kvs.length->∃p k x,kvs[j]?=some (k,x)/\its[j]?=some (.ref p)/\∃ku xu,s.heap.IsTuple p #[ku,xu]/\i7 k ku=true/\RelV x xu:=λj hj=>by
  obtain⟨p,e1,e2⟩:=hp.2 j kvs[j].1 kvs[j].2 (Jr hj);obtain⟨u,e3,e4⟩:=Vals.get hv e1;have e5:u=.ref p:=e4;subst e5;obtain⟨_,ts,tv,hT⟩:=(show bA X.prog X.w H s.heap p (.tup [kV kvs[j].1,kvs[j].2]) from I.aN p _ e2);obtain⟨ku,xu,rfl,r1,r2⟩:=vals2 tv;exact⟨p,_,_,Jr hj,e3,ku,xu,hT.to,um (P:=X.prog) (w:=X.w) r1,r2⟩
 obtain⟨f,hf⟩:=Classical.axiomOfChoice (r:=λ(j:Nat) (y:Addr×Value×Value)=>∀hj:j<kvs.length,s.heap.IsTuple y.1 #[y.2.1,y.2.2]/\i7 kvs[j].1 y.2.1=true/\RelV kvs[j].2 y.2.2/\its[j]?=some (.ref y.1)) (λj=>by
  by_cases hj:j<kvs.length
  ·obtain⟨p,k,x,e1,e2,ku,xu,hT,h1,h2⟩:=key j hj;rw[Jr hj] at e1;have e1':kvs[j]=(k,x):=Option.some.inj e1;exact⟨(p,ku,xu),λ_=>⟨hT,by rw[e1'];exact h1,by rw[e1'];exact h2,e2⟩⟩
  ·exact⟨(0,.none,.none),λh=>absurd h hj⟩)
 let mv:List (Key×Value):=(List.range kvs.length).map λj=>((kvs[j]?.getD (.inl 0,.aG)).1,(f j).2.2)
 have hmv:mv.length=kvs.length:=by simp[mv]
 have hmj:∀j (hj:j<kvs.length),mv[j]?=some (kvs[j].1,(f j).2.2):=λj hj=>by
  simp only[mv,JA,List.getElem?_range hj,Option.map_some,Jr hj,Option.getD_some]
 have at':∀j (hj:j<kvs.length),∃ku xu,s.heap.IsTuple (f j).1 #[ku,xu]/\i7 kvs[j].1 ku=true/\RelV kvs[j].2 xu/\its[j]?=some (.ref (f j).1)/\mv[j]?=some (kvs[j].1,xu):=λj hj=>by
  obtain⟨h1,h2,h3,h4⟩:=hf j hj;exact⟨_,_,h1,h2,h3,h4,hmj j hj⟩
 have hKV:KV kvs mv:=by
  refine mD (by rw[hmv]) λj a b ha hb=>?_
  have hj:j<kvs.length:=by
   rcases K8 j kvs.length with c|c
   ·exact c
   ·rw[List.getElem?_eq_none_iff.mpr c] at ha;cases ha
  obtain⟨ku,xu,_,_,h2,_,h3⟩:=at' j hj;rw[Jr hj] at ha;cases ha;rw[h3] at hb;cases hb;exact⟨rfl,h2⟩
 refine rK (knd:=bU X.prog X.w) hget (I.ok.hd hc) (by rw[hmv,hsz]) (by rw[hmv];exact hk) (λj=>(f j).1) (λi hi=>?_) (λj hj=>?_) (λh' tk hd hkp=>?_)
 ·rw[hsz] at hi;obtain⟨_,_,_,_,_,e,_⟩:=at' i hi;rw[Kz];exact e
 ·rw[hsz] at hj;obtain⟨ku,xu,hT,h1,_,_,h3⟩:=at' j hj;exact⟨ku,xu,hT,_,h3,h1⟩
 ·have hz:(fP [] kvs).length<=sizeLine:=by
   have h1:=gB kvs [];rw[Ks] at h1;exact JC (show _<=20000 by lia) (by decide)
  exact⟨.ref s.heap.objs.size,_,I.laid (t':=tk) hkp (J7 _) (Ee hz (Kf.mpr (Ko (JS I.big))) (hKV.merge .nil) hd),rfl,q _ (I.aN.fresh (J7 _))⟩
open PySem PySem.Spec PyProof PyProof.Rows
namespace Z
section
variable {X:Cx} {CX:oI} {k:Nat} {f C:Addr} {fd:FuncData} {ps:List Str} {sp:Sp} {E:XK} {x m nm:Str} {p pos pos' apos:Pos} {e o i value:Expr} {es:List Expr} {ta tv td ty:TE} {t:TA}
theorem fld(K:W.Frag)(hK:X.K=K)(he:QE X e ta)(hb:autoParam (attributeBase e nm X.env (eval e X.env)=eval e X.env) ℜ0):QE X (.Attribute e nm pos) (yk K ta nm):=by subst hK;exact⟨ES he.h hb⟩
theorem uO(K:W.Frag)(hK:X.K=K)(ha:QE X o ta)(hv:QE X value tv)(hs:autoParam (swapsWith value (some (.Attribute o nm pos')) pos.line X.env=pure false) ℜ0):QS X (.Assign [.Attribute o nm pos'] value pos) (yR K ta tv nm):=by subst hK;exact⟨DF ha.h hv.h hs⟩
theorem jh(K:W.Frag)(hK:X.K=K){pl:Sem Bool}(he:QE X o ta)(c:lI K C)(hm:Meth K C m f)(F:bT X.prog X.w K X.mg X.base CX k f fd ps sp)(hr:b9 k X.A)(hb:Binds K fd ps [])(hx:Passes CX X E)
  (ht:autoParam (eval (.Call (.Attribute o m apos) [] [] pos) X.env=(do
   let ov <- eval o X.env
   standAt apos.atName
   let (f,first) <- holding [ov] (getMethod ov m pl)
   callWith pos f first (backTo pos (starEach [] X.env)) (backToKw pos (keywordEach [] X.env)))) ℜ0) :
  QE X (.Call (.Attribute o m apos) [] [] pos) (qa C m sp [] E ta nL):=by subst hK;exact⟨zB (pl:=pl) he.h c hm F hr hb .nil hx ht⟩
theorem make(K:W.Frag)(hK:X.K=K)(M:Mk K C f)(F:bT X.prog X.w K X.mg X.base CX k f fd ps sp)(hr:b9 (k+1) X.A)(hg:Gl X x)(hm:X.mg x=some (.ref C))(hb:Binds K fd ps [])(hx:Passes CX X E)
  (ha:QA X (e::es) t) (hdb:autoParam ((x ==("__debug__":Str))=false) ℜ1) (he:autoParam (starEach (e::es) X.env=(false,eval e X.env)::starEach es X.env) ℜ0) (hpl:autoParam ((backTo pos (starEach es X.env)).any (·.1)=false) ℜ0) :
  QE X (.Call (.Name x p) (e::es) [] pos) (p9 C sp [] E t):=by subst hK;exact⟨Ck M F hr hg hm hb .nil hx ha.h hdb he hpl⟩
theorem Io(hu:X.A.units+1<cLine)(ho:QE X o td)(hi:QE X i ty)(hs:wz i:=by exactλ_ _=>rfl):QE X (.Subscript o i pos) (pK td ty):=⟨AX hu ho.h hi.h hs⟩
end
end Z
namespace Ap
theorem yk(K:W.Frag)(ta:TE)(f:Str)(σ:St)(H:Hp)(Q:VK):L2.yk K ta f σ H Q=ta σ H λx H1=>∃a C dx fs v,x=.ref a/\H1 a=some (.ins C dx fs)/\lI K C/\bN K C f/\fs.lookup f=some v/\Q v H1:=rfl
theorem yR(K:W.Frag)(ta tv:TE)(f:Str)(D:Ends)(σ:St)(H:Hp):L2.yR K ta tv f D σ H=tv σ H λy H1=>ta σ H1 λx H2=>∃a C dx fs,x=.ref a/\H2 a=some (.ins C dx fs)/\lI K C/\bN K C f/\fs.length<1000/\D.nx σ (upd H2 a (.ins C dx (dI f y fs))):=rfl
theorem qa(C:Addr)(m:Str)(sp:Sp)(dvs:List V)(E:XK)(ta:TE)(t:TA)(σ:St)(H:Hp)(Q:VK):L2.qa C m sp dvs E ta t σ H Q=ta σ H λx H1=>∃a dx fs,x=.ref a/\H1 a=some (.ins C dx fs)/\fs.lookup m=none/\t σ H1 λvs H2=>sp (x::(vs++dvs)) H2 Q E:=rfl
theorem p9(C:Addr)(sp:Sp)(dvs:List V)(E:XK)(t:TA)(σ:St)(H:Hp)(Q:VK):L2.p9 C sp dvs E t σ H Q=t σ H λvs H1=>∀x dx,H1 x=none->H1 dx=none->dx≠x->sp (.ref x::(vs++dvs)) (upd (upd H1 dx (.own x)) x (.ins C dx [])) (λv H2=>v=.aG/\Q (.ref x) H2) E:=rfl
theorem pK(td ty:TE)(σ:St)(H:Hp)(Q:VK):L2.pK td ty σ H Q=td σ H λx H1=>ty σ H1 λy H2=>∃a v,x=.ref a/\ma H2 a y (some v)/\Q v H2:=rfl
end Ap
section
variable {prog:Program} {w:World} {A:Around} {E:Value->Shared->Prop} {s:Shared} {K:W.Frag} {a:Addr} {D:List (Str×List Str)} {k:Str} {tk:Tok}
theorem uz{ws:List Str}{Q:Value->Shared->Prop}(T:jL K a D)(X:K.In s.heap)(hk:KTD.datumAt k D=some ws)(h:∀v,xc K ws v->Q v {s with toks:=s.toks+1}):wpAny (model prog w) A (getItem (.ref a) (.str k tk)) Q E s:=by
 have hT:=T.typeIs X;unfold getItem
 try with_reducible refine Ky ?_
 refine Js (wpAny_sequenceKey hT (by decide) ?_)
 refine Js (Kp (name:=Str.ofString "__getitem__") hT PySem.F.slot_dict_getitem
  (K6 PySem.F.slot_dict_getitem hT PySem.F.entry_dict_getitem ?_ (args_dict_getitem _ _)))
 show wpAny _ _ (dictGet a (.str k tk) >>= _) _ _ s;refine Js (zm T X (λd v e r=>?_) λe=>?_)
 ·rw[hk] at e;cases e;exact Jz ⟨v,rfl,Jz (h v r)⟩
 ·rw[hk] at e;cases e
end
variable{Q:Value->Shared->Prop}{X:Cx}{body e:Expr}{c' d f kS:Addr}{D:List (Str×List Str)}{a b:List Nat}{q x:Str}{e1 ep i:Nat}{α:Type}{p:Array Nat}{N:List Str}{σf:List (Option V)}{scope:Scope}{cl:List (Str×Addr)}{params:Arguments}{ctv pm:Value}{H H1:Hp}{h h':Heap}{P:PySem.Fin->Shared->Prop}{us:List Value}{kz:List Int}{xs:List V}{K:W.Frag}{es:Array DictEntry}{prog:Program}
noncomputable def yC(K:W.Frag)(D:List (Str×List Str))(te:TE):TE:=λσ H Q=>te σ H λy H1=>∃k ws,y=.str k/\KTD.datumAt k D=some ws/\∀p,GH K p (ws.map V.str)->Q (.ref p) H1
theorem Dk{o:Expr}{te:TE}{pos:Pos}(ho:PE X o (tC (.ref d)))(hD:jL X.K d D)(he:PE X e te)(hs:wz e):PE X (.Subscript o e pos) (yC X.K D te):=by
 intro pins s σ H Q I h;refine sX PySem.F.slot_dict_getitem.lookup hs (bR (ho pins s σ H (λv H'=>v=.ref d/\H'=H) I ⟨rfl,rfl⟩) λu s1 hq1=>?_);obtain⟨x,H1,I1,rx,ex,eh⟩:=hq1;subst ex eh;obtain rfl:u=Value.ref d:=rx;refine bR (he pins s1 σ H1 _ I1 h) λiv s2 hq2=>?_;obtain⟨y,H2,I2,ry,k,ws,ek,e1,q⟩:=hq2;subst ek;obtain⟨t,rfl⟩:=ry;refine⟨hD.typeIs I2.iA,uz hD I2.iA e1 λv r=>?_⟩;obtain⟨p,rfl,r⟩:=r;exact⟨.ref p,H2,I2.tok _,rfl,q p r⟩
theorem Z.seq{tg l:Expr}{tl:TE}(K:W.Frag)(hK:X.K=K)(hl:QE X l tl):QI X tg l (wL K tl):=by subst hK;exact⟨Ea hl.h⟩
theorem Ap.wL(K:W.Frag)(tl:TE)(σ:St)(H:Hp)(R:It->Hp->Prop):L2.wL K tl σ H R=tl σ H λx H1=>∃a,x=V.ref a/\(((∃xs,bB K H1 a xs)/\R (we K a) H1)\/((∃xs,bb K H1 a xs)/\R (vC K a) H1)):=rfl
namespace Y
noncomputable def F_:V->List V->Hp->VK->Prop:=λx vs H Q=>∃(a:Addr) (ws:List Str) (k:Str) (j:Nat),x=.ref a/\H a=some (.lst (ws.map V.str))/\vs=[.str k]/\ws[j]?=some k/\(∀m,m<j->ws[m]?≠some k)/\Q (.int (j:Nat)) H
theorem Ci:HM X "list.index" F_:=by
 intro pins s σ H x xs v us Q I rx rs h;obtain⟨a,ws,k,j,rfl,hH,rfl,hj,hno,q⟩:=h;cases rx;obtain⟨u,rfl,t,rfl⟩:=vals1 rs;obtain⟨z,its,n,r,hl,e⟩:=I.rj hH;obtain⟨t',hit⟩:=i6 r j k hj;have hjl:j<ws.length:=(Jv.mp hj).1;rw[Jt] at z hl;have hji:j<its.toArray.size:=by rw[Jy];lia
 have sz:(sizeLine:Int)<2^63-1:=by decide
 have hje:its.toArray[j]=.str k t':=by
  have:its.toArray[j]?=some (.str k t'):=by rw[Kz];exact hit
  exact (Kh.mp this).2
 have hall:∀(m:Nat) (hm:m<its.toArray.size),∃y ty,its.toArray[m]=.str y ty/\ws[m]?=some y:=λm hm=>by
  have hm':m<ws.length:=by rw[Jy] at hm;lia
  have e1:=Jr hm';obtain⟨ty,hy⟩:=i6 r m _ e1;have:its.toArray[m]?=some (.str ws[m] ty):=by rw[Kz];exact hy
  exact⟨_,ty,(Kh.mp this).2,e1⟩
 refine LI PySem.F.slot_list_index ⟨_,e,rfl⟩ PySem.F.entry_list_index (PySem.F.args_list_index_2 _ _) (SeqAt.list_indexAt a its.toArray n none _ (.str k t) (λy=>match y with|.str y _=>y == k|_=>false) j hji (by lia) (by rw[hje];exact K4 k) λm hm hmj=>?_) ⟨e,λy hy=>?_,⟨.int (j:Nat),H,I.tok _,⟨_,rfl⟩,q⟩⟩
 ·obtain⟨y,ty,ey,ew⟩:=hall m hm;rw[ey];exact Kf.mpr λz=>hno m hmj (by rw[ew,z])
 ·obtain⟨m,hm,rfl⟩:=Array.mem_iff_getElem.mp hy;obtain⟨y,ty,ey,ew⟩:=hall m hm;rw[ey];exact SeqAt.EqAt.str_str _ _ _ _
end Y
open PySem PySem.Spec PyProof PyProof.Rows PySem.W
namespace SP
section
variable (k:Nat->Int)
noncomputable def R(i j:Nat):Prop:=k i<k j\/(k i=k j/\i<j)
variable {k}
theorem R.le{a b:Nat}(h:R k a b):k a<=k b:=by unfold R at h;lia
end
structure PI (n m:Nat) (p:Array Nat) (a:List Nat):Prop where
 eq:p.toList=a++List.range' m (n-m)
 perm:a.Perm (List.range m)
 le:m<=n
section
variable {n m:Nat} {p:Array Nat} {a:List Nat}
theorem PI.len(h:PI n m p a):a.length=m:=by rw[h.perm.length_eq,Kx]
theorem PI.lt(h:PI n m p a){x:Nat}(hx:x∈a):x<m:=K9.mp (h.perm.mem_iff.mp hx)
theorem PI.size(h:PI n m p a):p.size=n:=by
 have:=h.len;have:=h.le;rw[<- Kc,h.eq,Ju,List.length_range',h.len];lia
theorem PI.at(h:PI n m p a){x:Nat}(hi:a[i]?=some x):p.getD i 0=x:=by
 have:p[i]?=some x:=by
  rw[<- JZ,h.eq,JU (Jv.mp hi).1];exact hi
 rw[Ni,this];rfl
theorem PI.nx(h:PI n m p a)(hm:m<n):p.getD m 0=m:=by
 have:p[m]?=some m:=by
  rw[<- JZ,h.eq,JO (by rw[h.len];exact J7 m),h.len,Lb,List.getElem?_range' (by lia)];simp
 rw[Ni,this];rfl
theorem PI.step(h:PI n m p a)(hm:m<n):PI n (m+1) p (a++[m]):=by
 refine⟨?_,?_,hm⟩
 ·rw[h.eq,JT,show n-m=(n-(m+1))+1 by lia,Ld];rfl
 ·rw[NQ];exact h.perm.append_right [m]
theorem PI.last(h:PI n m p a){y:Nat}(e:a=b++[y]):p.getD (m-1) 0=y:=by
 refine h.at ?_;have:=h.len;rw[e,Ju] at this;simp only[JD,Ks] at this;rw[e,JO (by lia),show m-1-b.length=0 by lia];rfl
end
theorem yD{xs:Array α}{k l:Nat}{y:α}(hy:xs[k]?=some y)(hl:l<=k):(bubble xs k (k-l)).toList=xs.toList.take l++y::(xs.toList.drop l).take (k-l)++xs.toList.drop (k+1):=by
 have hk:k<xs.size:=(Kh.mp hy).1;have hL:xs.toList.length=xs.size:=by simp
 apply Ny;intro i;rw[JZ,getElem?_bubble hk _ (by lia),show k-(k-l)=l by lia]
 rw[JT,Mc];have ht:(xs.toList.take l).length=l:=by rw[JK];lia
 rw[ht];by_cases h1:i<l
 ·rw[J6 h1,Jx (by lia),Jx (by lia),Ls,J6 h1,JZ]
 ·rw[Jx h1];by_cases h2:i=l
  ·subst h2;rw[J6 rfl,Lb,hy];rfl
  ·rw[Jx h2,show i-l=(i-l-1)+1 by lia,KO,List.getElem?_cons_succ,Mc]
   have hm:((xs.toList.drop l).take (k-l)).length=k-l:=by rw[JK,JW];lia
   rw[hm];by_cases h3:i-l-1<k-l
   ·rw[J6 h3,J6 (by lia),Ls,J6 h3,KN,JZ]
    congr 1;lia
   ·rw[Jx h3,Jx (by lia),KN,JZ]
    congr 1;lia
theorem xy{xs:Array α}{j:Nat}(hi:i<=j)(hj:j<=xs.size):(mirror xs i j ((j-i) / 2)).toList=xs.toList.take i++((xs.toList.drop i).take (j-i)).reverse++xs.toList.drop j:=by
 have hL:xs.toList.length=xs.size:=by simp
 apply Ny;intro k;rw[JZ,getElem?_mirror_all hj,JT,Mc];have ht:(xs.toList.take i).length=i:=by rw[JK];lia
 have hm:((xs.toList.drop i).take (j-i)).length=j-i:=by rw[JK,JW];lia
 rw[ht];by_cases h1:k<i
 ·rw[J6 h1,Jx (by lia),Ls,J6 h1,JZ]
 ·rw[Jx h1,Mc,L7,hm];by_cases h2:k<j
  ·rw[J6 (by lia),J6 (by lia),List.getElem?_reverse (by lia),hm,Ls,J6 (by lia),KN,JZ]
   congr 1;lia
  ·rw[Jx (by lia),Jx (by lia),KN,JZ]
   congr 1;lia
theorem PI.rev{n m:Nat}{c:List Nat}(h:PI n m p (b++c)):PI n m (kas_rev p b.length m) (b++c.reverse):=by
 have hl:b.length+c.length=m:=by rw[<- h.len,Ju]
 refine⟨?_,((List.reverse_perm c).append_left b).trans h.perm,h.le⟩;unfold kas_rev;rw[xy (by lia) (by rw[h.size];exact h.le),h.eq,JT b c,My,Nb,show m-b.length=c.length by lia,My,<- JT b c,List.drop_left' (by rw[Ju];exact hl)]
theorem nQ{m:Nat}(h:a.length=m)(hm:1<=m):∃b y,a=b++[y]:=by
 rcases Oj a with rfl|⟨b,y,rfl⟩
 ·cases h;exact absurd hm (by decide)
 ·exact⟨b,y,by simp⟩
section
variable {k:Nat->Int} {n:Nat} {cmp:Nat->Nat->(Bool->Shared->Prop)->Shared->Prop} {I:Shared->Prop}
noncomputable def oK(k:Nat->Int)(n:Nat)(cmp:Nat->Nat->(Bool->Shared->Prop)->Shared->Prop)(I:Shared->Prop):Prop:=∀i j C s,i<n->j<n->I s->(∀s',I s'->C (decide (k i<k j)) s')->cmp i j C s
theorem sf(hc:oK k n cmp I){G:Nat->Shared->Prop}:∀(f m:Nat) (a:List Nat) (s:Shared),PI n m p a->1<=m->f=n-m->a.Pairwise (R k)->I s ->
  (∀m' a' s',PI n m' p a'->m<=m'->a'.Pairwise (R k)->I s'->(∀b y,a'=b++[y]->m'<n->k m'<k y)->G m' s')->(kas_asc p f m).kasWp cmp G s
 |0,m,a,s,h,h1,hf,hp,hI,g=>g m a s h (J7 m) hp hI λ_ _ _ hl=>by have:=h.le;lia
 |f+1,m,a,s,h,h1,hf,hp,hI,g=>by
  have hm:m<n:=by lia
  obtain⟨b,y,e⟩:=nQ h.len h1;show cmp (p.getD m 0) (p.getD (m-1) 0) _ s;rw[h.nx hm,h.last e];have hy:y<m:=h.lt (by rw[e];simp)
  refine hc m y _ s hm (by lia) hI λs' hI'=>?_
  by_cases c:k m<k y
  ·rw[JX c];exact g m a s' h (J7 m) hp hI' λb' y' e' _=>by
    rw[e] at e';have:[y]=[y']:=(List.append_inj' e' rfl).2
    cases this;exact c
  ·rw[JV c];refine sf hc f (m+1) (a++[m]) s' (h.step hm) (by lia) (by lia) ?_ hI' λm' a' s2 h' hm' hp' hI2 gl=>g m' a' s2 h' (by lia) hp' hI2 gl
   refine K7.mpr ⟨hp,by simp,λx hx z hz=>?_⟩
   rw[JG.mp hz];have hxm:=h.lt hx;have:k x<=k y:=by
    rw[e] at hx hp;rcases Kj.mp hx with hx|hx
    ·exact ((K7.mp hp).2.2 x hx y (by simp)).le
    ·rw[JG.mp hx];exact NX _
   unfold R;lia
structure DI (k:Nat->Int) (b c:List Nat):Prop where
 EH:b.Pairwise λx y=>R k y x
 less:∀y∈b,∀x∈c,k x<k y
 one:∀x∈c,∀y∈c,k x=k y
 up:c.Pairwise (· < ·)
theorem DI.rise{c:List Nat}(h:DI k b c):(b++c.reverse).reverse.Pairwise (R k):=by
 rw[MX,Md];refine K7.mpr ⟨?_,MF.mpr h.EH,λx hx y hy=>.inl (h.less y (Lp.mp hy) x hx)⟩;exact Mq (λ{x y} hx hy hl=>.inr ⟨h.one x hx y hy,hl⟩) h.up
theorem DI.next{c:List Nat}{x:Nat}(h:DI k b c)(hc:c≠[])(hx:∀y∈c,k x<k y):DI k (b++c.reverse) [x]:=by
 refine⟨K7.mpr ⟨h.EH,MF.mpr (Mq (λ{x y} hx hy hl=>.inr ⟨h.one x hx y hy,hl⟩) h.up),λy hy z hz=>.inl (h.less y hy z (Lp.mp hz))⟩,λy hy z hz=>?_,λy hy z hz=>?_,by simp⟩
 ·rw[JG.mp hz];rcases Kj.mp hy with hy|hy
  ·obtain⟨w,hw⟩:=N6 c hc;exact Int.lt_trans (hx w hw) (h.less y hy w hw)
  ·exact hx y (Lp.mp hy)
 ·rw[JG.mp hy,JG.mp hz]
theorem DI.more{c:List Nat}{x:Nat}(h:DI k b c)(he:∀y∈c,k x=k y)(hc:c≠[])(hl:∀y∈c,y<x):DI k b (c++[x]):=by
 refine⟨h.EH,λy hy z hz=>?_,λy hy z hz=>?_,K7.mpr ⟨h.up,by simp,λy hy z hz=>by rw[JG.mp hz];exact hl y hy⟩⟩
 ·rcases Kj.mp hz with hz|hz
  ·exact h.less y hy z hz
  ·rw[JG.mp hz];obtain⟨w,hw⟩:=N6 c hc;rw[he w hw];exact h.less y hy w hw
 ·rcases Kj.mp hy with hy|hy<;>rcases Kj.mp hz with hz|hz
  ·exact h.one y hy z hz
  ·rw[JG.mp hz];exact (he y hy).symm
  ·rw[JG.mp hy];exact he z hz
  ·rw[JG.mp hy,JG.mp hz]
theorem j4(hc:oK k n cmp I){G:Array Nat×Nat×Nat->Shared->Prop}:∀(f:Nat) (p:Array Nat) (m q:Nat) (b c:List Nat) (s:Shared),PI n m p (b++c)->c.length=q+1->DI k b c->f=n-m->I s ->
  (∀p' m' q' b' c' s',PI n m' p' (b'++c')->c'.length=q'+1->DI k b' c'->I s'->G (p',m',q') s')->(kas_desc f p m q).kasWp cmp G s
 |0,p,m,q,b,c,s,h,hl,hd,hf,hI,g=>g p m q b c s h hl hd hI
 |f+1,p,m,q,b,c,s,h,hl,hd,hf,hI,g=>by
  have hm:m<n:=by lia
  obtain⟨c0,y,e⟩:=nQ hl (by lia)
  have hbl:b.length+(q+1)=m:=by rw[<- hl,<- Ju,h.len]
  have ne:c≠[]:=by rw[e];simp
  have hy:y∈c:=by rw[e];simp
  have hya:y<m:=h.lt (JP _ hy);have e1:p.getD m 0=m:=h.nx hm;have e2:p.getD (m-1) 0=y:=h.last (b:=b++c0) (by rw[e,JT])
  show cmp (p.getD m 0) (p.getD (m-1) 0) _ s;rw[e1,e2];refine hc m y _ s hm (by lia) hI λs' hI'=>?_
  by_cases c1:k m<k y
  ·rw[JX c1];have hx:∀z∈c,k m<k z:=λz hz=>by rw[hd.one z hz y hy];exact c1
   show KasT.kasWp cmp (if q > 0 then _ else _) G s'
   by_cases hq:q > 0
   ·rw[J6 hq,show m-(q+1)=b.length by lia]
    exact j4 hc f _ (m+1) 0 (b++c.reverse) [m] s' (h.rev.step hm) rfl (hd.next ne hx) (by lia) hI' g
   ·rw[Jx hq];have e3:c.reverse=c:=by
     have:c.length=1:=by lia
     obtain⟨z,rfl⟩:=NY.mp this;rfl
    exact j4 hc f p (m+1) 0 (b++c.reverse) [m] s' (by rw[e3];exact h.step hm) rfl (hd.next ne hx) (by lia) hI' g
  ·rw[JV c1];show cmp y m _ s';refine hc y m _ s' (by lia) hm hI' λs2 hI2=>?_
   by_cases c2:k y<k m
   ·rw[JX c2];exact g p m q b c s2 h hl hd hI2
   ·rw[JV c2];refine j4 hc f p (m+1) (q+1) b (c++[m]) s2 (by rw[<- JT];exact h.step hm) (by rw[Ju,hl];rfl) (hd.more (λz hz=>?_) ne λz hz=>h.lt (JP _ hz)) (by lia) hI2 g
    rw[hd.one z hz y hy];lia
theorem tP(hc:oK k n cmp I){G:Nat×Array Nat->Shared->Prop}{m:Nat}{s:Shared}(h:PI n m p a)(h1:1<=m)(hr:a.reverse.Pairwise (R k))(hI:I s)
  (g:∀m' p' a' s',PI n m' p' a'->1<=m'->a'.Pairwise (R k)->I s'->G (m',p') s'):(kas_tail3 m n p).kasWp cmp G s:=by
 unfold kas_tail3;rw[Mm];have hv:=PI.rev (b:=[]) (c:=a) h;exact sf hc (n-m) m a.reverse s hv h1 rfl hr hI λm' a' s' h' hm' hp' hI' _=>g m' _ a' s' h' (by lia) hp' hI'
theorem tL(hc:oK k n cmp I){G:Nat×Array Nat->Shared->Prop}{m:Nat}{s:Shared}(h:PI n m p a)(hm:m<n)(hd:DI k a [m])(hI:I s)
  (g:∀m' p' a' s',PI n m' p' a'->1<=m'->a'.Pairwise (R k)->I s'->G (m',p') s'):(kas_descPart m n p).kasWp cmp G s:=by
 unfold kas_descPart;rw[Mm];refine j4 hc (n-(m+1)) p (m+1) 0 a [m] s (h.step hm) rfl hd rfl hI λp' m' q' b' c' s' h' hl' hd' hI'=>?_;have hbl:b'.length+(q'+1)=m':=by rw[<- hl',<- Ju,h'.len]
 show KasT.kasWp cmp (if q' > 0 then _ else _) G s'
 by_cases hq:q' > 0
 ·rw[J6 hq];show (kas_tail3 m' n (kas_rev p' (m'-(q'+1)) m')).kasWp cmp G s';rw[show m'-(q'+1)=b'.length by lia]
  exact tP hc h'.rev (by lia) hd'.rise hI' g
 ·rw[Jx hq];have e3:c'.reverse=c':=by
   have:c'.length=1:=by lia
   obtain⟨z,rfl⟩:=NY.mp this;rfl
  exact tP hc h' (by lia) (by rw[<- e3];exact hd'.rise) hI' g
theorem yf(hc:oK k n cmp I){G:Nat×Array Nat->Shared->Prop}{s:Shared}(hn:1<=n)(hI:I s)
  (g:∀m' p' a' s',PI n m' p' a'->1<=m'->a'.Pairwise (R k)->I s'->G (m',p') s'):(kas_count n (List.toArray (List.range n))).kasWp cmp G s:=by
 unfold kas_count;rw[Mm];have h0:PI n 1 (List.toArray (List.range n)) [0]:=by
  refine⟨?_,List.Perm.refl _,hn⟩;show List.range n=[0]++List.range' 1 (n-1);rw[MQ,show n=(n-1)+1 by lia,Ld];rfl
 refine sf hc (n-1) 1 [0] s h0 (J7 1) rfl (by simp) hI λm a s' h hm hp hI' gl=>?_
 show KasT.kasWp cmp (if (m == n)=true then _ else _) G s'
 by_cases e:m=n
 ·subst e;rw[J6 (K4 m)];exact g m _ a s' h hm hp hI'
 ·rw[Jx (by simpa using e)]
  have hmn:m<n:=by have:=h.le;lia
  obtain⟨b,y,ea⟩:=nQ h.len hm;have ky:=gl b y ea hmn;have hya:y<m:=h.lt (by rw[ea];simp)
  by_cases h2:m > 1
  ·rw[J6 h2];obtain⟨x,r,ex⟩:∃x r,a=x::r:=by
    cases a with
    |nil=>have:=h.len;rw[Ks] at this;lia
    |cons x r=>exact⟨x,r,rfl⟩
   have hxa:x<m:=h.lt (by rw[ex];simp)
   show cmp ((List.toArray (List.range n)).getD 0 0) ((List.toArray (List.range n)).getD (m-1) 0) _ s';rw[h.at (i:=0) (x:=x) (by rw[ex];rfl),h.last ea]
   refine hc x y _ s' (by lia) (by lia) hI' λs2 hI2=>?_
   by_cases c:k x<k y
   ·rw[JX c];exact g m _ a s2 h hm hp hI2
   ·rw[JV c];have hv:=PI.rev (b:=[]) (c:=a) h;refine tL hc hv hmn ⟨MF.mpr hp,λz hz w hw=>?_,λz hz w hw=>by rw[JG.mp hz,JG.mp hw],by simp⟩ hI2 g
    rw[JG.mp hw];have hz':=Lp.mp hz;have hxz:k x<=k z:=by
     rw[ex] at hz' hp;rcases J5.mp hz' with rfl|hz'
     ·exact NX _
     ·exact ((Kb.mp hp).1 z hz').le
    lia
  ·rw[Jx h2];have hm1:m=1:=by lia
   have hb:b=[]:=by
    have:=h.len;rw[ea,Ju,hm1] at this;simp only[JD,Ks] at this;exact LC.mp (by lia)
   subst hb;refine tL hc h hmn ⟨by rw[ea];simp,λz hz w hw=>?_,λz hz w hw=>by rw[JG.mp hz,JG.mp hw],by simp⟩ hI' g
   rw[JG.mp hw];rw[ea] at hz;rw[JG.mp hz];exact ky
theorem kW(hc:oK k n cmp I){G:Nat->Shared->Prop}{t:Nat}(h:PI n t p a)(ht:t<n)(hp:a.Pairwise (R k)):∀(f l r:Nat) (s:Shared),l<=r->r<=t->r-l<=f->(∀i x,i<l->a[i]?=some x->k x<=k t)->(∀i x,r<=i->a[i]?=some x->k t<k x)->I s ->
  (∀l' s',l'<=t->(∀i x,i<l'->a[i]?=some x->k x<=k t)->(∀i x,l'<=i->a[i]?=some x->k t<k x)->I s'->G l' s')->(kas_place p t f l r).kasWp cmp G s
 |0,l,r,s,h1,h2,h3,hlo,hhi,hI,g=>g l s (by lia) hlo (λi x hi e=>hhi i x (by lia) e) hI
 |f+1,l,r,s,h1,h2,h3,hlo,hhi,hI,g=>by
  show KasT.kasWp cmp (if l >= r then _ else _) G s
  by_cases hlr:l >= r
  ·rw[J6 hlr];exact g l s (by lia) hlo (λi x hi e=>hhi i x (by lia) e) hI
  ·rw[Jx hlr];have hmid:(l+r) / 2<a.length:=by rw[h.len];lia
   have em:a[(l+r) / 2]?=some a[(l+r) / 2]:=Jr hmid;have hma:a[(l+r) / 2]<t:=h.lt (JM hmid);have mono:∀i j x y,i<=j->a[i]?=some x->a[j]?=some y->k x<=k y:=λi j x y hij ex ey=>by
    rcases K8 i j with c|c
    ·obtain⟨hi,rfl⟩:=Jv.mp ex;obtain⟨hj,rfl⟩:=Jv.mp ey;exact (Lz.mp hp i j hi hj c).le
    ·have:i=j:=Nat.le_antisymm hij c;subst this;rw[ex] at ey;cases ey;exact NX _
   show cmp (p.getD t 0) (p.getD ((l+r) / 2) 0) _ s;rw[h.nx ht,h.at em];refine hc t _ _ s ht (by lia) hI λs' hI'=>?_
   by_cases c:k t<k a[(l+r) / 2]
   ·rw[JX c];exact kW hc h ht hp f l ((l+r) / 2) s' (by lia) (by lia) (by lia) hlo (λi x hi e=>Int.lt_of_lt_of_le c (mono _ i _ x hi em e)) hI' g
   ·rw[JV c];exact kW hc h ht hp f ((l+r) / 2+1) r s' (by lia) h2 (by lia) (λi x hi e=>Int.le_trans (mono i _ x _ (by lia) e em) (by lia)) hhi hI' g
theorem yM(hc:oK k n cmp I){G:Array Nat->Shared->Prop}:∀(f:Nat) (p:Array Nat) (t:Nat) (a:List Nat) (s:Shared),PI n t p a->a.Pairwise (R k)->f=n-t->I s ->
  (∀p' a' s',PI n n p' a'->a'.Pairwise (R k)->I s'->G p' s')->(kas_bin f p t).kasWp cmp G s
 |0,p,t,a,s,h,hp,hf,hI,g=>by
  have:t=n:=by have:=h.le;lia
  subst this;exact g p a s h hp hI
 |f+1,p,t,a,s,h,hp,hf,hI,g=>by
  have ht:t<n:=by lia
  show KasT.kasWp cmp ((kas_place p t t 0 t).bind _) G s;rw[Mm];refine kW hc h ht hp t 0 t s (JL _) (J7 _) (by lia) (λi x hi _=>absurd hi (MP i)) (λi x hi e=>?_) hI λl s' hl hlo hhi hI'=>?_
  ·have:=(Jv.mp e).1;rw[h.len] at this;lia
  ·have et:p[t]?=some t:=by
    rw[<- JZ,h.eq,JO (by rw[h.len];exact J7 t),h.len,Lb,List.getElem?_range' (by lia)];simp
   have hla:l<=a.length:=by rw[h.len];exact hl
   have e1:(bubble p t (t-l)).toList=(a.take l++t::a.drop l)++List.range' (t+1) (n-(t+1)):=by
    rw[yD et hl,h.eq,MU hla,List.drop_append_of_le_length hla,show n-t=(n-(t+1))+1 by lia,Ld]
    have e2:(a.drop l).length=t-l:=by rw[JW,h.len]
    have e3:∀r:List Nat,(a++t::r).drop (t+1)=r:=λr=>by
     rw[show a++t::r=(a++[t])++r by simp]
     exact List.drop_left' (by rw[Ju,h.len];rfl)
    rw[List.take_left' e2,e3]
   have hP:PI n (t+1) (bubble p t (t-l)) (a.take l++t::a.drop l):=by
    refine⟨e1,?_,ht⟩;have:(a.take l++t::a.drop l).Perm (a++[t]):=by
     have h1:(a.take l++t::a.drop l).Perm (t::(a.take l++a.drop l)):=NH;rw[KJ] at h1;exact h1.trans (List.perm_append_singleton t a).symm
    rw[NQ];exact this.trans (h.perm.append_right [t])
   refine yM hc f _ (t+1) _ s' hP ?_ (by lia) hI' g
   have hp1:=(KJ l a) ▸ hp;obtain⟨q1,q2,q3⟩:=K7.mp hp1;refine K7.mpr ⟨q1,Kb.mpr ⟨λx hx=>?_,q2⟩,λx hx y hy=>?_⟩
   ·obtain⟨i,hi⟩:=MG.mp hx;rw[KN] at hi;exact .inl (hhi (l+i) x (by lia) hi)
   ·rcases J5.mp hy with rfl|hy
    ·obtain⟨i,hi⟩:=MG.mp hx;rw[Ls] at hi
     split at hi
     ·rename_i hil;have:=hlo i x hil hi;have hxt:=h.lt (Me hx);unfold R;lia
     ·cases hi
    ·exact q3 x hx y hy
theorem Cq(hc:oK k n cmp I){G:Array Nat->Shared->Prop}{s:Shared}(hn:1<=n)(hI:I s)(g:∀p s',p.toList.Perm (List.range n)->p.toList.Pairwise (R k)->I s'->G p s'):(kas_sort n).kasWp cmp G s:=by
 unfold kas_sort;rw[Mm];have fin:∀p a s',PI n n p a->a.Pairwise (R k)->I s'->G p s':=λp a s' h hp hI'=>by
  have e:p.toList=a:=by rw[h.eq,Lb,List.range'_zero,Kq]
  refine g p s' ?_ ?_ hI'<;>rw[e]
  ·exact h.perm
  ·exact hp
 refine yf hc hn hI λm p a s' h h1 hp hI'=>?_;show KasT.kasWp cmp (if m<n then _ else _) G s'
 by_cases hm:m<n
 ·rw[J6 hm];show (kas_bin (n-max m 1) p (max m 1)).kasWp cmp G s';rw[show max m 1=m by lia]
  exact yM hc (n-m) p m a s' h hp rfl hI' fin
 ·rw[Jx hm];have:m=n:=by have:=h.le;lia
  subst this;exact fin p a s' h hp hI'
end
end SP
abbrev Eu(qual:Str)(scope:Scope)(L f:Addr)(cd:Value)(cl:List (Str×Addr)):Env:=W.envX qual scope L f cd cl
noncomputable def uu(X:Cx)(A:Around)(N:List Str)(qual:Str)(scope:Scope)(f:Addr)(cd:Value)(cl:List (Str×Addr))(s:Shared)(H:Hp):Cx where
 prog:=X.prog
 w:=X.w
 K:=X.K
 mg:=X.mg
 base:=X.base
 A:=A.deeper (Eu qual scope s.heap.objs.size f cd cl)
 N:=N
 s₀:=s
 H₀:=H
 env:=Eu qual scope s.heap.objs.size f cd cl
 outer:=X.stack
 stack:=Eu qual scope s.heap.objs.size f cd cl::X.stack
 ex:=[]
 calm:=true
 fn:=λ_=>false
 pn:=[]
 xe:=λ_ _=>False
section
variable {X:Cx} {pins:List (Addr×Obj)} {σ:St} {H:Hp} {s:Shared}
theorem Au(I:Inv X pins σ H s){A:Around}(hA:A.frames=some X.stack)(hd:A.handled=none){qual:Str}{v:V}{u:Value}{cd:Value}{h₁:Heap}{tk:Nat}
  (hk:scope.kind=.function) (rv:RelV v u) (hloc:scope.names.lookup x=some .local) (hns:h₁.Ns s.heap.objs.size (λy=>[(x,u)].reverse.lookup y)) (old:∀b o,s.heap.get? b=some o->h₁.get? b=some o)
  (hlen:σf.length=N.length) (hcl:∀y c,cl.lookup y=some c->X.env.cells.lookup y=some c) (hhas:∀y,(scope.names.lookup y=some .cell\/scope.names.lookup y=some .free)->∃c,cl.lookup y=some c)
  (hf:∀(i:Nat) (y:Str) (v:V),N[i]?=some y->σf[i]?=some (some v)->scope.names.lookup y=some .free/\∃c u,cl.lookup y=some c/\s.heap.IsCell c (some u)/\RelV v u) :
  Inv (uu X A (x::N) qual scope f cd cl s H) [] (some v::σf) H {s with heap:=h₁,toks:=tk}:=by
 have noA:∀b:Addr,b∉(uu X A (x::N) qual scope f cd cl s H).ex:=λb z=>absurd (show b∈([]:List Addr) from z) (by simp)
 refine⟨⟨I.ok.mod,hk,rfl,rfl,J7 _,λy z c e1 e2=>I.ok.inj y z c (hcl y c e1) (hcl z c e2),hhas,λy c z _=>(by cases z),λ_=>hd,Around.frames_deeper hA,.inr ⟨rfl,rfl⟩,λb z=>absurd z (noA b),I.bs,JC I.ok.sP I.sz,λb _ _=>noA b,λb z=>absurd z (noA b),I.stack,I.j5,I.ok.tabs.un I.base⟩,
  rfl,I.bare,Un.kept old,⟨_,hns,λi y w e1 e2 e3=>?_⟩,λy c e=>?_,I.aN.fresh (J7 _),λy c e=>I.cu y c (hcl y c e),λp hp=>absurd (show p∈([]:List (Addr×Obj)) from hp) (by simp),I.aN.kept old,?_⟩
 ·cases i with
  |zero =>
   have e1':some x=some y:=e1;have e2':some (some v)=some (some w):=e2
   cases e1';cases e2'
   exact⟨u,rv,.inl ⟨hloc,by simp⟩⟩
  |succ i =>
   obtain⟨h1,c,u',h2,h3,h4⟩:=hf i y w e1 e2;obtain⟨o,ho,hd'⟩:=h3;exact⟨u',h4,.inr ⟨.inr h1,c,h2,o,old _ _ ho,hd'⟩⟩
 ·obtain⟨v',o,ho,hd'⟩:=I.cell y c (hcl y c e);exact⟨v',o,old _ _ ho,hd'⟩
 ·show (some v::σf).length=(x::N).length;rw[JD,JD,hlen]
theorem xK(I:Inv X pins σ H s){A:Around}{k:Nat}(hr:b9 (k+1) A)(hA:A.frames=some X.stack){qual:Str}{v:V}{u:Value}{f:Addr}{t:TE}{Q:VK}
  (hk:scope.kind=.function) (hco:scope.isCoroutine=false) (hgen:scope.isGenerator=false) (hcell:∀y∈scope.names,y.2≠.cell) (rv:RelV v u) (hloc:scope.names.lookup x=some .local)
  (ho:s.heap.get? f=some (W.kla_obj "<lambda>" qual params body scope cl pm c' ctv)) (eY:s.heap.CodeRec (.ref c') qual)
  (hbind:∀u,bindArgs (W.kla_fn "<lambda>" qual params body scope cl pm (.ref c') ctv) ⟨[u],[]⟩=pure [(x,u)])
  (hlen:σf.length=N.length) (hcl:∀y c,cl.lookup y=some c->X.env.cells.lookup y=some c) (hhas:∀y,(scope.names.lookup y=some .cell\/scope.names.lookup y=some .free)->∃c,cl.lookup y=some c)
  (hf:∀(i:Nat) (y:Str) (v:V),N[i]?=some y->σf[i]?=some (some v)->scope.names.lookup y=some .free/\∃c u,cl.lookup y=some c/\s.heap.IsCell c (some u)/\RelV v u)
  (hb:PE (uu X A (x::N) qual scope f (.ref c') cl s H) body t) (hq:t (some v::σf) H Q) :
  wpAny (model X.prog X.w) A (call (.ref f) [u]) (EP X pins σ Q) (λ_ _=>False) s:=by
 refine N0 (W.kla_callFunE hr.depth ho rfl hco hgen rfl eY ?_);rw[hbind];refine Jz (wpAny_newFunctionEnv hcell (λy hy=>by rw[JG.mp hy];exact hloc) (λh₁ hns hsb=>⟨I.nolimit.fresh _ hsb,?_⟩) hk)
 have old:∀b o,s.heap.get? b=some o->h₁.get? b=some o:=λb o e=>hsb.extBut b o (JS (JI e)) (Jw _ e);have J:=Au (tk:=s.toks+1) (qual:=qual) (f:=f) (cd:=.ref c') I hA hr.hd hk rv hloc hns old hlen hcl hhas hf;refine W.kla_codeExpr (Km (hb [] _ _ H Q J hq) (λw s' h=>?_) λ_ _ h=>h.elim);obtain⟨v',H',J',r',q'⟩:=h;exact I.after ⟨v',H',J'.os,J'.bare,J'.base,J'.aN,r',q'⟩
end
inductive dR:Hp->Hp->Prop
 |refl {H:Hp}:dR H H
 |more {H H1:Hp} {p:Addr} {o:HO}:dR H H1->H1 p=none->dR H (upd H1 p o)
theorem dR.same(g:dR H H1):zk H H1:=by
 induction g with
 |refl=>exact zk.refl _
 |more g n ih=>exactλb o e=>by rw[ar (af (ih b o e) n)];exact ih b o e
theorem dR.trans{H2:Hp}(a:dR H H1)(b:dR H1 H2):dR H H2:=by
 induction b with
 |refl=>exact a
 |more _ n ih=>exact .more ih n
theorem jd{i j:Int}{ti tj:Tok}{c:Value}:∀l:List Value,TriplesOk l->TriplesOk (l++[.int i ti,.int j tj,c])
 |[],_=>trivial
 |.int _ _::.int _ _::_::r,h=>jd r (show TriplesOk r from h)
theorem mQ{p:Pos}{i j:Int}{ti tj:Tok}{c cv:Value}:∀l:List Value,TriplesOk l->codeAmong p (l++[.int i ti,.int j tj,c])=some cv->codeAmong p l=some cv\/cv=c
 |[],_,e=>by
  have e':(if (i == p.line && j == p.col)=true then some c else codeAmong p [])=some cv:=e
  by_cases z:(i == p.line && j == p.col)=true
  ·rw[J6 z] at e';cases e';exact .inr rfl
  ·rw[Jx z] at e';cases e'
 |.int a ta::.int b tb::d::r,h,e=>by
  have e':(if (a == p.line && b == p.col)=true then some d else codeAmong p (r++[.int i ti,.int j tj,c]))=some cv:=e
  show (if (a == p.line && b == p.col)=true then some d else codeAmong p r)=some cv\/_
  by_cases z:(a == p.line && b == p.col)=true
  ·rw[J6 z] at e' ⊢;exact .inl e'
  ·rw[Jx z] at e' ⊢;exact mQ r (show TriplesOk r from h) e'
theorem tV(q:Str)(more:Array Value):zV (#[.str q 0]++more)=q:=by
 unfold zV;rw[L8];rfl
structure jk (H:Hp) (f:Addr) (q:Str) (params:Arguments) (body:Expr) (scope:Scope) (cl:List (Str×Addr)) (c':Addr) (pm ctv:Value):Prop where
 fn:H f=some (.jD (W.kla_obj "<lambda>" q params body scope cl pm c' ctv) (.own f))
 cd:C7 H q (.ref c')
section
variable {X:Cx} {pins:List (Addr×Obj)} {σ:St} {H:Hp} {s:Shared} {E:Value->Shared->Prop}
theorem jk.up(x:jk H f q params body scope cl c' pm ctv)(g:∀b o u,H b=some (.jD o u)->H1 b=some (.jD o u)):jk H1 f q params body scope cl c' pm ctv:=
 ⟨g _ _ _ x.fn,let ⟨c,oc,vs,t,e1,e2,e3⟩:=x.cd;⟨c,oc,vs,t,e1,g _ _ _ e2,e3⟩⟩
theorem jk.get(x:jk H f q params body scope cl c' pm ctv)(I:Inv X pins σ H s):
  s.heap.get? f=some (W.kla_obj "<lambda>" q params body scope cl pm c' ctv)/\s.heap.CodeRec (.ref c') q:=by
 obtain⟨c,oc,vs,t,e1,e2,e3,e4⟩:=x.cd;exact⟨(I.aN f _ x.fn).1,c,oc,vs,t,e1,(I.aN c _ e2).1,e3,e4⟩
theorem Inv.Af{o:Obj}{t':Nat}(I:Inv X pins σ H s)(k:∀b u,s.heap.get? b=some u->h'.get? b=some u)(hp:s.heap.objs.size<=f)(e:h'.get? f=some o):Inv X pins σ (upd H f (.jD o (.own f))) {s with heap:=h',toks:=t'}:=
 I.laid k hp ⟨e,o,e⟩
theorem yU(I:Inv X pins σ H s){c P:Addr}(hx:x∈dE)(ht:W.tabIn X.K x=some (c,P))(hcode:X.env.code=.ref c)(hq:X.env.qual=x++".<locals>."){pos:Pos}
  (hdef:defaultsOf params X.env=([],[])) (hcl:closureFor scope X.env=pure cl)
  (h:∀f c' pm ctv H1 s1,dR H H1->Inv X pins σ H1 s1->jk H1 f ((x++".<locals>.")++"<lambda>") params body scope cl c' pm ctv->Q (.ref f) s1) :
  wpAny (model X.prog X.w) X.A (eval (.Lambda params body scope pos) X.env) Q E s:=by
 have hm:(c,P,(x++".<locals>.")++"<lambda>")∈bO X.K:=Mn.mpr ⟨x,hx,by rw[ht];rfl⟩
 obtain⟨more,hP⟩:=(I.ok.tabs.un I.base) _ hm;have C:W.CodeHd s.heap c P:=(I.ok.mod.codes _ hm).keeps I.bk;obtain⟨qs,eP,tr,fa⟩:=I.aN P _ hP;have hns:=I.ok.mod.glob.keeps I.bk;have hgP:mainGlobals≠P:=λz=>by
  obtain⟨o,es,ep,e,_⟩:=I.ok.mod.glob;have:=(I.bs _ _ e).2;rw[z,hP] at this;cases this
 have hb:s.heap.BuiltinsAt X.mg P:=by
  obtain⟨bm,ob,b1,b2,b3,b4,b5⟩:=I.ok.mod.bm;refine⟨bm,ob,b1,b2,λz=>?_,λz=>?_,I.bk _ _ b3,b4,b5⟩
  ·obtain⟨o,es,ep,e,hd,_⟩:=I.ok.mod.glob;rw[z,e] at b3;cases b3;rw[hd] at b5;cases b5.2
  ·have:=(I.bs _ _ b3).2;rw[z,hP] at this;cases this
 refine W.kla_eval hdef ?_;rw[hq]
 cases ca:codeAmong pos qs.toList with
 |some cv =>
  have il:=fa pos cv ca;rw[tV] at il;obtain⟨c',oc,vs,t,rfl,e2,e3⟩:=il;refine W.kla_makeFunctionHit hcl I.ok.glob hns hcode C eP tr ca hb λctv h' tk hk hsz=>?_;have n0:H h'.objs.size=none:=I.aN.fresh hsz;have J:=I.Af (f:=h'.objs.size) (t':=tk) (h':=h'.push {cls:=.type "function",data:=.func (W.kla_fn "<lambda>" ((x++".<locals>.")++"<lambda>") params body scope cl ((X.mg "__name__").getD .none) (.ref c') ctv)}) (λb u e=>Jw _ (hk b u e)) hsz (JH _ rfl);exact h _ c' _ ctv _ _ (.more .refl n0) J ⟨aa,c',oc,vs,t,rfl,by rw[ar (af e2 n0)];exact e2,e3⟩
 |none =>
  refine W.kla_makeFunction hcl I.ok.glob hns hcode C eP tr ca hgP hb λc' ctv h' tk hx2 hge hlt hrec htb=>?_;obtain⟨c2,oc,vs,t,e2,hoc,hd,hv⟩:=hrec;cases e2;have nP:P≠c':=λz=>absurd (JI eP) (by rw[z];exact Ou.mpr hge)
  have n1:H c'=none:=I.aN.fresh hge;have keep:∀b u,b≠P->s.heap.get? b=some u->h'.get? b=some u:=λb u hb' e=>hx2 b u hb' e;have H1ne:∀b u,H b=some u->upd H c' (.jD oc (.own c')) b=some u:=λb u e=>by rw[ar (af e n1)];exact e
  have hoP:∀y,H P≠some (.own y):=λy z=>by rw[hP] at z;cases z
  have J1:Inv X pins σ (upd H c' (.jD oc (.own c'))) {s with heap:=h',toks:=tk}:=by
   refine I.un ⟨λb o e n _ _=>keep b o (λz=>by rw[z,hP] at n;cases n) e,λb o e n _ _=>⟨o.slots,keep b o (λz=>by rw[z,hP] at n;cases n) e⟩,λb o e n _=>?_,λb o e _=>?_,λb xs e=>H1ne b _ e,λb o u e=>H1ne b _ e,λb ps e=>⟨#[],by rw[H1ne b _ e,Nf]⟩⟩ λb u e=>?_
   ·rw[ar (λz=>absurd (JI e) (by rw[z];exact Ou.mpr hge))];exact n
   ·by_cases z:b=P
    ·rw[z];exact⟨_,htb⟩
    ·exact⟨o,keep b o z e⟩
   ·by_cases z:b=c'
    ·subst z;rw[aa] at e;cases e;exact⟨hoc,oc,hoc⟩
    ·rw[ar z] at e;by_cases z2:b=P
     ·subst z2;rw[hP] at e;cases e;refine⟨_,htb,by rw[L8];exact jd _ tr,λp cv hc=>?_⟩
      rw[L8] at hc;rcases mQ _ tr hc with q|q
      ·obtain⟨c2,oc2,vs2,t2,g1,g2,g3⟩:=fa p cv q;exact⟨c2,oc2,vs2,t2,g1,H1ne _ _ g2,g3⟩
      ·rw[tV];exact⟨c',oc,vs,t,q,aa,hd,hv⟩
     ·refine (I.aN b u e).jt (λc v hc q=>keep c v ?_ q) (λc q=>H1ne c _ q) (λc xs q=>H1ne c _ q) λc _ _ q=>H1ne c _ q;rcases hc with rfl|hc
      ·exact z2
      ·exactλz3=>hoP b (by rw[<- z3];exact hc)
  have n2:upd H c' (.jD oc (.own c')) h'.objs.size=none:=J1.aN.fresh (J7 _);have J:=J1.Af (f:=h'.objs.size) (t':=tk) (h':=h'.push (W.kla_obj "<lambda>" ((x++".<locals>.")++"<lambda>") params body scope cl ((X.mg "__name__").getD .none) c' ctv)) (λb u e=>Jw _ e) (J7 _) (JH _ rfl);exact h _ c' _ ctv _ _ (.more (.more .refl n1) n2) J ⟨aa,c',oc,vs,t,rfl,by rw[ar (af aa n2)];exact aa,hd,hv⟩
end
section
variable {α β:Type}
noncomputable def i9(p:Int×α):List (Int×α)->List (Int×α)
 |[]=>[p]
 |q::r=>if p.1<=q.1 then p::q::r else q::i9 p r
noncomputable def eM:List (Int×α)->List (Int×α)
 |[]=>[]
 |p::r=>i9 p (eM r)
abbrev FC(l:List (Int×α)):Prop:=l.Pairwise λp q=>p.1<=q.1
noncomputable def atK(a:Int)(l:List (Int×α)):List (Int×α):=l.filter λp=>decide (p.1=a)
theorem fX(p:Int×α):∀l,(i9 p l).Perm (p::l)
 |[]=>.refl _
 |q::r=>by
  unfold i9;split
  ·exact .refl _
  ·exact ((fX p r).cons q).trans (List.Perm.swap p q r)
theorem dP:∀l:List (Int×α),(eM l).Perm l
 |[]=>.refl _
 |p::r=>(fX p _).trans ((dP r).cons p)
theorem tQ{p:Int×α}:∀{l:List (Int×α)},FC l->FC (i9 p l)
 |[],_=>NN _ _
 |q::r,h=>by
  obtain⟨h1,h2⟩:=Kb.mp h;unfold i9;split
  ·rename_i c;exact Kb.mpr ⟨λz hz=>by
    rcases J5.mp hz with rfl|hz
    ·exact c
    ·exact Int.le_trans c (h1 z hz),h⟩
  ·rename_i c;refine Kb.mpr ⟨λz hz=>?_,tQ h2⟩;rcases J5.mp ((fX p r).mem_iff.mp hz) with rfl|hz
   ·lia
   ·exact h1 z hz
theorem qx:∀l:List (Int×α),FC (eM l)
 |[]=>List.Pairwise.nil
 |_::r=>tQ (qx r)
theorem bg(a:Int)(p:Int×α)(l:List (Int×α)):atK a (p::l)=if p.1=a then p::atK a l else atK a l:=by
 unfold atK;rw[List.filter_cons];by_cases z:p.1=a
 ·rw[J6 z,J6 (JX z)]
 ·rw[Jx z,Jx (by simp[z])]
theorem tZ{a:Int}{p:Int×α}:∀{l:List (Int×α)},atK a (i9 p l)=atK a (p::l)
 |[]=>rfl
 |q::r=>by
  unfold i9;split
  ·rfl
  ·rename_i c;rw[bg,tZ,bg,bg,bg];by_cases z:p.1=a
   ·have z2:¬ q.1=a:=by lia
    simp only[z,z2,LU,Ma]
   ·simp only[z,Ma]
theorem pH{a:Int}:∀l:List (Int×α),atK a (eM l)=atK a l
 |[]=>rfl
 |p::r=>by
  show atK a (i9 p (eM r))=_;rw[tZ,bg,bg,pH r]
theorem jK{a:Int}:∀{l:List (Int×α)},(∀p∈l,a<p.1)->atK a l=[]
 |[],_=>rfl
 |p::r,h=>by
  have:=h p (J9 ..);rw[bg,Jx (by lia),jK λq hq=>h q (J8 _ hq)]
theorem m9:∀{l m:List (Int×α)},FC l->FC m->(∀a,atK a l=atK a m)->l=m
 |[],[],_,_,_=>rfl
 |[],q::m,_,_,h=>by
  have:=h q.1;rw[bg,J6 rfl] at this;cases this
 |p::l,[],_,_,h=>by
  have:=h p.1;rw[bg,J6 rfl] at this;cases this
 |p::l,q::m,hl,hm,h=>by
  obtain⟨l1,l2⟩:=Kb.mp hl;obtain⟨m1,m2⟩:=Kb.mp hm;have e:p.1=q.1:=by
   rcases Int.lt_trichotomy p.1 q.1 with z|z|z
   ·have q1:=h p.1;rw[bg,J6 rfl,bg,Jx (by lia),jK (l:=m) λr hr=>by have:=m1 r hr;lia] at q1
    cases q1
   ·exact z
   ·have q1:=h q.1;rw[bg,Jx (by lia),bg,J6 rfl,jK (l:=l) λr hr=>by have:=l1 r hr;lia] at q1
    cases q1
  have q1:=h p.1;rw[bg,J6 rfl,bg,J6 e.symm] at q1;obtain⟨q2,q3⟩:=List.cons.inj q1;subst q2;congr 1;refine m9 l2 m2 λa=>?_;have q4:=h a;rw[bg,bg] at q4;by_cases z:p.1=a
  ·rw[J6 z,J6 z] at q4;exact (List.cons.inj q4).2
  ·rw[Jx z,Jx z] at q4;exact q4
theorem yh{l m:List (Int×α)}(hm:FC m)(h:∀a,atK a m=atK a l):m=eM l:=m9 hm (qx l) λa=>by rw[h a,pH]
abbrev FD(R:α->β->Prop):List (Int×α)->List (Int×β)->Prop:=Paired λp q=>p.1=q.1/\R p.2 q.2
theorem zA{R:α->β->Prop}{p:Int×α}{q:Int×β}(h:p.1=q.1/\R p.2 q.2){l:List (Int×α)}{m:List (Int×β)}(k:FD R l m):FD R (i9 p l) (i9 q m):=by
 induction k with
 |nil=>exact .cons h .nil
 |cons r t ih =>
  unfold i9;split
  ·rename_i z;rw[J6 (by rw[<- h.1,<- r.1];exact z)]
   exact .cons h (.cons r t)
  ·rename_i z;rw[Jx (by rw[<- h.1,<- r.1];exact z)]
   exact .cons r ih
theorem vc{R:α->β->Prop}{l:List (Int×α)}{m:List (Int×β)}(k:FD R l m):FD R (eM l) (eM m):=by
 induction k with
 |nil=>exact .nil
 |cons r t ih=>exact zA r ih
theorem wM{R:α->β->Prop}{ks:List Int}{l:List α}{m:List β}(k:Paired R l m):FD R (ks.zip l) (ks.zip m):=by
 induction k generalizing ks with
 |nil=>rw[List.zip_nil_right,List.zip_nil_right];exact .nil
 |cons r t ih =>
  cases ks with
  |nil=>exact .nil
  |cons k ks=>exact .cons ⟨rfl,r⟩ ih
theorem zE{R:α->β->Prop}{l:List (Int×α)}{m:List (Int×β)}(k:FD R l m):Paired R (l.map (·.2)) (m.map (·.2)):=by
 induction k with
 |nil=>exact .nil
 |cons r t ih=>exact .cons r.2 ih
noncomputable def j8(ks:List Int)(l:List α):List α:=(eM (ks.zip l)).map (·.2)
theorem uf{R:α->β->Prop}{ks:List Int}{l:List α}{m:List β}(h:Paired R l m):Paired R (j8 ks l) (j8 ks m):=zE (vc (wM h))
theorem tR{ks:List Int}{l:List α}(h:ks.length=l.length):(j8 ks l).length=l.length:=by
 unfold j8;rw[Jt,(dP _).length_eq,List.length_zip,h,Lr]
theorem jV{ks:List Int}{l:List α}(h:ks.length=l.length):(j8 ks l).Perm l:=by
 have h2:((ks.zip l).map (·.2))=l:=List.map_snd_zip (by lia)
 have h3:=(dP (ks.zip l)).map (·.2);rw[h2] at h3;exact h3
end
theorem jj:∀{xs:List V} {us:List Value},Vals xs us->Paired RelV xs us
 |_,_,.nil=>.nil
 |_,_,.cons r t=>.cons r (jj t)
theorem je:∀{xs:List V} {us:List Value},Paired RelV xs us->Vals xs us
 |_,_,.nil=>.nil
 |_,_,.cons r t=>.cons r (je t)
theorem ur:∀{us:List Value} {ns:List Int},IntsAre us ns->∀{i:Nat},i<ns.length->∃t,us.getD i Value.none=.int (ns.getD i 0) t
 |_,_,.cons n t h,0,_=>⟨t,rfl⟩
 |_,_,.cons n t h,i+1,hi=>ur h (i:=i) (by simpa using hi)
theorem zu{p:List Nat}(hl:kz.length=us.length)(hp:p.Perm (List.range us.length))(hr:p.Pairwise (SP.R λi=>kz.getD i 0)):p.map (λi=>us.getD i Value.none)=j8 kz us:=by
 have ez:(List.range us.length).map (λi=>(kz.getD i 0,us.getD i Value.none))=kz.zip us:=by
  apply Mf
  ·rw[Jt,Kx,List.length_zip,hl,Lr]
  ·intro i h1 h2;rw[Jt,Kx] at h1;rw[List.getElem_map,List.getElem_range,List.getElem_zip];simp[h1,hl]
 have e1:p.map (λi=>(kz.getD i 0,us.getD i Value.none))=eM (kz.zip us):=by
  refine yh ?_ λa=>?_
  ·exact M4.mpr (hr.imp λh=>h.le)
  ·have fl:∀l:List Nat,atK a (l.map λi=>(kz.getD i 0,us.getD i Value.none))=(l.filter λi=>decide (kz.getD i 0=a)).map λi=>(kz.getD i 0,us.getD i Value.none):=λl=>by
    unfold atK;rw[List.filter_map];rfl
   rw[<- ez,fl,fl];congr 1;refine List.Perm.eq_of_pairwise (le:=(· < ·)) (λa b _ _ h g=>absurd h (Nat.lt_asymm g)) ?_ (NZ.filter _) (hp.filter _);rw[List.pairwise_filter];refine hr.imp λ{i j} h hi hj=>?_;have hi:=KC hi;have hj:=KC hj;rcases h with h|h
   ·exfalso;have h':kz.getD i 0<kz.getD j 0:=h;lia
   ·exact h.2
 unfold j8;rw[<- e1,Lj];rfl
section
variable {X:Cx} {pins:List (Addr×Obj)} {σ:St} {H:Hp} {s:Shared} {E:Value->Shared->Prop}
theorem Inv.take{D:Addr}{ob:Obj}{o:HO}{t':Nat}(I:Inv X ((D,ob)::pins) σ H s)(hs0:X.s₀.heap.objs.size<=D)(hnp:∀p∈X.pn++pins,p.1≠D)(k:∀b u,b≠D->s.heap.get? b=some u->h'.get? b=some u)(new:bA X.prog X.w (upd H D o) h' D o):
  Inv X pins σ (upd H D o) {s with heap:=h',toks:=t'}:=by
 obtain⟨g1,g2,g3,g4,g5⟩:=I.pin (D,ob) (JP _ (J9 ..));have I0:Inv X pins σ H s:=⟨I.ok,I.os,I.bare,I.base,I.loc,I.cell,I.free,I.cu,λp hp=>I.pin p ((Kj.mp hp).elim (λz=>KP _ z) λz=>JP _ (J8 _ z)),I.aN,I.len⟩;have ne:∀b u,H b=some u->b≠D:=λb u e=>af e g2;refine I0.step (g':=s.gens) (d':=s.drawn) (ch:=[D]) (λb hb=>?_) (λb o' _ _ hc e _=>k b o' (λz=>hc (by rw[z];exact JG.mpr rfl)) e) (λb o' _ _ hc e _=>⟨o'.slots,k b o' (λz=>hc (by rw[z];exact JG.mpr rfl)) e⟩) (λb o' hc e n=>by rw[ar (λz=>hc (by rw[z];exact JG.mpr rfl))];exact n)
  (λb o' hc e=>⟨o',k b o' (λz=>hc (by rw[z];exact JG.mpr rfl)) e⟩) (λb xs e=>by rw[ar (ne b _ e)];exact e) (λb o' u e=>by rw[ar (ne b _ e)];exact e) (λb ps e=>⟨#[],by rw[ar (ne b _ e),e,Nf]⟩) (λm hm=>?_) (λb u e=>?_) I.bare
 ·rw[JG.mp hb];refine⟨.inr hs0,g3,λx c e z=>?_,hnp⟩;obtain⟨v,o',ho',hd⟩:=I.cell x c e;rw[z,g1] at ho';cases ho';exact g5 v hd
 ·obtain⟨o',es,ep,ho',r⟩:=hm;exact⟨o',es,ep,k _ _ (Ko g3) ho',r⟩
 ·by_cases z:b=D
  ·subst z;rw[aa] at e;cases e;exact new
  ·rw[ar z] at e;refine (I.aN b u e).jt (λc v hc q=>k c v ?_ q) (λc q=>by rw[ar (ne c _ q)];exact q) (λc xs q=>by rw[ar (ne c _ q)];exact q) λc _ _ q=>by rw[ar (ne c _ q)];exact q
   rcases hc with rfl|hc
   ·exact z
   ·exact ne c _ hc
theorem tB{A:Around}{D:Nat}{st:SortSt}
  (I:Inv X ((D,seqObj "list" #[] e1)::pins) σ (upd H kS (.lst (kz.map V.int))) s) (hkS:H kS=none) (hD:H D=none) (hkD:kS≠D) (hs0:X.s₀.heap.objs.size<=D) (hnp:∀p∈X.pn++pins,p.1≠D)
  (hv:Vals xs us) (hlen:kz.length=us.length) (h64:us.length<64) (ho:((arrOf st).map (·.2)).toList=j8 kz us) (hfl:failedOf st=none)
  (h:∀s',Inv X pins σ (upd (upd H kS (.lst [])) D (.lst (j8 kz xs))) s'->P (.done (.ret .none)) s') :
  wpAny (model X.prog X.w) A (ksk_tail D false e1 (.ref kS) st) P E s:=by
 obtain⟨_,its,n,vr,ek⟩:=I.aN kS _ aa;have hz:its.toArray.size<=sizeLine:=by
  rw[Jy,<- vr.length,Jt,hlen,K_];lia
 have pD:=I.pin _ (JP _ (J9 ..));have hout:((arrOf st).map (·.2)).size=us.length:=by
  rw[<- Kc,ho,tR hlen]
 have s1:=KG s.heap kS (Obj.mapSeq λ_=>(#[]:Array Value));obtain⟨c1,hc1⟩:∃c,(s.heap.update kS (Obj.mapSeq λ_=>(#[]:Array Value))).get? kS=some (seqObj "list" #[] c):=⟨_,MN ek λ_=>#[]⟩;have J1:Inv X ((D,seqObj "list" #[] e1)::pins) σ (upd H kS (.lst [])) {s with heap:=s.heap.update kS (Obj.mapSeq λ_=>(#[]:Array Value))}:=by
  have J:=I.write (x:=kS) (e:=kS) (o:=.lst []) (t':=s.toks) (h':=s.heap.update kS (Obj.mapSeq λ_=>(#[]:Array Value))) (by rw[aa];trivial) (.inl rfl) (λb u hb q=>(s1.2 b hb).trans q) ⟨_,hc1⟩ ⟨JL _,[],c1,.nil,hc1⟩
  rw[sJ] at J;exact J
 have pD1:=J1.pin _ (List.mem_append_right _ (List.mem_cons_self ..));have s2:=Heap.SameBut.update (s.heap.update kS (Obj.mapSeq λ_=>(#[]:Array Value))) D (Obj.mapSeq λ_=>(arrOf st).map (·.2));obtain⟨c2,hc2⟩:∃c,((s.heap.update kS (Obj.mapSeq λ_=>(#[]:Array Value))).update D (Obj.mapSeq λ_=>(arrOf st).map (·.2))).get? D=some (seqObj "list" ((arrOf st).map (·.2)) c):=⟨_,get?_update_seq pD1.1 λ_=>(arrOf st).map (·.2)⟩;have vB:Vals (j8 kz xs) (j8 kz us):=je (uf (jj hv));unfold ksk_tail;dsimp only;refine wpAny_bind (listUpdate_at ek rfl ?_ hz (Nat.zero_le _));refine wpAny_bind (wpAny_letGo ?_);refine wpAny_bind (seqEpoch_at pD1.1 rfl ?_);refine wpAny_bind (listUpdate_at pD1.1 rfl ?_ (Nat.zero_le _) (by show ((arrOf st).map (·.2)).size<=_;rw[hout,sizeLine_eq];lia))
 rw[hfl];simp only[bne_self_eq_false,Mp,Ma];refine Jz (h _ (J1.take hs0 hnp (λb u hb q=>(s2.2 b hb).trans q) ⟨?_,j8 kz us,c2,vB,?_⟩))
 ·rw[vB.length,tR hlen,K_];lia
 ·rw[<- ho,Mg];exact hc2
theorem D_{A:Around}{D:Nat}{us:List Value}{kz:List Int}{keys:Array Value}
  (I:Inv X ((D,seqObj "list" #[] e1)::pins) σ (upd H kS (.lst (kz.map V.int))) s) (hkS:H kS=none) (hD:H D=none) (hkD:kS≠D) (hs0:X.s₀.heap.objs.size<=D) (hnp:∀p∈X.pn++pins,p.1≠D)
  (hv:Vals xs us) (hlen:kz.length=us.length) (h64:us.length<64) (hk:IntsAre keys.toList kz)
  (h:∀s',Inv X pins σ (upd (upd H kS (.lst [])) D (.lst (j8 kz xs))) s'->P (.done (.ret .none)) s') :
  wpAny (model X.prog X.w) A (ksk_end D false us.toArray e1 (.ref kS) keys) P E s:=by
 have hsz:keys.size=us.length:=by
  have z:=hk.length;rw[Kc] at z;exact z.trans hlen
 have hzs:(keys.zip us.toArray).size=us.length:=by
  rw[Array.size_zip,hsz,Jy,Lr]
 unfold ksk_end;dsimp only;rw[if_neg Bool.false_ne_true,if_neg Bool.false_ne_true];by_cases h2:us.toArray.size<2
 ·rw[if_pos h2,if_pos h2];refine wpAny_bind (wpAny_pure ?_);rw[StateT.run_pure];refine wpAny_bind (wpAny_pure ?_);dsimp only;refine tB I hkS hD hkD hs0 hnp hv hlen h64 ?_ rfl h;rw[List.size_toArray] at h2;have:=zu (us:=us) (kz:=kz) (p:=List.range us.length) hlen (List.Perm.refl _) (by
   rcases us with _|⟨x,_|⟨y,r⟩⟩
   ·exact .nil
   ·simp
   ·exfalso;simp only[JD] at h2;lia)
  rw[<- this];show ((keys.zip us.toArray).map (·.2)).toList=_;rw[Array.toList_map,Array.toList_zip,List.map_snd_zip (by simp only[Kc,Jy];lia)]
  apply Mf
  ·simp
  ·intro i h1 h2;have h1':i<us.length:=h1;simp[h1']
 ·rw[Jx h2,Jx h2];rw[Jy] at h2;rw[ksk_kind hk (by lia)]
  refine Js (Jz ?_);have ek:keys=keys.toList.toArray:=(Mg).symm;have hkl:keys.toList.length=us.length:=by rw[Kc,hsz]
  have hat:∀i,i<us.length->∃t,keys.toList.getD i Value.none=.int (kz.getD i 0) t:=λi hi=>ur hk (by rw[hlen];exact hi)
  generalize keys.toList=ks at *;subst ek;refine Js (Km (W.kat_run (ks:=ks) (vs:=us) (κ:=oneType') (Q:=λst' s'=>s'=s/\failedOf st'=none/\((arrOf st').map (·.2)).toList=j8 kz us)
   (G:=λp s'=>s'=s/\p.toList.Perm (List.range us.length)/\p.toList.Pairwise (SP.R λi=>kz.getD i 0)) hkl (by lia) h64 (λp st' s' a1 a2 a3 a4=>⟨a4.1,a3,by rw[W.kat_snds hkl a2];exact zu hlen a4.2.1 a4.2.2⟩) ?_) ?_ λ_ _ e=>e)
  ·refine SP.Cq (k:=λi=>kz.getD i 0) (I:=λs'=>s'=s) (λi j C s' hi hj hI hC=>?_) (by lia) rfl λp s' hp hr hI=>⟨hI,hp,hr⟩
   subst hI;obtain⟨t1,e1⟩:=hat i hi;obtain⟨t2,e2⟩:=hat j hj;unfold W.kas_ask;rw[e1,e2];exact W.kat_lt_int (hC _ rfl)
  rintro⟨⟨⟩,st'⟩ s' ⟨rfl,hf,ho⟩;dsimp only;exact tB I hkS hD hkD hs0 hnp hv hlen h64 ho hf h
theorem jP:∀{us:List Value} {ns:List Int},Vals (ns.map V.int) us->IntsAre us ns
 |_,[],.nil=>.nil
 |_,n::ns,.cons ⟨t,e⟩ r=>by subst e;exact .cons n t (jP r)
theorem BF{A:Around}{D:Nat}{f:Value}
  (I:Inv X ((D,seqObj "list" #[] e1)::pins) σ (upd H kS (.lst [])) s) (hkS:H kS=none) (hD:H D=none) (hkD:kS≠D) (hs0:X.s₀.heap.objs.size<=D) (hnp:∀p∈X.pn++pins,p.1≠D)
  (hv:Vals xs us) (hlen:kz.length=us.length) (h64:us.length<64)
  (turn:∀(i:Nat) (u:Value) (k:Int),us[i]?=some u->kz[i]?=some k->∀pins' H' s',dR H H'->Inv X pins' σ H' s'->wpAny (model X.prog X.w) A (call f [u]) (λr s2=>(∃t,r=.int k t)/\Inv X pins' σ H' s2) (λ_ _=>False) s')
  (h:∀s',Inv X pins σ (upd (upd H kS (.lst [])) D (.lst (j8 kz xs))) s'->P (.done (.ret .none)) s') :
  wpAny (model X.prog X.w) A (ksk_rest D f false us.toArray e1 (.ref kS)) P E s:=by
 unfold ksk_rest;refine Js (N3 ?_)
 first
  |rw[List.forIn_toArray]
  | (rw[<- Array.forIn_toList];simp only[MY])
 refine Js (ksk_fold (λi s'=>Inv X ((D,seqObj "list" #[] e1)::pins) σ (upd H kS (.lst ((kz.take i).map V.int))) s') us 0 s I ?one ?all)
 case one =>
  intro j u s' hu J;rw[LY] at J ⊢;have hj:j<us.length:=(Jv.mp hu).1;obtain⟨k,hkj⟩:∃k,kz[j]?=some k:=⟨_,Jr (by lia)⟩
  refine wpAny_bind (wpAny_attempt (wpAny_mono (turn j u k hu hkj _ _ s' (.more .refl hkS) J) (λr s2 hr=>?_) λ_ _ z=>z.elim));obtain⟨⟨t,rfl⟩,J2⟩:=hr;dsimp only;obtain⟨_,its,n,vr,ek⟩:=J2.aN kS _ aa;have lenI:its.length<=us.length:=by
   rw[<- vr.length,Jt,JK];lia
  have s1:=KG s2.heap kS (Obj.mapSeq (·.push (.int k t)));obtain⟨c1,hc1⟩:∃c,(s2.heap.update kS (Obj.mapSeq (·.push (.int k t)))).get? kS=some (seqObj "list" (its.toArray.push (.int k t)) c):=⟨_,MN ek (·.push (.int k t))⟩;have et:kz.take (j+1)=kz.take j++[k]:=by
   rw[List.take_add_one,hkj];rfl
  have vr2:Vals ((kz.take (j+1)).map V.int) (its++[.int k t]):=by
   rw[et,JN];exact vr.append (.cons ⟨t,rfl⟩ .nil)
  refine Js (listUpdate_at ek rfl ?_ (by rw[Jy,K_];lia) (by show (its.toArray.push (.int k t)).size<=_;rw[Array.size_push,Jy,K_];lia))
  refine Jz ⟨rfl,?_⟩;have J3:=J2.write (x:=kS) (e:=kS) (o:=.lst ((kz.take (j+1)).map V.int)) (t':=s2.toks) (h':=s2.heap.update kS (Obj.mapSeq (·.push (.int k t)))) (by rw[aa];trivial) (.inl rfl) (λb u hb q=>(s1.2 b hb).trans q) ⟨_,hc1⟩
   ⟨by rw[Jt,JK,K_];lia,its++[.int k t],c1,vr2,by rw[hc1,List.push_toArray]⟩
  rw[sJ] at J3;exact J3
 case all =>
  intro s' J;have ez:kz.take (0+us.length)=kz:=Kn (by lia)
  have J':Inv X ((D,seqObj "list" #[] e1)::pins) σ (upd H kS (.lst (kz.map V.int))) s':=by
   rw[<- ez];rw[ez];simpa only[ez] using J
  obtain⟨_,its,n,vr,ek⟩:=J'.aN kS _ aa;refine Js (NG ek rfl ?_);exact D_ J' hkS hD hkD hs0 hnp hv hlen h64 (by rw[MY];exact jP vr) h
theorem Bv{A:Around}{D:Addr}{n0:Nat}{h0:Heap}{f:Value}
  (I:Inv X pins σ H s) (k0:∀b o,s.heap.get? b=some o->h0.get? b=some o) (hDs:s.heap.objs.size<=D) (ho:h0.get? D=some (seqObj "list" us.toArray n0)) (hv:Vals xs us) (hlen:kz.length=us.length) (h64:us.length<64)
  (turn:∀(i:Nat) (u:Value) (k:Int),us[i]?=some u->kz[i]?=some k->∀pins' H' s',dR H H'->Inv X pins' σ H' s'->wpAny (model X.prog X.w) A (call f [u]) (λr s2=>(∃t,r=.int k t)/\Inv X pins' σ H' s2) (λ_ _=>False) s')
  (h:∀H' s',dR H H'->H' D=none->Inv X pins σ (upd H' D (.lst (j8 kz xs))) s'->P (.done (.ret .none)) s') :
  wpAny (model X.prog X.w) A (ksk_tree D f false) P E {s with heap:=h0}:=by
 have hsz0:D<h0.objs.size:=JI ho;have s1:=KG h0 D (Obj.mapSeq λ_=>(#[]:Array Value));obtain⟨e1,ho1⟩:∃e,(h0.update D (Obj.mapSeq λ_=>(#[]:Array Value))).get? D=some (seqObj "list" #[] e):=⟨_,MN ho λ_=>#[]⟩;have hkz:((h0.update D (Obj.mapSeq λ_=>(#[]:Array Value))).push (seqObj "tuple" us.toArray 0)).objs.size=h0.objs.size+1:=by
  rw[size_push',Heap.size_update]
 have nD:∀b o,s.heap.get? b=some o->b≠D:=λb o e=>JS (JQ (JI e) hDs);have keep:∀b o,s.heap.get? b=some o->(((h0.update D (Obj.mapSeq λ_=>(#[]:Array Value))).push (seqObj "tuple" us.toArray 0)).push (seqObj "list" #[] 0)).get? b=some o:=λb o e =>
  Jw _ (Jw _ ((s1.2 b (nD b o e)).trans (k0 b o e)))
 have hle:s.heap.objs.size<=h0.objs.size+1:=JC hDs (Nat.le_succ_of_le (L3 hsz0));have hkD:h0.objs.size+1≠D:=KZ (Nv hsz0);have hkS:H (h0.objs.size+1)=none:=I.aN.fresh hle;have hD:H D=none:=I.aN.fresh hDs;have hnp:∀p∈X.pn++pins,p.1≠D:=λp hp=>nD _ _ (I.pin p hp).1;have J0:Inv X pins σ (upd H (h0.objs.size+1) (.lst [])) {s with heap:=((h0.update D (Obj.mapSeq λ_=>(#[]:Array Value))).push (seqObj "tuple" us.toArray 0)).push (seqObj "list" #[] 0)}:=
  I.laid (t':=s.toks) keep hle ⟨JL _,[],0,.nil,by rw[<- hkz];exact JH _ rfl⟩
 have J:Inv X ((D,seqObj "list" #[] e1)::pins) σ (upd H (h0.objs.size+1) (.lst [])) {s with heap:=((h0.update D (Obj.mapSeq λ_=>(#[]:Array Value))).push (seqObj "tuple" us.toArray 0)).push (seqObj "list" #[] 0)}:=by
  refine J0.nM λp hp=>?_;rcases J5.mp hp with rfl|hp
  ·exact⟨Jw _ (Jw _ ho1),by rw[ar (Ko hkD)];exact hD,λz=>absurd I.lt (by rw[<- z];exact Ou.mpr hDs),I.FR hDs,λv z=>by cases z⟩
  ·exact J0.pin p (JP _ hp)
 unfold ksk_tree;refine Js (NG ho rfl ?_);refine Js (listUpdate_at ho rfl ?_ (by rw[Jy,K_];lia) (JL _))
 refine Js (seqEpoch_at ho1 rfl ?_);refine Js (wpAny_newTuple ?_ (by show us.length<=_;rw[K_];lia))
 refine Js (Nq ?_ (JL _));refine Ky ?_;show wpAny _ _ (ksk_rest D f false us.toArray e1 (.ref ((h0.update D (Obj.mapSeq λ_=>(#[]:Array Value))).push (seqObj "tuple" us.toArray 0)).objs.size)) _ _ _;rw[hkz];exact BF J hkS hD hkD (JC I.sz hDs) hnp hv hlen h64 turn λs' K=>h _ s' (.more .refl hkS) (by rw[ar (Ko hkD)];exact hD) K
end
noncomputable def Ao(q:Str)(params:Arguments)(body:Expr)(scope:Scope)(cl:List (Str×Addr)):TE:=λ_ H Q=>∀f c' pm ctv H1,dR H H1->jk H1 f q params body scope cl c' pm ctv->Q (.ref f) H1
theorem E_{c P:Addr}(hx:x∈dE)(ht:W.tabIn X.K x=some (c,P))(hcode:X.env.code=.ref c)(hq:X.env.qual=x++".<locals>."){pos:Pos}
  (hdef:defaultsOf params X.env=([],[])) (hcl:closureFor scope X.env=pure cl):PE X (.Lambda params body scope pos) (Ao ((x++".<locals>.")++"<lambda>") params body scope cl):=λpins s σ H Q I h =>
 yU I hx ht hcode hq hdef hcl λf c' pm ctv H1 s1 g J l=>⟨.ref f,H1,J,rfl,h f c' pm ctv H1 g l⟩
section
variable {X:Cx} {pins:List (Addr×Obj)} {σ:St} {H:Hp} {s:Shared} {E:Value->Shared->Prop}
noncomputable def wZ(X:Cx)(A:Around)(s:Shared)(l:Addr)(xs:List V):Prop:=∀(Q:List Value->Shared->Prop) (E:Value->Shared->Prop),(∀h0 tk us,(∀b o,s.heap.get? b=some o->h0.get? b=some o)->s.heap.objs.size<=h0.objs.size->Vals xs us->Q us {s with heap:=h0,toks:=tk})->wpAny (model X.prog X.w) A (collect (.ref l)) Q E s
theorem uR{A:Around}{l:Addr}{Q:VK}(I:Inv X pins σ H s)(hcol:wZ X A.in1 s l xs)(hlen:kz.length=xs.length)(h64:xs.length<64)
  (turn:∀(i:Nat) (v:V) (u:Value) (k:Int),xs[i]?=some v->RelV v u->kz[i]?=some k->∀pins' H' s',dR H H'->Inv X pins' σ H' s'->wpAny (model X.prog X.w) A.in1.in1 (call (.ref f) [u]) (λr s2=>(∃t,r=.int k t)/\Inv X pins' σ H' s2) (λ_ _=>False) s')
  (h:∀H' D,dR H H'->H' D=none->Q (.ref D) (upd H' D (.lst (j8 kz xs)))) :
  wpAny (model X.prog X.w) A (call (.builtin "sorted") [.ref l] [(Str.ofString "key",.ref f)]) (EP X pins σ Q) E s:=by
 refine call_function_entry_kw kind_sorted plain_sorted entry_sorted (ksk_s1 _ _) ?_;unfold Builtin.«sorted»;refine Js (m:=checkCount "sorted" 1 1 _) (Jz (Js (hcol _ _ λh0 tk us k0 hz hv=>?_)));have ul:us.length=xs.length:=hv.length.symm;refine Js (Nq ?_ (by rw[ul,K_];lia))
 have hoL:(h0.push (seqObj "list" us.toArray 0)).get? h0.objs.size=some (seqObj "list" us.toArray 0):=JH _ rfl;refine Js (Ky (wpAny_call_entry_kw slot_list_sort ⟨_,hoL,rfl⟩ entry_list_sort ?srt (ksk_l1 _ _)))
 case srt =>
  show wpAny _ A.in1.in1 (Builtin.«list.sort» ⟨[.ref h0.objs.size],[(Str.ofString "key",.ref f)]⟩) _ _ _;rw[ksk_t1];refine Bv (s:={s with toks:=tk}) (h0:=h0.push (seqObj "list" us.toArray 0)) (I.tok tk) (λb o e=>Jw _ (k0 b o e)) hz hoL hv (by rw[ul];exact hlen) (by rw[ul];exact h64)
   (λi u k hu hk pins' H' s' g J=>?_) λH' s' g n J=>⟨_,rfl,?_⟩
  ·have hi:i<xs.length:=by rw[<- ul];exact (Jv.mp hu).1
   obtain⟨u',hu',rv⟩:=hv.get (Jr hi);rw[hu] at hu';cases hu';exact turn i _ u k (Jr hi) rv hk pins' H' s' g J
  ·exact Jz ⟨_,rfl,.ref h0.objs.size,_,J,rfl,h H' _ g n⟩
noncomputable def yQ(src:Hp->Addr->List V->Prop)(pre:V->Int->Hp->St->Prop)(fr:St->St)(t:TA):TE:=λσ H Q=>t σ H λvs H1=>∃l xs kz,vs=[.ref l]/\src H1 l xs/\kz.length=xs.length/\xs.length<64 /\
 (∀(i:Nat) (v:V) (k:Int),xs[i]?=some v->kz[i]?=some k->∀H',dR H1 H'->pre v k H' (fr σ))/\∀H2 D,dR H1 H2->H2 D=none->Q (.ref D) (upd H2 D (.lst (j8 kz xs)))
theorem Ae{t:TA}{p pos kpos lpos:Pos}{k:Nat}{src:Hp->Addr->List V->Prop}{pre:V->Int->Hp->St->Prop}{fr:St->St}
  (hg:Gl X "sorted") (hm:X.mg "sorted"=none) (ha:PA X [e] t) (h1:eZ e=true) (hr:b9 (k+3) X.A) (hL:PE X (.Lambda params body scope lpos) (Ao q params body scope cl))
  (hsrc:∀pins σ H s H1 l xs A,Inv X pins σ H s->src H1 l xs->dR H1 H->A.handled=none->xs.length<64->wZ X A s l xs)
  (hk:scope.kind=.function) (hco:scope.isCoroutine=false) (hgen:scope.isGenerator=false) (hcell:∀y∈scope.names,y.2≠.cell) (hloc:scope.names.lookup x=some .local)
  (hbind:∀c' pm ctv u,bindArgs (W.kla_fn "<lambda>" q params body scope cl pm (.ref c') ctv) ⟨[u],[]⟩=pure [(x,u)])
  (hlen:∀σ:St,(fr σ).length=N.length) (hcl:∀y c,cl.lookup y=some c->X.env.cells.lookup y=some c) (hhas:∀y,(scope.names.lookup y=some .cell\/scope.names.lookup y=some .free)->∃c,cl.lookup y=some c)
  (hf:∀pins σ H s,Inv X pins σ H s->∀(i:Nat) (y:Str) (v:V),N[i]?=some y->(fr σ)[i]?=some (some v)->scope.names.lookup y=some .free/\∃c u,cl.lookup y=some c/\s.heap.IsCell c (some u)/\RelV v u)
  (hbody:∀A f c' s' H' σf v i,pre v i H' σf->∃t,PE (uu X A (x::N) q scope f (.ref c') cl s' H') body t/\t (some v::σf) H' (λw H2=>w=.int i/\H2=H')) :
  PE X (.Call (.Name "sorted" p) [e] [⟨some "key",.Lambda params body scope lpos,kpos⟩] pos) (yQ src pre fr t):=by
 intro pins s σ H Q I h;refine LH (fN I hg hm (u:=.builtin "sorted") (by decide +kernel) ?_ (by decide) (by decide))
 have hkw:PK X [⟨some "key",.Lambda params body scope lpos,kpos⟩] (jb (Ao q params body scope cl) nL):=B_ hL Ef;refine callWith_kw ?_ (by rw[df h1];rfl) (by rw[df h1];rfl) rfl rfl
 refine bR (ha pos pins s σ H _ I h) λus s1 hq1=>?_;obtain⟨vs,H1,I1,r1,q1⟩:=hq1;obtain⟨l,xs,kz,rfl,hs,hle,h64,hpre,qq⟩:=q1;obtain⟨u,rfl,ru⟩:=vals1 r1;cases ru;refine bR (hkw pos pins s1 σ H1 (λzs H2=>∃f c' pm ctv,zs=[.ref f]/\dR H1 H2/\jk H2 f ((q)) params body scope cl c' pm ctv) I1 λf c' pm ctv H2 g lm=>⟨f,c',pm,ctv,rfl,g,lm⟩) λws s2 hq2=>?_;obtain⟨zs,H2,I2,rz,f,c',pm,ctv,e1,g,lm⟩:=hq2;subst e1;obtain⟨wv,rfl,rw1⟩:=vals1 rz;cases rw1;have hr1:b9 (k+2) X.A.in1:=hr.in1;refine uR I2 (hsrc _ _ _ _ _ _ _ _ I2 hs g hr1.hd h64) hle h64 (λi v u j hv rv hj pins' H' s' g' J=>?_) λH' D g' n=>qq H' D (g.trans g') n;obtain⟨ho,eY⟩:=(lm.up λb o u e=>g'.same b _ e).get J;obtain⟨tb,hb,hq⟩:=hbody X.A.in1.in1 f c' s' H' (fr σ) v j (hpre i v j hv hj H' (g.trans g'));refine Km (xK J hr1.in1 J.ok.frames hk hco hgen hcell rv hloc ho eY (hbind c' pm ctv) (hlen σ) hcl hhas (hf _ _ _ _ J) hb hq) (λr s4 hr4=>?_) λ_ _ z=>z;obtain⟨w,H4,J4,rw4,e4,e5⟩:=hr4;subst e4 e5;exact⟨rw4,J4⟩
end
theorem ou{a:α}{l:List (Str×α)}:List.lookup x ((x,a)::l)=some a:=by rw[KL,K4]
theorem jB{y:Str}{a:α}{l:List (Str×α)}(h:y≠x):List.lookup y ((x,a)::l)=List.lookup y l:=by rw[KL,Kf.mpr h]
abbrev jS(n:Nat):List V:=(List.range n).map λk=>V.int ((k:Nat):Int)
section
variable {X:Cx} {pins:List (Addr×Obj)} {σ:St} {H:Hp} {s:Shared}
theorem pX{A:Around}{r:Addr}{n:Nat}(hh:A.handled=none)(I:Inv X pins σ H s)(hr:H r=some (.mi 0 n))(h64:n<64):wZ X A s r (jS n):=λQ E h=>by
 obtain⟨t,u,v,e⟩:=I.aN r _ hr;have hn2:Builtin.Range.rangeSize 0 (n:Int) 1=n:=by rw[rangeSize_one];split<;>lia
 have hsm:Builtin.Range.small 0 (n:Int) 1=true:=small_one (by lia) (by lia) (by lia) (by lia)
 have oS:(s.heap.push {cls:=.type "list",data:=.seq ([]:List Value).toArray}).get? s.heap.objs.size=some {cls:=.type "list",data:=.seq #[] 0}:=JH _ rfl;unfold collect;refine Js (wpAny_runValue (LM PySem.F.entry_proto_collect ?_));rw[Mb PySem.F.plain_proto_collect _];refine Js (m:=newList []) (KD (Jz ⟨Oy PySem.F.plain_list_iadd _,LM PySem.F.entry_list_iadd ?_⟩));rw[Mb PySem.F.plain_list_iadd _];show wpAny _ A.in1 (Builtin.List.listExtendWith _ _ _) _ _ _;refine wpAny_extend_range (R:=λr s'=>match r with|.ok (.ret v)=>wpAny (model X.prog X.w) A (match v with|.ref a=>do (match (<- load a).data with|.seq xs _=>pure xs.toList|_=>unsupported "internal:collect")|_=>unsupported "internal:collect") Q E s'|.ok _=>_|.error e=>E e s') (s:={s with heap:=s.heap.push {cls:=.type "list",data:=.seq ([]:List Value).toArray}}) hh (Jw _ e) hsm hn2 (by lia) s.heap.objs.size (.ref s.heap.objs.size) 0 oS λh' tk acc c' hk hS hI=>?_
 refine Js (m:=load s.heap.objs.size) (wpAny_load hS (Jz (h h' tk acc.toList (λb o e=>hk b o (JS (JI e)) (Jw _ e)) (L3 (JI hS)) ?_)));have hv:=Y.gy (lo:=0) n acc.toList 0 (by simpa using hI.1) λj v e=>by
  obtain⟨t,e2⟩:=hI.2 j v (by simpa using e)
  exact⟨t,by rw[e2];simp⟩
 show Vals ((List.range n).map λk=>V.int ((k:Nat):Int)) acc.toList;rw[MQ]
 simpa using hv
end
theorem bb.same{H':Hp}{a:Addr}(g:zk H H')(h:bb K H a xs):bb K H' a xs:=by
 rcases h with (h|⟨o,h⟩)|h
 ·exact .inl (.inl (g _ _ h))
 ·exact .inl (.inr ⟨o,g _ _ h⟩)
 ·exact .inr h
noncomputable def Jb(j:Nat)(σ:St):St:=[(σ[j]?).getD none]
noncomputable def lE(K:W.Frag)(j:Nat)(t:TA):TE:=yQ (λH l xs=>∃n:Nat,H l=some (.mi 0 n)/\xs=jS n) (λv k H' σf=>∃i q ls,v=.int i/\σf=[some (.ref q)]/\bb K H' q ls/\bX ls i=some (.int k)) (Jb j) t
theorem yO{t:TA}{p pos kpos lpos p1 p2 p3:Pos}{y:Str}{c:Addr}{j:Nat}{k:Nat}(hg:Gl X "sorted")(hm:X.mg "sorted"=none)(ha:PA X [e] t)(h1:eZ e=true)(hr:b9 (k+3) X.A)
  (hL:PE X (.Lambda params (.Subscript (.Name y p1) (.Name x p2) p3) scope lpos) (Ao q params (.Subscript (.Name y p1) (.Name x p2) p3) scope [(y,c)]))
  (hsc:scope={kind:=.function,names:=[(x,.local),(y,.free)],isGenerator:=false,isCoroutine:=false,more:=[]}) (hxy:y≠x) (hx1:(x ==("__debug__":Str))=false) (hx2:(x ==("__classdict__":Str))=false) (hy1:(y ==("__debug__":Str))=false) (hy2:(y ==("__classdict__":Str))=false)
  (hj:X.N[j]?=some y) (hyc:X.env.scope.names.lookup y=some .cell) (hyl:X.env.cells.lookup y=some c)
  (hbind:∀c' pm ctv u,bindArgs (W.kla_fn "<lambda>" q params (.Subscript (.Name y p1) (.Name x p2) p3) scope [(y,c)] pm (.ref c') ctv) ⟨[u],[]⟩=pure [(x,u)]) :
  PE X (.Call (.Name "sorted" p) [e] [⟨some "key",.Lambda params (.Subscript (.Name y p1) (.Name x p2) p3) scope lpos,kpos⟩] pos) (lE X.K j t):=by
 subst hsc;have lx:List.lookup x [(x,NameKind.local),(y,NameKind.free)]=some .local:=ou;have ly:List.lookup y [(x,NameKind.local),(y,NameKind.free)]=some .free:=by rw[jB hxy,ou]
 have lz:∀z,z≠x->z≠y->List.lookup z [(x,NameKind.local),(y,NameKind.free)]=none:=λz h1 h2=>by rw[jB h1,jB h2];rfl
 have lc:List.lookup y [(y,c)]=some c:=ou;have lcz:∀z d,List.lookup z [(y,c)]=some d->z=y/\d=c:=λz d e=>by
  by_cases h:z=y
  ·rw[h,lc] at e;cases e;exact⟨h,rfl⟩
  ·rw[jB h] at e;cases e
 refine Ae (N:=[y]) hg hm ha h1 hr hL (λpins σ H s H1 l xs A I hs g hh h64=>?_) rfl rfl rfl (λz hz=>?_) lx hbind (λ_=>rfl) (λz d e=>?_) (λz hz=>?_) (λpins σ H s I i z v e1 e2=>?_) λA f c' s' H' σf v i hp=>?_
 ·obtain⟨n,hs,rfl⟩:=hs;rw[Jt,Kx] at h64;exact pX hh I (g.same _ _ hs) h64
 ·rcases J5.mp hz with rfl|hz
  ·nofun
  ·rw[JG.mp hz];nofun
 ·obtain⟨rfl,rfl⟩:=lcz z d e;exact hyl
 ·by_cases z1:z=x
  ·have hz':List.lookup z [(x,NameKind.local),(y,NameKind.free)]=some .cell\/List.lookup z [(x,NameKind.local),(y,NameKind.free)]=some .free:=hz;rw[z1,lx] at hz';rcases hz' with h|h<;>cases h
  ·by_cases z2:z=y
   ·rw[z2];exact⟨c,lc⟩
   ·have hz':List.lookup z [(x,NameKind.local),(y,NameKind.free)]=some .cell\/List.lookup z [(x,NameKind.local),(y,NameKind.free)]=some .free:=hz;rw[lz z z1 z2] at hz';rcases hz' with h|h<;>cases h
 ·cases i with
  |succ i=>cases e1
  |zero =>
   have e1':some y=some z:=e1;cases e1';have e2':some ((σ[j]?).getD none)=some (some v):=e2;have e3:σ[j]?=some (some v):=by
    cases hσ:σ[j]? with
    |none=>rw[hσ] at e2';cases e2'
    |some o=>rw[hσ] at e2';exact e2'
   obtain⟨m,_,hl⟩:=I.loc;obtain⟨u,rv,lk⟩:=hl j y v hj e3 (.inr (.inl hyc));refine⟨ly,c,u,lc,?_,rv⟩;rcases lk with ⟨z,_⟩|⟨_,d,z1,z2⟩
   ·have z':X.env.scope.names.lookup y=some .local:=z;rw[hyc] at z';cases z'
   ·rw[hyl] at z1;cases z1;exact z2
 ·obtain⟨ix,a,ls,rfl,rfl,hq,ha'⟩:=hp;refine⟨_,Cy rM (pv 1 rfl (.inr (.inr ly)) hy1 hy2) (pv 0 rfl (.inl lx) hx1 hx2) (Z.IZ rfl),?_⟩;exact⟨_,rfl,_,rfl,a,ls,ix,.int i,rfl,rfl,hq,ha',rfl,rfl⟩
theorem Av{β:Type}{g:α->β}{ks:List Int}{l:List α}:j8 ks (l.map g)=(j8 ks l).map g:=by
 have p:∀l:List α,Paired (λa b=>b=g a) l (l.map g):=λl=>by
  induction l with
  |nil=>exact .nil
  |cons a l ih=>exact .cons rfl ih
 have q:∀{l:List α} {m:List β},Paired (λa b=>b=g a) l m->m=l.map g:=λ{l m} h=>by
  induction h with
  |nil=>rfl
  |cons r _ ih=>rw[r,ih];rfl
 exact q (uf (p l))
structure s_ (K:W.Frag) (mg:Str->Option Value) (x:Str):Prop where
 ex:∃c P,W.tabIn K x=some (c,P)/\∀f cdv,Fn K mg x f cdv->cdv=.ref c
theorem pw{c P:Addr}{oc oc':Value}{od od':Option Addr}{sl sl':Array (Option Value)}{fd:FuncData}{vs:Array Value}(a:W.nsIn K mainGlobals x=some (some (.ref f)))(l:K.lookup f=some ⟨oc,od,.func fd,sl⟩)(hc:fd.code=.ref c)
  (lc:K.lookup c=some ⟨oc',od',.fields vs,sl'⟩) (hv:vs[11]?=some (.ref P)):W.tabIn K x=some (c,P):=by
 unfold W.tabIn;rw[a];dsimp only;rw[l];dsimp only;rw[hc];dsimp only;rw[lc];dsimp only;rw[hv]
theorem kA(a:W.nsIn K mainGlobals x=some none):W.tabIn K x=none:=by
 unfold W.tabIn;rw[a]
theorem s_.mk'{mg:Str->Option Value}{c P:Addr}(X:K.In h)(G:h.Ns mainGlobals mg)(ht:W.tabIn K x=some (c,P)):s_ K mg x:=
 ⟨c,P,ht,λf cdv ⟨m,o,fd,lk,hd,e⟩=>by rw[<- e];exact W.law_code X G ht m (X _ _ lk) hd⟩
theorem iu.of{q:Program}{o1 o2 o3:Option (Addr×Addr)}(nt:W.noTabs K=true)(t1:W.tabIn K "by_worth"=o1)(t2:W.tabIn K "by_weight"=o2)(t3:W.tabIn K "code_of"=o3)(nd:((o1.toList++(o2.toList++o3.toList)).map (·.2)).Nodup)
  (f1:o1=none\/((recsOf q).find? (λe=>e.name ==("by_worth":Str))).isSome=true) (f2:o2=none\/((recsOf q).find? (λe=>e.name ==("by_weight":Str))).isSome=true) (f3:o3=none\/((recsOf q).find? (λe=>e.name ==("code_of":Str))).isSome=true):iu q K:=by
 refine⟨nt,?_,λx hx=>?_⟩
 ·have e:(bO K).map (·.2.1)=(o1.toList++(o2.toList++o3.toList)).map (·.2):=by
   unfold bO dE
   cases o1<;>cases o2<;>cases o3<;>simp[List.filterMap,t1,t2,t3]
  rw[e];exact nd
 ·unfold dE at hx;rcases J5.mp hx with rfl|hx
  ·rw[t1];exact f1
  ·rcases J5.mp hx with rfl|hx
   ·rw[t2];exact f2
   ·rw[JG.mp hx,t3];exact f3
namespace Y
noncomputable def AY:V->List V->Hp->VK->Prop:=λx vs H Q=>∃z y,x=.str z/\vs=[.str y]/\z.length<=sizeLine/\Q (.str (Txt.rstripChars z y)) H
theorem mw:vk X "str.rstrip" AY:=by
 intro pins s σ H x xs v us Q I rx rs h;obtain⟨z,y,rfl,rfl,hz,q⟩:=h;obtain⟨t,rfl⟩:=rx;obtain⟨u,rfl,k,rfl⟩:=vals1 rs;exact SC.rstripChars (λt' k=>⟨.str _,H,I.tok _,⟨_,rfl⟩,q⟩) hz
noncomputable def EU:V->List V->Hp->VK->Prop:=λx vs H Q=>∃z i y,x=.str z/\vs=[.int i,.str y]/\0<=i/\i<1000/\y.length=1/\Q (.str (Txt.ljustF z i (y.cps.getD 0 0))) H
theorem qj:vk X "str.ljust" EU:=by
 intro pins s σ H x xs v us Q I rx rs h;obtain⟨z,i,y,rfl,rfl,h0,h1,hy,q⟩:=h;obtain⟨t,rfl⟩:=rx;obtain⟨u1,u2,rfl,⟨t1,rfl⟩,⟨t2,rfl⟩⟩:=vals2 rs;exact ljust_fill (padOk_of (by lia) (by lia)) hy λt' k=>⟨.str _,H,I.tok _,⟨_,rfl⟩,q⟩
end Y
theorem pq(x y:Str):(Txt.rstripChars x y).cps.toList.reverse=x.cps.toList.reverse.dropWhile y.cps.contains:=by
 have key:∀(p:Nat->Bool) (l:List Nat),(l.take (l.length-(l.reverse.takeWhile p).length)).reverse=l.reverse.dropWhile p:=λp l=>by
  have h:(l.reverse.takeWhile p).length<=l.length:=by simpa using (List.takeWhile_sublist p (l:=l.reverse)).length_le
  rw[List.reverse_take,<- tU];congr 1;lia
 have hl:x.length=x.cps.toList.length:=by rw[Kc];rfl
 rw[<- key];unfold Txt.rstripChars Txt.stripBy;split
 ·rename_i h;unfold stripSame at h;rw[Kv] at h;have h2:x.length-(x.cps.toList.reverse.takeWhile y.cps.contains).length=x.length:=by simpa[stripLo,stripHi] using h.2
  rw[<- hl,h2,hl,Kl]
 ·have e:∀(a:Array Nat) (j:Nat),(a.extract 0 j).toList=a.toList.take j:=λa j=>by simp
  have e2:=e x.cps (x.length-(x.cps.toList.reverse.takeWhile y.cps.contains).length);rw[hl] at e2;exact Kk List.reverse e2
namespace Y
noncomputable def Gm:R2:=λx y H Q=>∃(c:Nat) (k:Int),x=.str ⟨#[c]⟩/\y=.int k/\0<=k/\k<=1000/\Q (.str ⟨(List.replicate k.toNat c).toArray⟩) H
theorem uj:cB X (binaryOp .Mult) Gm:=by
 intro pins s σ H x y v u Q I rx ry h;obtain⟨c,k,rfl,rfl,h0,h1,q⟩:=h;obtain⟨t,rfl⟩:=rx;obtain⟨t2,rfl⟩:=ry;have e:Txt.mul ⟨#[c]⟩ k=⟨(List.replicate k.toNat c).toArray⟩:=by
  have:=mul_one_list c k
  cases hz:Txt.mul ⟨#[c]⟩ k with
  |mk a=>rw[hz] at this;rw[<- this,Mg]
 have ok:MulOk ⟨#[c]⟩ k:=by
  refine⟨by simp only[Bool.or_eq_false_iff,decide_eq_false_iff_not];lia,λz _=>?_,λz _=>?_⟩
  ·have hl:((⟨#[c]⟩:Str).length:Int)=1:=rfl;rw[hl];have:1<=(2^63-1) / k:=by
    rw[N_ (by lia)];lia
   lia
  ·have hl:(⟨#[c]⟩:Str).length=1:=rfl;rw[hl,Nat.one_mul];exact JV (Ou.mpr (JC (show k.toNat<=1000 by lia) (by decide)))
 exact SB.mul ok λt' j=>⟨.str _,H,I.tok _,⟨t',by rw[e]⟩,q⟩
noncomputable def yd(K:W.Frag):List V->Hp->VK->Prop:=λxs H Q=>Ct K xs H Q\/∃p ns,xs=[.ref p]/\bB K H p (ns.map V.int)/\ns.length<64/\∀ns':List Int,ns'.Perm ns->ns'.Pairwise (·<=·)->∀l,H l=none->Q (.ref l) (upd H l (.lst (ns'.map V.int)))
theorem sk(K:W.Frag)(hK:X.K=K):a_ X (.builtin "sorted") (yd K):=by
 refine (uE K hK).or ?_;subst hK;intro pins s σ H xs us Q I r h;obtain⟨p,ns,rfl,hq,h64,q⟩:=h;obtain⟨u,rfl,ru⟩:=vals1 r;cases ru;obtain⟨its,rv,pl,hz⟩:=I.list hq;have hi:=intsAre_of rv;refine sorted_ints pl.isList hi (by rw[jF hi];exact h64) λout ns' a1 a2 a3=>?_
 obtain⟨e,he⟩:=sortedAll_at s.heap its out;refine⟨.ref (s.heap.objs.size+1),_,I.laid (t':=s.toks) (λb ob q=>sortedAll_old q) (Lg _) (show bA X.prog X.w _ _ _ (.lst (ns'.map V.int)) from⟨?_,out.toList,e,e_ a1,by simpa using he⟩),rfl,q ns' a2 a3 _ (I.aN.fresh (Lg _))⟩
 rw[Jt,a2.length_eq];exact JC (L3 h64) (by decide)
noncomputable def FH:V->List V->Hp->VK->Prop:=λx vs H Q=>∃a:Int,x=.int a/\vs=[]/\Q (.int (Builtin.Int.intBits a:Nat)) H
theorem t6:vk X "int.bit_length" FH:=by
 intro pins s σ H x xs v us Q I rx rs h;obtain⟨a,rfl,rfl,q⟩:=h;obtain⟨t,rfl⟩:=rx;obtain rfl:=Paired.vz rs;exact call_int_bit_length ⟨.int _,H,I.tok _,⟨_,rfl⟩,q⟩
end Y
noncomputable def iY(h:Heap)(d:Addr)(es:Array DictEntry)(ep:Nat):Prop:=∃o,h.get? d=some o/\o.ExactDict/\o.data=.dict es ep
section
variable {prog:Program} {w:World} {A:Around} {E:Value->Shared->Prop} {s:Shared}
theorem iY.ty(x:iY s.heap d es ep):s.TypeIs (.ref d) "dict":=let ⟨o,ho,hc,_⟩:=x;⟨o,ho,hc.1⟩
theorem iY.keep(x:iY h d es ep)(k:∀o,h.get? d=some o->h'.get? d=some o):iY h' d es ep:=let ⟨o,ho,r⟩:=x;⟨o,k _ ho,r⟩
theorem iY.lt(x:iY h d es ep):d<h.objs.size:=let ⟨_,ho,_⟩:=x;JI ho
theorem Br(low:(d == sysModules)=false)(x:iY s.heap d es ep)
  (q:Q (.ref s.heap.objs.size) {s with heap:=s.heap.push {cls:=.type "dict_keyiterator",data:=.fields #[.ref d,.int 0 0,.int es.size 0,.int ep 0]}}):wpAny (model prog w) A (pyIter (.ref d)) Q E s:=by
 obtain⟨o,ho,hx,hdat⟩:=id x;refine wpAny_pyIter_slot x.ty PySem.F.slot_dict_iter (K6 PySem.F.slot_dict_iter x.ty PySem.F.entry_dict_iter ?_ (PySem.F.args_dict_iter_1 _));unfold Builtin.«dict.__iter__» Builtin.Dict.dictSlotNone;refine Js (Js (wpAny_notOrdered_dict x.ty ?_));show wpAny _ _ (pure (Value.ref d)) _ _ s;refine Jz ?_;show wpAny _ _ (Builtin.Dict.showsAll d >>= _) _ _ s;unfold Builtin.Dict.showsAll;rw[low,Jx JE];refine Js (Jz (Js (M3 ho hdat (Js (NR ho hdat ?_)))));exact Js (KD (Jz ⟨_,rfl,"dict_keyiterator",_,⟨_,JH _ rfl,rfl⟩,PySem.F.slot_dict_keyiterator_next.lookup,q⟩))
theorem BL{it:Addr}{Q:Option Value->Shared->Prop}(hit:s.heap.IsKeyIter it d i es.size ep)(x:iY s.heap d es ep)(hi:i<es.size)
  (q:∀h',h'.IsKeyIter it d (i+1) es.size ep->Heap.SameBut it s.heap h'->Q (some es[i].key) {s with heap:=h'}):wpAny (model prog w) A (pyNext (.ref it)) Q E s:=by
 obtain⟨o,ho,hc,hd⟩:=id hit;obtain⟨od,hod,hx,hdd⟩:=id x;unfold pyNext;refine Js (Mi (Kp (name:=Str.ofString "__next__") hit.typeIs PySem.F.slot_dict_keyiterator_next (K6 PySem.F.slot_dict_keyiterator_next hit.typeIs PySem.F.entry_dict_keyiterator_next ?_ (PySem.F.args_dict_keyiterator_next_1 _))));refine Js (Jz (Js (Js ?_)))
 first|refine Js (Ln hit.typeIs (Jz (Js (Nc ho hd ?_))))|refine Js (L6 hit.typeIs (Jz (Js (Nc ho hd ?_))))
 simp only[show Builtin.Dict_items.ownsTuple "dict_keyiterator"=false by decide,Mp,Ma]
 show wpAny _ _ (if (Value.ref d == Value.none)=true then _ else _) _ _ s;rw[Jx (show ¬ ((Value.ref d == Value.none)=true) from JE)]
 refine Js (Jz (Js (M3 hod hdd ?_)));rw[Jx (by simp)]
 refine Js (Jz (Js (NR hod hdd ?_)));rw[Jx (by simp)]
 refine Jz ?_;simp only[show ¬ ((i:Int)<0) by lia,Ma,Kg,Ly hi]
 refine Js ?_
 first|refine Js (Ln hit.typeIs (Jz (Js (MH hit.typeIs ?_))))|refine Js (L6 hit.typeIs (Jz (Js (MH hit.typeIs ?_))))
 show wpAny _ _ (setField (.ref it) 1 (rawInt ((i:Int)+1)) >>= _) _ _ s;refine Js (Mx ho hd (by simp) ?_)
 have h2:(s.heap.update it (Obj.mapFields (·.setIfInBounds 1 (rawInt ((i:Int)+1))))).IsKeyIter it d (i+1) es.size ep:=⟨_,Lv _ ho (ME (LK hd _)),(Obj.cls_mapFields ..).trans hc,by rw[LK hd];simp[rawInt]⟩
 refine Js (Ky (Js (MH (s:={s with heap:=s.heap.update it (Obj.mapFields (·.setIfInBounds 1 (rawInt ((i:Int)+1))))}) h2.typeIs ?_)))
 show wpAny _ _ (pure es[i].key) _ _ _;exact Jz (Jz ⟨_,rfl,Jz (q _ h2 (KG ..))⟩)
theorem A5{it:Addr}{Q:Option Value->Shared->Prop}(hh:A.handled=none)(hit:s.heap.IsKeyIter it d es.size es.size ep)(x:iY s.heap d es ep)
  (q:∀h',Heap.ExtBut it s.heap h'->Q none {s with heap:=h'}):wpAny (model prog w) A (pyNext (.ref it)) Q E s:=by
 obtain⟨o,ho,hc,hd⟩:=id hit;obtain⟨od,hod,hx,hdd⟩:=id x;unfold pyNext;refine Js (Mi (Kp (name:=Str.ofString "__next__") hit.typeIs PySem.F.slot_dict_keyiterator_next (K6 PySem.F.slot_dict_keyiterator_next hit.typeIs PySem.F.entry_dict_keyiterator_next ?_ (PySem.F.args_dict_keyiterator_next_1 _))));refine Js (Jz (Js (Js ?_)))
 first|refine Js (Ln hit.typeIs (Jz (Js (Nc ho hd ?_))))|refine Js (L6 hit.typeIs (Jz (Js (Nc ho hd ?_))))
 simp only[show Builtin.Dict_items.ownsTuple "dict_keyiterator"=false by decide,Mp,Ma]
 show wpAny _ _ (if (Value.ref d == Value.none)=true then _ else _) _ _ s;rw[Jx (show ¬ ((Value.ref d == Value.none)=true) from JE)]
 refine Js (Jz (Js (M3 hod hdd ?_)));rw[Jx (by simp)]
 refine Js (Jz (Js (NR hod hdd ?_)));rw[Jx (by simp)]
 refine Jz ?_;simp only[show ¬ ((es.size:Int)<0) by lia,Ma,Kg,Oa (J7 es.size)]
 refine Js ?_
 first|refine Js (Ln hit.typeIs (Jz ?_))|refine Js (L6 hit.typeIs (Jz ?_))
 show wpAny _ _ (setField (.ref it) 0 .none >>= _) _ _ s;refine Js (Mx ho hd (by simp) ?_)
 show wpAny _ _ (newExc (.type "StopIteration") [] >>= _) _ _ _;refine Js ?_;simp only[newExc,newTuple];refine Js (KD ?_ (by size_fits))
 refine Js (m:=firstArgMember _ _) (wpAny_of_eq (a:=Value.none) (by first|rfl | (simp only[firstArgMember];rfl)) (KD ?_ (by size_fits)))
 simp only[raiseNew];refine Js (wpAny_handled ?_);rw[show A.in1.handled=none from hh];refine Js (Jz (wpAny_throw ?_));refine Js (wpAny_isInstance (T:="StopIteration") (b:=true) ⟨_,JH _ rfl,rfl⟩ isSubtype_stop ?_);exact Jz (q _ (((KG ..).extBut.push _).push _))
end
theorem xM{w:World}{A:Around}(hh:A.handled=none)(I d:Addr)(ne:d≠I)(es:Array DictEntry)(ep:Nat):
  Walks prog w A I [I,d] [I] es.size (λi v=>∃h:i<es.size,v=es[i].key) (λi h=>h.IsKeyIter I d i es.size ep/\iY h d es ep) where
 sub:=λb hb=>by simp at hb;simp[hb]
 frame:=λ_ _ _ st hk=>⟨st.1.at λo e=>hk I (by simp) o e,st.2.keep λo e=>hk d (by simp) o e⟩
 item:=λi s Q E hi st hQ=>BL st.1 st.2 hi λh' a b=>hQ _ h' s.toks ⟨hi,rfl⟩ ⟨a,st.2.keep λo e=>b.extBut _ _ ne e⟩ λc o hc e=>b.extBut c o (λh=>hc (by simp[h])) e
 done:=λs Q E st hQ=>A5 hh st.1 st.2 λh' he=>hQ h' s.toks λc o hc e=>he c o (λh=>hc (by simp[h])) e
 self:=λ_ _ _ _ st hQ=>wpAny_pyIter_keyiter st.1 hQ
theorem EK{w:World}(low:(d == sysModules)=false):W.KdlSrc prog w "dict" d d es.size (λi v=>∃h:i<es.size,v=es[i].key) (λh=>iY h d es ep) where
 type:=λ_ x=>x.ty
 there:=λ_ x=>⟨x.lt,x.lt⟩
 keep:=λ_ _ x k=>x.keep λo e=>k d (.inl rfl) o e
 notList:=by decide
 notTuple:=by decide
 hint:=λ_ _ _ _ x q=>W.kdl_hint_dict x.ty q
 iter:=λ_ _ hh x=>⟨_,_,(λ_ _ q=>Br low x q),xM hh _ d (JS x.lt) es ep,⟨⟨_,JH _ rfl,rfl,rfl⟩,x.keep λ_ e=>Jw _ e⟩⟩
theorem zX{es:List DictEntry}(h:KTD.Rows (xc K) es D):es.length=D.length:=by
 induction h with
 |nil=>rfl
 |cons _ _ _ ih=>simp[ih]
theorem yJ{es:List DictEntry}(h:KTD.Rows (xc K) es D):Vals (D.map λp=>V.str p.1) (es.map λe=>e.key):=by
 induction h with
 |nil=>exact .nil
 |cons e _ _ ih=>exact .cons ⟨_,e⟩ ih
noncomputable def DW(K:W.Frag)(D:List (Str×List Str)):List V->Hp->VK->Prop:=λxs H Q=>∃d,xs=[.ref d]/\jL K d D/\D.length<=sizeLine/\∀l,H l=none->Q (.ref l) (upd H l (.lst (D.map λp=>V.str p.1)))
theorem lC(K:W.Frag)(hK:X.K=K)(hc:X.calm=true):a_ X (.type "list") (DW K D):=by
 intro pins s σ H xs us Q I r h;subst hK;obtain⟨d,rfl,hd,hz,q⟩:=h;obtain⟨u,rfl,rx⟩:=vals1 r;cases rx;obtain⟨o,es,ep,ho,hx,hdat,hr⟩:=hd.ex;have at0:iY s.heap d es ep:=⟨o,I.iA _ _ ho,hx,hdat⟩;have hl:es.size=D.length:=by rw[<- zX hr,Kc]
 refine W.kdl_call (EK hd.low) (I.ok.hd hc) at0 (by rw[hl];exact hz) λh' tk acc c' hk hS hI=>?_
 have hv:Vals (D.map λp=>V.str p.1) acc.toList:=by
  have e:acc.toList=es.toList.map λe=>e.key:=by
   refine Ny λj=>?_;rw[JZ,JA,JZ]
   cases z:acc[j]? with
   |none =>
    have:acc.size<=j:=Nr.mp z;rw[Oa (by rw[<- hI.1];exact this)];rfl
   |some v =>
    obtain⟨hj,rfl⟩:=hI.2 j v z;rw[Ly hj];rfl
  rw[e];exact yJ hr
 refine⟨.ref s.heap.objs.size,_,I.laid (t':=tk) hk (J7 _) (show bA X.prog X.w _ h' _ (.lst _) from⟨?_,acc.toList,c',hv,by simpa using hS⟩),rfl,q _ (I.aN.fresh (J7 _))⟩
 rw[Jt];exact hz
section
variable {K:W.Frag} {g:TG} {tb:TS} {D:Ends} {σ:St} {H:Hp} {te:TE} {Q:VK}
theorem gK{a:Addr}(hn:xs.length<=sizeLine)(Pv:Addr->Nat->List V->Hp->Prop)(h0:∀D,H D=none->Pv D 0 [] (upd H D (.lst [])))(hD:∀D i ys H',Pv D i ys H'->H' D=some (.lst ys)/\ys.length=i)
  (hl:∀D i ys H',Pv D i ys H'->bB K H' a xs)
  (hs:∀D i ys H' x (R:VK),xs[i]?=some x->Pv D i ys H'->(∀v H5,H5 D=some (.lst ys)->Pv D (i+1) (ys++[v]) (upd H5 D (.lst (ys++[v])))->R v H5)->te (some x::σ) H' R) (hd:∀D ys H',Pv D xs.length ys H'->Q (.ref D) H') :
  mS (we K a) 1 (aZ 0) f9 te Q σ H:=by
 intro D hD0;refine⟨λi m ys σ' H'=>m=xs.length-i/\i<=xs.length/\Pv D i ys H'/\∃o,σ'=o::σ,⟨xs.length,by simp,JL _,h0 D hD0,none,rfl⟩,?_⟩
 rintro i m ys σ' H' ⟨rfl,hi,p,o,rfl⟩;obtain⟨hDi,hly⟩:=hD _ _ _ _ p;have q:=hl _ _ _ _ p;refine⟨hDi,?_⟩;by_cases hlt:i<xs.length
 ·refine .inr ⟨⟨xs,xs[i],q,by simp[hlt]⟩,by lia,λx H2 y=>?_⟩
  obtain⟨rfl,y⟩:=y;unfold aZ f9;dsimp only;rw[if_pos rfl];exact hs D i ys H2 x _ (y xs q) p λv H5 q1 q2=>⟨q1,xs.length-(i+1),by lia,rfl,hlt,q2,_,rfl⟩
 ·have e:i=xs.length:=by lia
  subst e;exact .inl ⟨⟨xs,q,J7 _⟩,hd D ys H' p⟩
end
noncomputable def but(B:mR)(a:Addr):mR:=λb=>B b/\b≠a
noncomputable def H_(K:W.Frag)(mg:Str->Option Value)(x:Str):Prop:=∃p o,mg x=some (.ref p)/\K.lookup p=some o/\o.dict=none
open Builtin Builtin.Str
open PySem PySem.Spec PyProof PyProof.Rows
open Builtin Builtin.Str
open PySem PySem.Spec PyProof PyProof.Rows
section
variable {prog:Program} {w:World} {A:Around} {E:Value->Shared->Prop} {s:Shared}
theorem vt(a v:Value):checkTypeCall "enumerate" ⟨[a],[(Str.ofString "start",v)]⟩=pure ():=by kernel_rfl
end
open PySem PySem.Spec PyProof PyProof.Rows PySem.W
open PySem PySem.Calls PySem.NumText PySem.Spec PyProof PyProof.Rows
variable{cs:List Nat}{E Q:Value->Shared->Prop}{x:Str}{P prog:Program}{w:World}{X:Cx}{i:Nat}{base h h':Heap}{xs:Array Value}{β:Type}{K:W.Frag}{es ifs:List Expr}{C a f:Addr}{σ:St}{H:Hp}{apos p:Pos}{fd:FuncData}{sp:Sp}{e iter:Expr}{st:Stmt}{osc scope:Scope}{mg:Str->Option Value}{N ON own:List Str}
noncomputable def lb(cs:List Nat):Nat:=cs.foldl (λa c=>a*2+(c-48)) 0
noncomputable def d8(cs:List Nat):Prop:=∀c∈cs,c=48\/c=49
theorem Hx{c:Nat}(h:c=48\/c=49)(ds:Array Nat)(b:Bool):step 2 (ds,b) c=some (ds.push (c-48),true):=by
 rcases h with rfl|rfl<;>rfl
theorem CG:∀(cs:List Nat) (ds:Array Nat) (b:Bool),d8 cs->∃ds':Array Nat,cs.foldlM (step 2) (ds,b)=some (ds',b || !cs.isEmpty)/\ds'.foldl (λa d=>a*2+d) 0=cs.foldl (λa c=>a*2+(c-48)) (ds.foldl (λa d=>a*2+d) 0)
 |[],ds,b,_=>⟨ds,by simp,rfl⟩
 |c::cs,ds,b,h=>by
  obtain⟨ds',e1,e2⟩:=CG cs (ds.push (c-48)) true λx hx=>h x (J8 _ hx);refine⟨ds',?_,?_⟩
  ·rw[List.foldlM_cons,Hx (h c J9)];show cs.foldlM (step 2) (ds.push (c-48),true)=_;rw[e1];simp
  ·rw[e2,Array.foldl_push,MK]
theorem vh{c:Nat}(h:c=48\/c=49):blank c=false:=by rcases h with rfl|rfl<;>rfl
theorem p5(h:d8 cs):cs.dropWhile blank=cs:=by
 cases cs with
 |nil=>rfl
 |cons c cs=>rw[Ml,vh (h c J9)];rfl
theorem xQ(h:d8 cs):sign cs=(false,cs):=by
 cases cs with
 |nil=>rfl
 |cons c cs=>rcases h c J9 with rfl|rfl<;>rfl
theorem uN(h:d8 cs):based 2 cs=(2,false,cs):=by
 have e:PySem.NumText.prefix? cs=none:=by
  rcases cs with _|⟨c,_|⟨d,cs⟩⟩
  ·rfl
  ·rcases h c J9 with rfl|rfl<;>rfl
  ·rcases h c J9 with rfl|rfl
   ·rcases h d (J8 _ J9) with rfl|rfl<;>rfl
   ·rfl
 unfold based;rw[e];rfl
theorem xo{cs:List Nat}(h:d8 cs)(h0:cs≠[]):(int_private% "readNumeral") 0 2 cs=(int_private% "Numeral.value") (lb cs:Int):=by
 rw[readNumeral_eq,p5 h,xQ h];show judge 0 false (based 2 cs).1 (based 2 cs).2.1 (digits? (based 2 cs).1 (((based 2 cs).2.2.reverse.dropWhile blank).reverse))=_;rw[uN h];show judge 0 false 2 false (digits? 2 ((cs.reverse.dropWhile blank).reverse))=_;rw[p5 (cs:=cs.reverse) (λc hc=>h c (Lp.mp hc)),Md];obtain⟨ds,e1,e2⟩:=CG cs #[] false h;have e3:digits? 2 cs=some ds:=by
  unfold digits?;rw[e1]
  cases cs with
  |nil=>exact absurd rfl h0
  |cons=>rfl
 rw[e3];show (int_private% "Numeral.value") ((ds.foldl (λacc d=>acc*2+d) 0:Nat):Int)=_;rw[e2];rfl
theorem oY:∀{cs:List Nat},d8 cs->cs.takeWhile (· != 0)=cs
 |[],_=>rfl
 |c::cs,h=>by
  rw[MW,show (c != 0)=true by rcases h c J9 with rfl|rfl<;>rfl,J6 rfl,oY λx hx=>h x (J8 _ hx)]
theorem yZ{M:Model}{A:Around}{s:Shared}{v:Value}{text:List Nat}{n:Int}
  (hs:(text.takeWhile (· != 0)).length<=640) (hr:(int_private% "readNumeral") 0 2 (text.takeWhile (· != 0))=(int_private% "Numeral.value") n)
  (ha:((text.takeWhile (· != 0)).length == text.length)=true) (h:Q (.int n s.toks) {s with toks:=s.toks+1}) :
  wpAny M A ((int_private% "intFromText") v text 2) Q E s:=by
 obtain⟨hp,g,d,tk,os⟩:=s
 repeat (any_goals (first
  |assumption
  | (with_reducible refine Nd (JX hs) ?_)
  | (with_reducible refine Nd (JX ha) ?_)
  |wp_step))
 all_goals (try rw[hr])
 all_goals (try dsimp only)
 repeat (any_goals (first
  |assumption
  | (with_reducible refine Nd (JX hs) ?_)
  | (with_reducible refine Nd (JX ha) ?_)
  |wp_step))
theorem pd{x:PySem.Str}{u t:Tok}(hl:x.length<=640)(hb:d8 x.cps.toList)(h0:x.cps.toList≠[]):Gives (Builtin.«int.__new__» ⟨[.type "int",.str x u,.int 2 t],[]⟩) (.int (lb x.cps.toList)):=
 .of_wp λM A E s Q h=>by
  obtain⟨hp,g,d,tk,os⟩:=s;have f1:=F.conv_sub_int;have f2:=F.madeHere_int;have f6:typeOf (.str x u)=pure (.type "str"):=rfl;have ht:x.cps.all (· < 128)=true:=by
   rw[<- Array.all_toList,Lc];intro c hc;rcases hb c hc with rfl|rfl<;>rfl
  have hs:=oY hb;have hk:=W.KIN.Hid.mk (And.intro (show (x.cps.toList.takeWhile (· != 0)).length<=640 by rw[hs];exact hl) (And.intro (show (int_private% "readNumeral") 0 2 (x.cps.toList.takeWhile (· != 0))=(int_private% "Numeral.value") (lb x.cps.toList:Int) by rw[hs];exact xo hb h0) (show ((x.cps.toList.takeWhile (· != 0)).length == x.cps.toList.length)=true by rw[hs];simp)))
  clear hs hl hb h0
  repeat (any_goals (first
   |assumption
   | ((with_reducible show wpAny _ _ ((int_private% "intFromText") _ _ _) _ _ _);(try rw[J6 ht]);refine yZ hk.out.1 hk.out.2.1 hk.out.2.2 ?_)
   |wp_step))
  all_goals first|exact⟨_,rfl,h⟩|skip
theorem jQ(a b:Value):checkTypeCall "int" ⟨[a,b],[]⟩=pure ():=by kernel_rfl
theorem lU(a b:Value):checkBuiltinCall "int.__new__" ⟨[.type "int",a,b],[]⟩=pure ():=by kernel_rfl
theorem rk{A:Around}{s:Shared}{x:PySem.Str}{u t:Tok}(hl:x.length<=640)(hb:d8 x.cps.toList)(h0:x.cps.toList≠[])(h:Q (.int (lb x.cps.toList) s.toks) {s with toks:=s.toks+1}):wpAny (model prog w) A (call (.type "int") [.str x u,.int 2 t]) Q E s:=
 O1 F.called_int F.newNe_int (jQ _ _) (lU _ _) (λobj=>F.args_object_init_3 obj _ _) F.entry_int_new (pd hl hb h0).meets (show (Made.int _).post _ s from⟨rfl,h⟩)
noncomputable def CL:List V->Hp->VK->Prop:=λxs H Q=>∃z:Str,xs=[.str z,.int 2]/\z.length<=640/\d8 z.cps.toList/\z.cps.toList≠[]/\Q (.int (lb z.cps.toList)) H
theorem mF:a_ X (.type "int") CL:=by
 intro pins s σ H xs us Q I r h;obtain⟨z,rfl,h1,h2,h3,q⟩:=h;obtain⟨u,v,rfl,⟨t,rfl⟩,⟨t',rfl⟩⟩:=vals2 r;exact rk h1 h2 h3 ⟨.int _,H,I.tok _,⟨_,rfl⟩,q⟩
abbrev Src:=Bool×Addr×Addr
variable{q:Src}
abbrev fj(h:Heap)(T:Addr)(xs:List Value):Prop:=h.get? T=some {cls:=.type "tuple",data:=.seq xs.toArray}
structure Zn (z TI TO:Addr) (S:List Src):Prop where
 zt:TI≠z/\TO≠z/\TI≠TO
 it:∀q∈S,q.2.1≠z/\q.2.1≠TI/\q.2.1≠TO
 sr:∀q∈S,q.2.2≠z/\q.2.2≠TO/\∀p∈S,q.2.2≠p.2.1
 nd:(S.map λq=>q.2.1).Nodup
noncomputable def qZ(i:Nat)(h:Heap)(q:Src):Prop:=lg q.1 h q.2.1 q.2.2 i
noncomputable def CM(h:Heap)(q:Src)(xs:Array Value):Prop:=e9 q.1 h q.2.2 xs
theorem qZ.kp(x:qZ i h q)(k:∀o,h.get? q.2.1=some o->h'.get? q.2.1=some o):qZ i h' q:=by
 obtain⟨b,it,a⟩:=q
 cases b with
 |true=>obtain⟨o,e,r⟩:=(show h.IsListIter it a i from x);exact⟨o,k o e,r⟩
 |false=>obtain⟨o,e,r⟩:=(show h.IsTupleIter it a i from x);exact⟨o,k o e,r⟩
theorem CM.kp(x:CM h q xs)(k:∀o,h.get? q.2.2=some o->h'.get? q.2.2=some o):CM h' q xs:=by
 obtain⟨b,it,a⟩:=q
 cases b with
 |true=>obtain⟨o,e,r⟩:=(show h.IsList a xs from x);exact⟨o,k o e,r⟩
 |false=>obtain⟨o,e,r⟩:=(show h.IsTuple a xs from x);exact⟨o,k o e,r⟩
noncomputable def qy(i:Nat)(h:Heap)(q:Src)(u:Value):Prop:=qZ i h q/\∃xs,CM h q xs/\xs[i]?=some u
theorem qy.kp{u:Value}(x:qy i h q u)(k:∀c o,c=q.2.1\/c=q.2.2->h.get? c=some o->h'.get? c=some o):qy i h' q u:=⟨x.1.kp λo=>k _ o (.inl rfl),let ⟨xs,a,b⟩:=x.2;⟨xs,a.kp λo=>k _ o (.inr rfl),b⟩⟩
section
variable {prog:Program} {w:World} {A:Around} {E:Value->Shared->Prop} {z TI TO:Addr} {S:List Src} {i:Nat}
noncomputable def Step(prog:Program)(w:World)(A:Around)(E:Value->Shared->Prop)(z TI TO:Addr)(S:List Src)(i:Nat)(f:Value×Nat->β->Sem (ForInStep β))(b:β):Prop:=
 ∀q∈S,∀(j:Nat) (arr:List Value) (u:Value) (s:Shared) (Q:ForInStep β->Shared->Prop),IsZip s.heap z TI TO .ellipsis->fj s.heap TO arr->arr.length<=3->qy i s.heap q u ->
  (∀h' tk,fj h' TO (arr.set j u)->qZ (i+1) h' q->(∀c o,c≠TO->c≠q.2.1->s.heap.get? c=some o->h'.get? c=some o)->h'.objs.size=s.heap.objs.size->Q (.yield b) {s with heap:=h',toks:=tk})->wpAny (model prog w) A (f (.ref q.2.1,j) b) Q E s
theorem Bb(D:Zn z TI TO S){f:Value×Nat->β->Sem (ForInStep β)}{b:β}(hf:Step prog w A E z TI TO S i f b):
  ∀(todo:List Src) (us pre old:List Value) (s:Shared) (Q:β->Shared->Prop),(∀q∈todo,q∈S)->(todo.map λq=>q.2.1).Nodup->IsZip s.heap z TI TO .ellipsis->fj s.heap TO (pre++old)->(pre++old).length<=3->old.length=todo.length->Paired (qy i s.heap) todo us ->
  (∀h' tk,IsZip h' z TI TO .ellipsis->fj h' TO (pre++us)->(∀q∈todo,qZ (i+1) h' q)->(∀c o,c≠TO->(∀q∈todo,c≠q.2.1)->s.heap.get? c=some o->h'.get? c=some o)->h'.objs.size=s.heap.objs.size->Q b {s with heap:=h',toks:=tk}) ->
  wpAny (model prog w) A (forIn ((todo.map λq=>Value.ref q.2.1).zipIdx pre.length) b f) Q E s:=by
 intro todo
 induction todo with
 |nil =>
  intro us pre old s Q _ _ hz ht _ hl dr k;obtain rfl:=Paired.vz dr;have e:old=[]:=LC.mp hl;subst e;rw[LS,List.zipIdx_nil,List.forIn_nil];exact Jz (k s.heap s.toks hz ht (λq hq=>(nomatch hq)) (λc o _ _ h=>h) rfl)
 |cons q todo ih =>
  intro us pre old s Q hm nd hz ht hn hl dr k;obtain⟨u,us,rfl,du,dr⟩:=Paired.gz dr
  cases old with
  |nil=>cases hl
  |cons o old =>
   rw[JY,KY] at nd;have hq:=hm q J9;rw[JY,NI,LJ];refine Js (hf q hq pre.length _ u s _ hz ht hn du λh1 tk t1 a1 kp sz=>?_);rw[Ol _ _ (J7 _),Lb,Nj,<- Om,<- JT] at t1;have di:=D.it q hq;have z1:IsZip h1 z TI TO .ellipsis:=kp _ _ D.zt.2.1.symm di.1.symm hz;show wpAny _ _ (forIn _ b f) _ _ _;rw[show pre.length+1=(pre++[u]).length by rw[Ju];rfl]
   refine ih us (pre++[u]) old {s with heap:=h1,toks:=tk} Q (λp hp=>hm p (J8 _ hp)) nd.2 z1 t1 (by rw[JT,Ju] at *;exact hn) (Nat.succ.inj hl) ?_ λh2 tk2 z2 t2 a2 kp2 sz2=>?_
   ·have key:∀{l:List Src} {vs:List Value},(∀p∈l,p∈q::todo)->(∀p∈l,p.2.1≠q.2.1)->Paired (qy i s.heap) l vs->Paired (qy i h1) l vs:=λ{l}=>by
     induction l with
     |nil=>intro vs _ _ h;obtain rfl:=Paired.vz h;exact .nil
     |cons p l ihl =>
      intro vs hp hne h;obtain⟨v,vs,rfl,dv,h⟩:=Paired.gz h;have hpS:=hm p (hp p J9);refine .cons (dv.kp λc o hc e=>?_) (ihl (λx hx=>hp x (J8 _ hx)) (λx hx=>hne x (J8 _ hx)) h);rcases hc with rfl|rfl
      ·exact kp _ _ (D.it p hpS).2.2 (hne p J9) e
      ·exact kp _ _ (D.sr p hpS).2.1 ((D.sr p hpS).2.2 q hq) e
    exact key (λp hp=>J8 _ hp) (λp hp e=>nd.1 (by rw[<- e];exact Lo (f:=λq:Src=>q.2.1) hp)) dr
   ·refine k h2 tk2 z2 (by rw[JT] at t2;exact t2) (λp hp=>?_) (λc o c1 c2 e=>kp2 c o c1 (λp hp=>c2 p (J8 _ hp)) (kp c o c1 (c2 q J9) e)) (sz2.trans sz)
    rcases J5.mp hp with rfl|hp
    ·exact a1.kp λo e=>kp2 _ o di.2.2 (λx hx e2=>nd.1 (by rw[e2];exact Lo (f:=λq:Src=>q.2.1) hx)) e
    ·exact a2 p hp
noncomputable def GV(prog:Program)(w:World)(A:Around)(E:Value->Shared->Prop)(z TI TO:Addr)(S:List Src)(i:Nat)(f:Value×Nat->β->Sem (ForInStep β))(b:β):Prop:=
 ∀q∈S,∀(j:Nat) (s:Shared) (Q:ForInStep β->Shared->Prop),IsZip s.heap z TI TO .ellipsis->qZ i s.heap q->(∃xs:Array Value,CM s.heap q xs/\xs.size=i) ->
  (∀h' e tk,(∀c o,c≠z->c≠q.2.1->s.heap.get? c=some o->h'.get? c=some o)->(∃o,h'.get? e=some o/\o.cls=.type "StopIteration")->E (.ref e) {s with heap:=h',toks:=tk})->wpAny (model prog w) A (f (.ref q.2.1,j) b) Q E s
theorem AH(D:Zn z TI TO S){f:Value×Nat->β->Sem (ForInStep β)}{b:β}(hf:Step prog w A E z TI TO S i f b)(he:GV prog w A E z TI TO S i f b){r:List Src}:
  ∀(a:List Src) (us pre old:List Value) (s:Shared) (Q:β->Shared->Prop),(∀p∈a++q::r,p∈S)->((a++q::r).map λq=>q.2.1).Nodup->IsZip s.heap z TI TO .ellipsis->fj s.heap TO (pre++old)->(pre++old).length<=3->a.length<old.length->Paired (qy i s.heap) a us->qZ i s.heap q->(∃xs:Array Value,CM s.heap q xs/\xs.size=i) ->
  (∀h' e tk,(∀c o,c≠z->c≠TO->(∀q∈S,c≠q.2.1)->s.heap.get? c=some o->h'.get? c=some o)->(∃o,h'.get? e=some o/\o.cls=.type "StopIteration")->E (.ref e) {s with heap:=h',toks:=tk}) ->
  wpAny (model prog w) A (forIn (((a++q::r).map λq=>Value.ref q.2.1).zipIdx pre.length) b f) Q E s:=by
 intro a
 induction a with
 |nil =>
  intro us pre old s Q hm nd hz ht hn hl dr hi hx k;have hq:=hm q J9;rw[KH,JY,NI,LJ];exact Js (he q hq _ s _ hz hi hx λh' e tk kp ho=>k h' e tk (λc o c1 _ c3 x=>kp c o c1 (c3 q hq) x) ho)
 |cons p a ih =>
  intro us pre old s Q hm nd hz ht hn hl dr hi hx k;obtain⟨u,us,rfl,du,dr⟩:=Paired.gz dr
  cases old with
  |nil=>exact absurd hl (MP _)
  |cons o old =>
   rw[KO,JY,KY] at nd;have hp:=hm p J9;rw[KO,JY,NI,LJ];refine Js (hf p hp pre.length _ u s _ hz ht hn du λh1 tk t1 a1 kp sz=>?_);rw[Ol _ _ (J7 _),Lb,Nj,<- Om,<- JT] at t1;have z1:IsZip h1 z TI TO .ellipsis:=kp _ _ D.zt.2.1.symm (D.it p hp).1.symm hz;have ne:∀x∈a++q::r,x.2.1≠p.2.1:=λx hx e=>nd.1 (by rw[<- e];exact Lo (f:=λq:Src=>q.2.1) hx)
   have up:∀x∈a++q::r,∀c o,c=x.2.1\/c=x.2.2->s.heap.get? c=some o->h1.get? c=some o:=λx hx c o hc e=>by
    have hxS:=hm x (J8 _ hx);rcases hc with rfl|rfl
    ·exact kp _ _ (D.it x hxS).2.2 (ne x hx) e
    ·exact kp _ _ (D.sr x hxS).2.1 ((D.sr x hxS).2.2 p hp) e
   have hqm:q∈a++q::r:=JP _ J9;show wpAny _ _ (forIn _ b f) _ _ _;rw[show pre.length+1=(pre++[u]).length by rw[Ju];rfl]
   refine ih us (pre++[u]) old {s with heap:=h1,toks:=tk} Q (λx hx=>hm x (J8 _ hx)) nd.2 z1 t1 (by rw[JT,Ju] at *;exact hn) (Nat.lt_of_succ_lt_succ hl) ?_ (hi.kp λo=>up q hqm _ o (.inl rfl)) (let ⟨xs,x1,x2⟩:=hx;⟨xs,x1.kp λo=>up q hqm _ o (.inr rfl),x2⟩) λh2 e tk2 kp2 ho=>k h2 e tk2 (λc o c1 c2 c3 x=>kp2 c o c1 c2 c3 (kp c o c2 (c3 p hp) x)) ho
   have key:∀{l:List Src} {vs:List Value},(∀x∈l,x∈a)->Paired (qy i s.heap) l vs->Paired (qy i h1) l vs:=λ{l}=>by
    induction l with
    |nil=>intro vs _ h;obtain rfl:=Paired.vz h;exact .nil
    |cons y l ihl =>
     intro vs hy h;obtain⟨v,vs,rfl,dv,h⟩:=Paired.gz h;exact .cons (dv.kp (up y (KP _ (hy y J9)))) (ihl (λx hx=>hy x (J8 _ hx)) h)
   exact key (λx h=>h) dr
theorem AU(D:Zn z TI TO S){f:Value×Nat->β->Sem (ForInStep β)}{b:β}(hf:Step prog w A E z TI TO S i f b)(he:GV prog w A E z TI TO S i f b){old:List Value}{s:Shared}{Q:β->Shared->Prop}(hz:IsZip s.heap z TI TO .ellipsis)(ht:fj s.heap TO old)(hn:old.length<=3)(hl:old.length=S.length)
  (hh:(∃us,Paired (qy i s.heap) S us/\∀h' tk,IsZip h' z TI TO .ellipsis->fj h' TO us->(∀q∈S,qZ (i+1) h' q)->(∀c o,c≠TO->(∀q∈S,c≠q.2.1)->s.heap.get? c=some o->h'.get? c=some o)->h'.objs.size=s.heap.objs.size->Q b {s with heap:=h',toks:=tk}) \/
   ∃a q r us,S=a++q::r/\Paired (qy i s.heap) a us/\qZ i s.heap q/\(∃xs:Array Value,CM s.heap q xs/\xs.size=i)/\∀h' e tk,(∀c o,c≠z->c≠TO->(∀q∈S,c≠q.2.1)->s.heap.get? c=some o->h'.get? c=some o)->(∃o,h'.get? e=some o/\o.cls=.type "StopIteration")->E (.ref e) {s with heap:=h',toks:=tk}) :
  wpAny (model prog w) A (forIn ((S.map λq=>Value.ref q.2.1).zipIdx) b f) Q E s:=by
 rcases hh with ⟨us,dr,k⟩|⟨a,q,r,us,rfl,dr,hi,hx,k⟩
 ·exact Bb D hf S us [] old s Q (λq h=>h) D.nd hz ht hn hl dr k
 ·exact AH D hf he a us [] old s Q (λq h=>h) D.nd hz ht hn (by rw[show old.length=_ from hl,Ju,JD];lia) dr hi hx k
theorem GC{s:Shared}{T:Addr}{xs:List Value}{x:Value}{k:Nat}{Q:Unit->Shared->Prop}(hT:fj s.heap T xs)(hn:xs.length<=3)
  (h:∀h',fj h' T (xs.set k x)->Heap.SameBut T s.heap h'->Q () {s with heap:=h'}) :
  wpAny (model prog w) A (updateSeq T (·.setIfInBounds k x)) Q E s:=by
 refine wpAny_updateSeq (hz:=by rw[Jy];exact JC hn (by decide)) (_hz':=by rw[Array.size_setIfInBounds,Jy];exact JC hn (by decide)) hT rfl (h _ ?_ (KG ..))
 show Heap.get? _ _=_;rw[Lv _ hT rfl];simp[Obj.mapSeq]
theorem gJ{α:Type}{P:α->β->Prop}{l:List α}{vs:List β}(h:Paired P l vs):vs.length=l.length:=by
 induction h with
 |nil=>rfl
 |cons _ _ ih=>exact Kk (·+1) ih
theorem sY{g:Heap}{l:List Src}{vs:List Value}(k:∀q∈l,∀c o,c=q.2.1\/c=q.2.2->h.get? c=some o->g.get? c=some o)(r:Paired (qy i h) l vs):Paired (qy i g) l vs:=by
 induction r with
 |nil=>exact .nil
 |cons d _ ih=>exact .cons (d.kp (k _ J9)) (ih λq hq=>k q (J8 _ hq))
theorem Ha{s:Shared}{old:List Value}(D:Zn z TI TO S)(hS:S≠[])(hA:A.handled=none)(hz:IsZip s.heap z TI TO .none)(hTI:fj s.heap TI (S.map λq=>.ref q.2.1))(hTO:fj s.heap TO old)(hl:old.length=S.length)(hn:S.length<=3)
  (hh:(∃us,Paired (qy i s.heap) S us/\∀h' tk,IsZip h' z TI TO (rawInt s.heap.objs.size)->fj h' TO us->(∀q∈S,qZ (i+1) h' q)->fj h' s.heap.objs.size us->(∀c o,c≠z->c≠TO->(∀q∈S,c≠q.2.1)->s.heap.get? c=some o->h'.get? c=some o)->Q (.ref s.heap.objs.size) {s with heap:=h',toks:=tk}) \/
   ∃a q r us,S=a++q::r/\Paired (qy i s.heap) a us/\qZ i s.heap q/\(∃xs:Array Value,CM s.heap q xs/\xs.size=i)/\∀h' e tk,(∀c o,c≠z->c≠TO->(∀q∈S,c≠q.2.1)->s.heap.get? c=some o->h'.get? c=some o)->(∃o,h'.get? e=some o/\o.cls=.type "StopIteration")->E (.ref e) {s with heap:=h',toks:=tk}) :
  wpAny (model prog w) A (Builtin.«zip.__next__» ⟨[.ref z],[]⟩) (λfin s'=>∃v,fin=.done (.ret v)/\Q v s') E s:=by
 obtain⟨q0,S',rfl⟩:=List.exists_cons_of_ne_nil hS;have zrec:=hz;show wpAny _ _ (field (.ref z) 2 >>= _) _ _ _;refine Js (La zrec rfl (x:=.bool false) rfl ?_);show wpAny _ _ (field (.ref z) 3 >>= _) _ _ _;refine Js (La zrec rfl (x:=.ref TI) rfl ?_);refine Js (LW hTI rfl ?_);show wpAny _ _ (Builtin.SmallTypes.ownedTupleIsFree (.ref z) >>= _) _ _ _;refine Js ?_;unfold Builtin.SmallTypes.ownedTupleIsFree;refine Js (La zrec rfl (x:=.none) rfl (Jz ?_));simp only[LU];refine Js (N3 ?_);refine Js (La zrec rfl (x:=.ref TO) rfl ?_);refine Js (Mr zrec (by simp) λg1 zr1 sb1=>?_)
 replace zr1:IsZip g1 z TI TO .ellipsis:=zr1
 refine Js ?_;have old3:∀q∈q0::S',∀c o,c=q.2.1\/c=q.2.2->s.heap.get? c=some o->g1.get? c=some o:=λq hq c o hc e=>by
  rcases hc with rfl|rfl
  ·exact sb1.extBut _ _ (D.it q hq).1 e
  ·exact sb1.extBut _ _ (D.sr q hq).1 e
 refine AU D (i:=i) ?hf ?he (old:=old) zr1 (sb1.extBut _ _ D.zt.2.1 hTO) (by lia) hl (hh.imp (λ⟨us,dr,hQ⟩=>⟨us,sY old3 dr,?k⟩) λ⟨a,q,r,us,eS,dr,hi,hx,hE⟩=>⟨a,q,r,us,eS,sY (λp hp=>old3 p (by rw[eS];exact KP _ hp)) dr,hi.kp λo=>old3 q (by rw[eS];exact JP _ J9) _ o (.inl rfl),(let ⟨xs,x1,x2⟩:=hx;⟨xs,x1.kp λo=>old3 q (by rw[eS];exact JP _ J9) _ o (.inr rfl),x2⟩),λh' e tk kp ho=>hE h' e tk (λc o c1 c2 c3 x=>kp c o c1 c2 c3 (sb1.extBut _ _ c1 x)) ho⟩)
 case hf =>
  intro q hq j arr u s1 Q1 hz1 ht1 hn1 d1 k1;obtain⟨hi,xs,hx,hu⟩:=d1;refine Js (wpAny_onRaise ?_);show wpAny _ _ (Builtin.SmallTypes.nextOf (.ref q.2.1) >>= _) _ _ _;have lt:i<xs.size:=(Kh.mp hu).1;refine Js ((tT q.1 hA q.2.1 q.2.2 ((D.sr q hq).2.2 q hq) xs).item i _ _ _ lt ⟨hi,hx⟩ λx g2 tk2 px st2 sb2=>Jz ?_);have ex:x=u:=by rw[hu] at px;exact (Option.some.inj px).symm
  subst ex;have to2:fj g2 TO arr:=sb2.extBut _ _ (D.it q hq).2.2.symm ht1;refine Js (LW to2 rfl ?_);refine Js (GC to2 hn1 λg3 to3 sb3=>?_);refine Js (wpAny_letGo (Jz ?_));exact k1 g3 _ to3 (qZ.kp (q:=q) st2.1 λo e=>sb3.extBut _ _ (D.it q hq).2.2 e) (λc o c1 c2 e=>sb3.extBut _ _ c1 (sb2.extBut _ _ c2 e)) (by rw[sb3.1,sb2.1])
 case he =>
  intro p hp j s1 Q1 hz1 hi1 hx1 k1;obtain⟨xs,hx1,hsz⟩:=hx1;refine Js (wpAny_onRaise ?_);show wpAny _ _ (Builtin.SmallTypes.nextOf (.ref p.2.1) >>= _) _ _ _;subst hsz;refine Js ((tT p.1 hA p.2.1 p.2.2 ((D.sr p hp).2.2 p hp) xs).done _ _ _ ⟨hi1,hx1⟩ λg2 e sb2 he=>?_);obtain⟨oe,hoe,hce⟩:=he;have zr2:IsZip g2 z TI TO .ellipsis:=sb2 _ _ (D.it p hp).1.symm hz1;have nez:e≠z:=λq=>by subst q;rw[zr2] at hoe;cases hoe;simp at hce
  exact Mr zr2 (by simp) λg3 _ sb3=>k1 g3 e _ (λc o e1 e3 q=>sb3.extBut _ _ e1 (sb2 _ _ e3 q)) ⟨oe,sb3.extBut _ _ nez hoe,hce⟩
 case k =>
  intro g2 tk z2 t2 a2 kp2 sz2;have hu3:us.length<=3:=by rw[gJ dr];exact hn
  replace t2:fj g2 TO us:=t2
  show wpAny _ _ (seqItems? (.ref TO) >>= _) _ _ _;refine Js (LW t2 rfl ?_);refine Js (wpAny_newTuple ?_ (JC hu3 (by decide)))
  have size2:g2.objs.size=s.heap.objs.size:=sz2.trans sb1.1;have zlt:z<g2.objs.size:=JI z2;show wpAny _ _ (Builtin.SmallTypes.ownedTupleHandOut (.ref z) (.ref g2.objs.size) >>= _) _ _ _;refine Js ?_;unfold Builtin.SmallTypes.ownedTupleHandOut;have zr6:IsZip (g2.push {cls:=.type "tuple",data:=.seq us.toArray}) z TI TO .ellipsis:=Jw _ z2;refine Js (Mr zr6 (by simp) λg8 zr8 sb8=>?_)
  replace zr8:IsZip g8 z TI TO (rawInt g2.objs.size):=zr8
  refine Mr zr8 (by simp) λg9 zr9 sb9=>?_
  replace zr9:IsZip g9 z TI TO (rawInt g2.objs.size):=zr9
  have up:∀c o,c≠z->g2.get? c=some o->g9.get? c=some o:=λc o e1 q=>sb9.extBut _ _ e1 (sb8.extBut _ _ e1 (Jw _ q));have pr8:fj g9 g2.objs.size us:=sb9.extBut _ _ (KZ zlt) (sb8.extBut _ _ (KZ zlt) (JH _ rfl));rw[size2] at zr9 pr8;refine Jz ⟨_,rfl,?_⟩;show Q (.ref g2.objs.size) _;rw[size2];exact hQ g9 _ zr9 (up _ _ D.zt.2.1 t2) (λq hq=>(a2 q hq).kp λo e=>up _ o (D.it q hq).1 e) pr8 λc o e1 e2 e3 q=>up c o e1 (kp2 c o e2 e3 (sb1.extBut _ _ e1 q))
end
noncomputable def Fy(K:W.Frag)(S:List Src):It:=
  ⟨λi H=>∃vs,Paired (λ(q:Src) v=>∃xs,my K q.1 H q.2.2 xs/\xs[i]?=some v) S vs,
   λi H v H'=>∃p vs,Paired (λ(q:Src) x=>∀xs,my K q.1 H q.2.2 xs->xs[i]?=some x) S vs/\H p=none/\v=.ref p/\H'=upd H p (.tup vs),
   λi H=>∃a q r vs,S=a++q::r/\Paired (λ(q:Src) v=>∃xs,my K q.1 H q.2.2 xs/\xs[i]?=some v) a vs/\∃xs,my K q.1 H q.2.2 xs/\xs.length=i⟩
section
variable {X:Cx} {pins:List (Addr×Obj)} {σ:St} {H:Hp} {s:Shared} {i:Nat}
theorem zN(I:Inv X pins σ H s){l:List Src}{vs:List V}(hi:∀q∈l,qZ i s.heap q)(h:Paired (λ(q:Src) v=>∃xs,my X.K q.1 H q.2.2 xs/\xs[i]?=some v) l vs):∃us,Paired (qy i s.heap) l us/\Vals vs us/\Paired (λ(q:Src) x=>∀xs,my X.K q.1 H q.2.2 xs->xs[i]?=some x) l vs:=by
 induction h with
 |nil=>exact⟨[],.nil,.nil,.nil⟩
 |cons d r ih =>
  obtain⟨us,h1,h2,h3⟩:=ih λp hp=>hi p (J8 _ hp);obtain⟨xs,hx,ex⟩:=d;obtain⟨its,rv,p1⟩:=I.x_ hx;obtain⟨u,hu,ru⟩:=rv.get ex;exact⟨u::us,.cons ⟨hi _ J9,its.toArray,p1,by rw[Kz];exact hu⟩ h1,.cons ru h2,.cons (λys hy=>by rw[I.yr hy hx];exact ex) h3⟩
end
theorem vd{tk:Nat}{tp:Pos}(S:List Src)(z TI TO:Addr)(D:Zn z TI TO S)(hS:S≠[])(hn:S.length<=3):
  Turn P w K (.Tuple es tk tp) (Fy K S) (z::TI::TO::S.map λq=>q.2.1) z (λi h=>IsZip h z TI TO .none/\fj h TI (S.map λq=>.ref q.2.1)/\(∃old,fj h TO old/\old.length=S.length)/\∀q∈S,qZ i h q) where
 mem:=J9
 obj:=λi h st c hc=>by
  obtain⟨s1,s2,⟨old,s3,_⟩,s4⟩:=st;rcases J5.mp hc with rfl|hc
  ·exact⟨_,s1,λv q=>by cases q⟩
  rcases J5.mp hc with rfl|hc
  ·exact⟨_,s2,λv q=>by cases q⟩
  rcases J5.mp hc with rfl|hc
  ·exact⟨_,s3,λv q=>by cases q⟩
  obtain⟨q,hq,rfl⟩:=J_.mp hc;obtain⟨o,e,_,d⟩:=lg.ty (s4 q hq);exact⟨o,e,λv q=>by rw[d] at q;cases q⟩
 keep:=λi h h' st k=>by
  obtain⟨s1,s2,⟨old,s3,s3'⟩,s4⟩:=st;exact⟨k z (by simp) _ s1,k TI (by simp) _ s2,⟨old,k TO (by simp) _ s3,s3'⟩,λq hq=>(s4 q hq).kp (k _ (J8 _ (J8 _ (J8 _ (Lo (f:=λq:Src=>q.2.1) hq)))))⟩
 item:=by
  intro X hP hw hK hc i pins s σ H E I hf st hg;subst hP hw hK;obtain⟨vs,hg⟩:=hg;obtain⟨s1,s2,⟨old,s3,s3'⟩,s4⟩:=st;obtain⟨us,h1,h2,h3⟩:=zN I s4 hg;have hT:s.TypeIs (.ref z) "zip":=⟨_,s1,rfl⟩;unfold pyNext;refine Js (Mi (Kp (name:=Str.ofString "__next__") hT PySem.F.slot_zip_next (K6 PySem.F.slot_zip_next hT PySem.F.entry_zip_next
   (Ha D hS (I.ok.hd hc) s1 s2 s3 s3' hn (.inl ⟨us,h1,λh' tk' z1 t1 a1 pr kp=>Jz ?_⟩)) (PySem.F.args_zip_next_1 _))))
  have fr:H s.heap.objs.size=none:=I.aN.fresh (J7 _);have lt:∀{c o},s.heap.get? c=some o->s.heap.objs.size≠c:=λe=>KZ (JI e);refine⟨.ref s.heap.objs.size,rfl,wpAny_letOwnedTupleGo_zip z1 λh2' z2 sb2=>?_⟩;have pr2:fj h2' s.heap.objs.size us:=sb2.extBut _ _ (lt s1) pr;have hvl:vs.length<=3:=by rw[gJ hg];exact hn
  have I2:Inv X pins σ (upd H s.heap.objs.size (.tup vs)) {s with heap:=h2',toks:=tk'}:=by
   refine I.nK (fp:=z::TI::TO::S.map λq=>q.2.1) hf (J7 _) (λc o hcm ec=>?_) ⟨JC hvl (by decide),us,h2,⟨_,pr2,rfl,_,rfl,rfl⟩⟩
   simp only[J5,not_or] at hcm;exact sb2.extBut _ _ hcm.1 (kp c o hcm.1 hcm.2.2.1 (λq hq e=>hcm.2.2.2 (by rw[e];exact Lo (f:=λq:Src=>q.2.1) hq)) ec)
  refine⟨.ref s.heap.objs.size,_,I2,rfl,⟨s.heap.objs.size,vs,h3,fr,rfl,rfl⟩,⟨z2,?_,⟨us,?_,?_⟩,λq hq=>?_⟩,λc hcm=>?_⟩
  ·exact sb2.extBut _ _ D.zt.1 (kp _ _ D.zt.1 D.zt.2.2 (λq hq=>(D.it q hq).2.1.symm) s2)
  ·exact sb2.extBut _ _ D.zt.2.1 t1
  ·exact gJ h1
  ·exact (a1 q hq).kp λo e=>sb2.extBut _ _ (D.it q hq).1 e
  ·have hn:=(hf c hcm).1;rw[ar]
   ·exact hn
   ·rcases J5.mp hcm with rfl|hcm
    ·exact (lt s1).symm
    rcases J5.mp hcm with rfl|hcm
    ·exact (lt s2).symm
    rcases J5.mp hcm with rfl|hcm
    ·exact (lt s3).symm
    obtain⟨q,hq,rfl⟩:=J_.mp hcm;obtain⟨o,e,_⟩:=lg.ty (s4 q hq);exact (lt e).symm
 done:=by
  intro X hP hw hK hc i pins s σ H E I hf st hg;subst hP hw hK;obtain⟨a,q,r,vs,eS,hg,xs,hx,hi⟩:=hg;obtain⟨s1,s2,⟨old,s3,s3'⟩,s4⟩:=st;obtain⟨us,h1,_,_⟩:=zN I (λp hp=>s4 p (by rw[eS];exact KP _ hp)) hg
  obtain⟨its,rv,p1⟩:=I.x_ hx;have hT:s.TypeIs (.ref z) "zip":=⟨_,s1,rfl⟩;unfold pyNext;refine Js (Mi (Kp (name:=Str.ofString "__next__") hT PySem.F.slot_zip_next (K6 PySem.F.slot_zip_next hT PySem.F.entry_zip_next
   (Ha D hS (I.ok.hd hc) s1 s2 s3 s3' hn (.inr ⟨a,q,r,us,eS,h1,s4 q (by rw[eS];exact JP _ J9),⟨its.toArray,p1,by rw[Jy,<- rv.length,hi]⟩,λh' e tk' kp he=>?_⟩)) (PySem.F.args_zip_next_1 _))))
  obtain⟨o,ho,hcl⟩:=he;refine Js (wpAny_isInstance (T:="StopIteration") (b:=true) ⟨o,ho,hcl⟩ isSubtype_stop (Jz ⟨rfl,?_⟩));refine I.turns (t':=tk') hf λc o hcm ec=>?_;simp only[J5,not_or] at hcm;exact kp c o hcm.1 hcm.2.2.1 (λq hq e=>hcm.2.2.2 (by rw[e];exact Lo (f:=λq:Src=>q.2.1) hq)) ec
 self:=λA i s Q E st h=>wpAny_pyIter_zip st.1 h
theorem e9.push{k:Bool}(x:e9 k h a xs)(o:Obj):e9 k (h.push o) a xs:=by
 cases k with
 |true=>exact Heap.IsList.push x _
 |false=>exact yl x _
theorem Aa{A:Around}{s:Shared}{k:Bool}{l:Addr}{items:Array Value}(hl:e9 k s.heap l items)
  (hQ:Q (.ref s.heap.objs.size) {s with heap:=s.heap.push {cls:=.type (FF k),data:=.fields #[.ref l,.int 0 0]}}):wpAny (model prog w) A (pyIter (.ref l)) Q E s:=by
 cases k with
 |true=>exact M1 hl hQ
 |false=>exact LL hl hQ
noncomputable def fH(h:Heap):List (Bool×Addr)->Heap
 |[]=>h
 |p::l=>fH (h.push {cls:=.type (FF p.1),data:=.fields #[.ref p.2,.int 0 0]}) l
noncomputable def gx(n:Nat):List (Bool×Addr)->List Src
 |[]=>[]
 |p::l=>(p.1,n,p.2)::gx (n+1) l
abbrev Hy(h:Heap)(l:List (Bool×Addr)):Heap:=(fH h l).push {cls:=.type "tuple",data:=.seq ((gx h.objs.size l).map λq=>Value.ref q.2.1).toArray}
abbrev Ey(h:Heap)(l:List (Bool×Addr)):Heap:=(Hy h l).push {cls:=.type "tuple",data:=.seq ((gx h.objs.size l).map λ_=>Value.none).toArray}
abbrev Al(h:Heap)(l:List (Bool×Addr)):Heap:=(Ey h l).push {cls:=.type "zip",data:=.fields #[.none,.bool false,.bool false,.ref (fH h l).objs.size,.ref (Hy h l).objs.size]}
theorem kC:∀(l:List (Bool×Addr)) (h:Heap),(fH h l).objs.size=h.objs.size+l.length
 |[],_=>rfl
 |p::l,h=>by rw[fH,kC l,KQ,JD];lia
theorem iC:∀(l:List (Bool×Addr)) {h:Heap} {c:Addr} {o:Obj},h.get? c=some o->(fH h l).get? c=some o
 |[],_,_,_,e=>e
 |p::l,_,_,_,e=>iC l (Jw _ e)
theorem B0(l:List (Bool×Addr)):∀{h:Heap} (q:Src),q∈gx h.objs.size l->(fH h l).get? q.2.1=some {cls:=.type (FF q.1),data:=.fields #[.ref q.2.2,.int 0 0]}:=by
 induction l with
 |nil=>intro h q hq;cases hq
 |cons p l ih =>
  intro h q hq;rcases J5.mp hq with rfl|hq
  ·exact iC l (JH _ rfl)
  ·exact ih q (by rw[KQ];exact hq)
theorem kg:∀(l:List (Bool×Addr)) (n:Nat),(gx n l).length=l.length
 |[],_=>rfl
 |_::l,n=>Kk (·+1) (kg l (n+1))
theorem tD(l:List (Bool×Addr)):∀(n:Nat) (q:Src),q∈gx n l->n<=q.2.1/\q.2.1<n+l.length/\(q.1,q.2.2)∈l:=by
 induction l with
 |nil=>intro n q hq;cases hq
 |cons p l ih =>
  intro n q hq;rcases J5.mp hq with rfl|hq
  ·exact⟨J7 _,by rw[JD];show n<_;lia,J9⟩
  ·obtain⟨h1,h2,h3⟩:=ih (n+1) q hq;exact⟨by lia,by rw[JD];lia,J8 _ h3⟩
theorem tF:∀(l:List (Bool×Addr)) (n:Nat),((gx n l).map λq=>q.2.1).Nodup
 |[],_=>List.nodup_nil
 |p::l,n=>by
  show (n::(gx (n+1) l).map λq=>q.2.1).Nodup;refine KY.mpr ⟨λh=>?_,tF l (n+1)⟩;obtain⟨q,hq,e⟩:=J_.mp h;have:=(tD l (n+1) q hq).1;rw[e] at this;lia
theorem v7(p q:Bool×Addr)(xs ys:Array Value):Meets (Builtin.«zip.__new__» ⟨[.type "zip",.ref p.2,.ref q.2],[]⟩) (λ_ R s=>e9 p.1 s.heap p.2 xs/\e9 q.1 s.heap q.2 ys/\R (.ok (.ret (.ref (Ey s.heap [p,q]).objs.size))) {s with heap:=Al s.heap [p,q]}):=
 .of_wp λprog w A R s h=>by
  obtain⟨hp,g,d,tk,os⟩:=s;obtain⟨q1,q2,h⟩:=h;have hsub:=sub_zip;have w1:e9 p.1 (Shared.heap ⟨hp,g,d,tk,os⟩) p.2 xs:=q1;have w2:e9 q.1 (Shared.heap ⟨hp.push {cls:=.type (FF p.1),data:=.fields #[.ref p.2,.int 0 0]},g,d,tk,os⟩) q.2 ys:=e9.push q2 _;wp_walk using Aa w1,Aa w2;refine⟨_,rfl,?_⟩;have e1:(hp.push {cls:=.type (FF p.1),data:=.fields #[.ref p.2,.int 0 0]}).objs.size=hp.objs.size+1:=KQ ..;have h':=h;simp only[Al,Ey,Hy,fH,gx,JY,LS,<- e1] at h';exact h'
section
variable {X:Cx} {es:List Expr} {tk:Nat} {tp:Pos}
theorem Bj{pins:List (Addr×Obj)}{s:Shared}{R:It->Hp->Prop}(I:Inv X pins σ H s)(l:List (Bool×Addr))(hne:l≠[])(h3:l.length<=3)(hq:∀p∈l,∃xs,my X.K p.1 H p.2 xs)(q:∀n,R (Fy X.K (gx n l)) H):
  (∃o,(Al s.heap l).get? (Ey s.heap l).objs.size=some o/\o.cls=.type "zip")/\wpAny (model X.prog X.w) X.A (pyIter (.ref (Ey s.heap l).objs.size)) (Ik X pins σ (.Tuple es tk tp) R) X.xe {s with heap:=Al s.heap l}:=by
 have n1:(fH s.heap l).objs.size=s.heap.objs.size+l.length:=kC l _;have n2:(Hy s.heap l).objs.size=s.heap.objs.size+l.length+1:=by rw[KQ,n1]
 have n3:(Ey s.heap l).objs.size=s.heap.objs.size+l.length+2:=by rw[KQ,n2]
 have p3:(Al s.heap l).get? (Ey s.heap l).objs.size=some _:=JH _ rfl;have p2:(Al s.heap l).get? (Hy s.heap l).objs.size=some _:=Jw _ (JH _ rfl);have p1:(Al s.heap l).get? (fH s.heap l).objs.size=some _:=Jw _ (Jw _ (JH _ rfl));have up:∀{c o},(fH s.heap l).get? c=some o->(Al s.heap l).get? c=some o:=λe=>Jw _ (Jw _ (Jw _ e));rw[n1,n2,n3] at p3;rw[n2] at p2;rw[n1] at p1;rw[n3];refine⟨⟨_,p3,rfl⟩,wpAny_pyIter_zip p3 ?_⟩;have I2:Inv X pins σ H {s with heap:=Al s.heap l}:=I.kept (t':=s.toks) λc o e=>up (iC l e)
 have bd:=tD l s.heap.objs.size;have lt:∀p∈l,p.2<s.heap.objs.size:=λp hp=>by
  obtain⟨xs,hx⟩:=hq p hp;obtain⟨its,_,p1⟩:=I.x_ hx;obtain⟨o,e,_⟩:=p1.ty;exact JI e
 have D:Zn (s.heap.objs.size+l.length+2) (s.heap.objs.size+l.length) (s.heap.objs.size+l.length+1) (gx s.heap.objs.size l):=by
  have nl:∀(a b:Nat),a<b->a≠b:=λa b h=>JS h;refine⟨⟨nl _ _ (by lia),nl _ _ (by lia),nl _ _ (by lia)⟩,λq hq'=>?_,λq hq'=>?_,tF l _⟩
  ·have:=(bd q hq').2.1;exact⟨nl _ _ (by lia),nl _ _ (by lia),nl _ _ (by lia)⟩
  ·have h1:=lt _ (bd q hq').2.2;refine⟨nl _ _ (by show q.2.2<_;have:q.2.2<s.heap.objs.size:=h1;lia),nl _ _ (by have:q.2.2<s.heap.objs.size:=h1;lia),λp hp=>nl _ _ (JQ h1 (bd p hp).1)⟩
 refine⟨_,_,_,_,H,rfl,I2,vd (gx s.heap.objs.size l) _ _ _ D (λe=>?_) (by rw[kg];exact h3),⟨p3,p1,⟨_,p2,Jt ..⟩,λq hq'=>GA (up (B0 l q hq'))⟩,λc hc=>?_,q _⟩
 ·have:=kg l s.heap.objs.size;rw[e] at this;exact hne (LC.mp this.symm)
 ·have hc':s.heap.objs.size<=c:=by
   rcases J5.mp hc with rfl|hc
   ·lia
   rcases J5.mp hc with rfl|hc
   ·lia
   rcases J5.mp hc with rfl|hc
   ·lia
   obtain⟨q,hq',rfl⟩:=J_.mp hc;exact (bd q hq').1
  exact I.pN hc' (I.aN.fresh hc')
noncomputable def zy(K:W.Frag)(ta:TA):TI:=λσ H R=>ta σ H λvs H1=>∃p q:Bool×Addr,vs=[.ref p.2,.ref q.2]/\(∃xs,my K p.1 H1 p.2 xs)/\(∃ys,my K q.1 H1 q.2 ys)/\∀n,R (Fy K (gx n [p,q])) H1
theorem Bw{e1 e2:Expr}{ta:TA}{pos:Pos}(hg:Gl X "zip")(hm:X.mg "zip"=none)(ha:PA X [e1,e2] ta)(h1:autoParam (eZ e1=true) ℜ0)(h2:autoParam (eZ e2=true) ℜ0)(hv:autoParam (bootBuiltins "zip"=some (.type "zip")) ℜ6):
  PI X (.Tuple es tk tp) (.Call (.Name "zip" p) [e1,e2] [] pos) (zy X.K ta):=by
 intro pins s σ H R I h;refine Call_ (fN I hg hm hv (KW (bR (ha pos pins s σ H _ I h) λus s1 hq1=>?_) (by rw[df h1,df h2]) (by rw[df h2];rfl)))
 obtain⟨vs,H1,I1,r1,q1⟩:=hq1;obtain⟨a,b,e,⟨xs,hx⟩,⟨ys,hy⟩,q⟩:=q1;subst e;obtain⟨u,w',rfl,ru,rw'⟩:=vals2 r1
 cases ru;cases rw'
 obtain⟨its1,_,p1⟩:=I1.x_ hx;obtain⟨its2,_,p2⟩:=I1.x_ hy;refine O1 F.called_zip (by decide) (F.typeCall_zip_2 _ _) (F.newCall_zip_2 _ _) (λobj=>F.args_object_init_3 obj _ _) F.entry_zip_new (v7 a b _ _) ⟨p1,p2,Bj I1 [a,b] (by simp) (Lg 2) (λp hp=>?_) q⟩
 simp only[J5,Ka,KU] at hp;rcases hp with rfl|rfl
 ·exact⟨xs,hx⟩
 ·exact⟨ys,hy⟩
end
noncomputable def DX(X:Cx)(C:Addr)(m:Str)(sp:Sp)(ta:TE)(t:TA):TE:=λσ H Q=>ta σ H λx H1=>∃a dx fs,x=.ref a/\H1 a=some (.ins C dx fs)/\fs.lookup m=none/\t σ H1 λvs H2=>sp (x::vs) H2 Q (Gp X σ H2)
theorem zi{pl:Sem Bool}{k:Nat}{ps:List Str}{m:Str}{pos:Pos}{o:Expr}{ta:TE}{t:TA}(he:PE X o ta)(c:lI X.K C)(hm:Meth X.K C m f)(G:bT X.prog X.w X.K X.mg X.base (wc X.prog X.w) k f fd ps sp)(hr:b9 k X.A)(hb:Binds X.K fd ps [])(hex:X.ex=[])(ha:PA X (e::es) t)
  (hst:autoParam (starEach (e::es) X.env=(false,eval e X.env)::starEach es X.env) ℜ0) (hpl:autoParam ((backTo pos (starEach es X.env)).any (·.1)=false) ℜ0)
  (ht:autoParam (eval (.Call (.Attribute o m apos) (e::es) [] pos) X.env=(do
   let ov <- eval o X.env
   standAt apos.atName
   let (f,first) <- holding [ov] (getMethod ov m pl)
   callWith pos f first (backTo pos (starEach (e::es) X.env)) (backToKw pos (keywordEach [] X.env)))) ℜ0) :
  PE X (.Call (.Attribute o m apos) (e::es) [] pos) (DX X C m sp ta t):=by
 intro pins s σ H Q I h;refine W.methodCall_KW (pl:=pl) (bR (he pins s σ H _ I h) λu s1 hq47=>?_) ht;obtain⟨x,H1,I1,rx,a,dx,fs,ex,ea,l,q⟩:=hq47;subst ex;obtain rfl:u=Value.ref a:=rx;refine j_ I1 ea c hm l ?_;refine Oz (first:=[.ref a]) (h₀:=X.base) I.ok.mod.tW hm.kp (bR (ha pos pins s1 σ H1 _ I1 q) λus s2 ⟨vs,H2,I2,r,q2⟩=>⟨I2.iA,?_⟩) hst hpl
 have r2:Vals (.ref a::vs) (.ref a::us):=.cons rfl r;have hl:(Value.ref a::us).length=ps.length:=by rw[<- r2.length];exact G.len _ _ _ _ q2
 have hb2:=hb s2 (.ref a::us) I2.iA (by rw[Kq];exact hl)
 rw[Kq] at hb2;refine N0 (NA (G.run X.A X.stack s2 H2 ⟨.ref a::us,[]⟩ (.ref a::us) (.ref a::vs) Q (Gp X σ H2) hr I2.EC hb2 r2 q2) λr s' hq=>?_)
 cases r with
 |error e =>
  obtain⟨ea,T,cls,d,H',rfl,ho,hbare,un,aN,fl,n1,n3,n2,tr,nT,ea',d',hea,tr',hd⟩:=hq;cases hea;obtain⟨_,rfl⟩:=fl.is.one (show gW ea cls d' s'.heap from (aN _ _ tr').1);have I3:=I2.CD (ch:=[]) ho un aN hbare (λb z=>absurd z (by simp))
  have n0:∀b,s2.heap.get? b=none->X.s₀.heap.get? b=none:=λb z=>by
   cases q2:X.s₀.heap.get? b with
   |none=>rfl
   |some o =>
    obtain⟨o',q3⟩:=I2.base.there b o q2 (by rw[hex];simp)
    rw[z] at q3;cases q3
  exact hd (I2.aN.none_of n1) (λa z=>I2.aN.none_of (n3 a z)) pins s' (some T) I3 fl ⟨tr,n0 _ n1,λa z=>n0 _ (n3 a z),λT' hT=>by
   cases hT;exact⟨nT,n0 _ n2,λp hp z=>by rw[<- z,(I2.pin p hp).1] at n2;cases n2⟩⟩
 |ok fl =>
  cases fl with
  |ret u=>exact I2.after hq
  |next=>exact False.elim hq
  |brk=>exact False.elim hq
  |cont=>exact False.elim hq
namespace Z
theorem HW:QS X st (λ_ _ _=>False):=⟨λ_ _ _ _ _ _ h=>h.elim⟩
theorem IX{o:Expr}{to:TE}{pos:Pos}(K:W.Frag)(hK:X.K=K){name:Str}{T id:String}{r:V->List V->Hp->VK->Prop}(pa:PlainAttrs T)(slot:Slot T name id)(hty:typeOf (.builtin id)=pure (.type "method_descriptor"))(hm:vk X id r)(ho:QE X o to)
  (hbase:autoParam (attributeBase o name X.env (eval o X.env)=eval o X.env) ℜ0) (hline:autoParam ((apos.endLine == pos.line)=true) ℜ0):QE X (.Call (.Attribute o name apos) [] [] pos) (zw K T r to):=by
 subst hK;exact⟨Ex pa slot hty hm ho.h hbase hline⟩
theorem gI(K:W.Frag)(hK:X.K=K):v8 X (Fm K):=by subst hK;exact rM
end Z
theorem IU{H':Hp}{xs:List V}(h:bb K H a xs)(k:KB [] H H'):bb K H' a xs:=bb.same (λb o z=>k b o z (by simp)) h
namespace Z
theorem Ib{te:TE}{pos:Pos}{d:Addr}{D:List (Str×List Str)}(K:W.Frag)(hK:X.K=K)(hg:Gl X x)(hm:X.mg x=some (.ref d))(hd:jL K d D)(he:QE X e te)(hs:wz e:=by exactλ_ _=>rfl)(hdb:autoParam ((x ==("__debug__":Str))=false) ℜ1):QE X (.Subscript (.Name x p) e pos) (yC K D te):=by
 subst hK;exact⟨Dk (sL hg hm rfl hdb) hd he.h hs⟩
theorem ya{ta:TA}{pos:Pos}(K:W.Frag)(hK:X.K=K){k:Nat}{tp:Pos}(hg:Gl X "enumerate")(hm:X.mg "enumerate"=none)(ha:QA X [e] ta)(h1:autoParam (eZ e=true) ℜ0):QI X (.Tuple es k tp) (.Call (.Name "enumerate" p) [e] [] pos) (jN K ta):=by
 subst hK;exact⟨zz hg hm ha.h h1⟩
theorem GZ{t:TA}{pos kpos lpos p1 p2 p3:Pos}{y z:Str}{c Pt d:Addr}{j:Nat}{params:Arguments}{k:Nat}(K:W.Frag)(hK:X.K=K)(hx:z∈dE)(ht:W.tabIn K z=some (c,Pt))(hcode:X.env.code=.ref c)(hq:X.env.qual=z++".<locals>.")(hdef:defaultsOf params X.env=([],[]))(hcl:closureFor scope X.env=pure [(y,d)])
  (hg:Gl X "sorted") (hm:X.mg "sorted"=none) (ha:QA X [e] t) (hr:b9 (k+3) X.A)
  (hsc:scope={kind:=.function,names:=[(x,.local),(y,.free)],isGenerator:=false,isCoroutine:=false,more:=[]}) (hxy:y≠x) (hx1:(x ==("__debug__":Str))=false) (hx2:(x ==("__classdict__":Str))=false) (hy1:(y ==("__debug__":Str))=false) (hy2:(y ==("__classdict__":Str))=false)
  (hj:X.N[j]?=some y) (hyc:X.env.scope.names.lookup y=some .cell) (hyl:X.env.cells.lookup y=some d)
  (hbind:∀c' pm ctv u,bindArgs (W.kla_fn "<lambda>" ((z++".<locals>.")++"<lambda>") params (.Subscript (.Name y p1) (.Name x p2) p3) scope [(y,d)] pm (.ref c') ctv) ⟨[u],[]⟩=pure [(x,u)]) (h1:autoParam (eZ e=true) ℜ0) :
  QE X (.Call (.Name "sorted" p) [e] [⟨some "key",.Lambda params (.Subscript (.Name y p1) (.Name x p2) p3) scope lpos,kpos⟩] pos) (lE K j t):=by
 subst hK;exact⟨yO hg hm ha.h h1 hr (E_ hx ht hcode hq hdef hcl) hsc hxy hx1 hx2 hy1 hy2 hj hyc hyl hbind⟩
theorem Hd(K:W.Frag)(hK:X.K=K):cB X (compareOp .In) (IF K false):=by subst hK;exact mB
end Z
namespace Ap
theorem yC(K:W.Frag)(D:List (Str×List Str))(te:TE)(σ:St)(H:Hp)(Q:VK):L2.yC K D te σ H Q=te σ H λy H1=>∃k ws,y=.str k/\KTD.datumAt k D=some ws/\∀p,GH K p (ws.map V.str)->Q (.ref p) H1:=rfl
theorem jN(K:W.Frag)(ta:TA)(σ:St)(H:Hp)(R:It->Hp->Prop):L2.jN K ta σ H R=ta σ H λvs H1=>∃a,vs=[.ref a]/\(∃xs,bB K H1 a xs)/\R (wA K a) H1:=rfl
theorem lE(K:W.Frag)(j:Nat)(t:TA)(σ:St)(H:Hp)(Q:VK):L2.lE K j t σ H Q=t σ H λvs H1=>∃l xs kz,vs=[.ref l]/\(∃n:Nat,H1 l=some (.mi 0 n)/\xs=jS n)/\kz.length=xs.length/\xs.length<64 /\
 (∀(i:Nat) (v:V) (k:Int),xs[i]?=some v->kz[i]?=some k->∀H',dR H1 H'->∃i q ls,v=.int i/\Jb j σ=[some (.ref q)]/\bb K H' q ls/\bX ls i=some (.int k))/\∀H2 D,dR H1 H2->H2 D=none->Q (.ref D) (upd H2 D (.lst (j8 kz xs))):=rfl
end Ap
section
variable {K:W.Frag} {g:TG} {tb:TS} {D:Ends} {σ:St} {H:Hp}
theorem lA{xs:List V}(Pv:Nat->St->Hp->Prop)(h0:Pv 0 σ H)(hl:∀i σ H,i<=xs.length->Pv i σ H->bB K H a xs)
  (hs:∀i x σ H p,xs[i]?=some x->Pv i σ H->H p=none->g (.ref p) σ (upd H p (.tup [.int i,x])) λσ2 H2=>tb {D with nx:=Pv (i+1),ct:=Pv (i+1),bk:=D.nx} σ2 H2) (hd:∀σ H,Pv xs.length σ H->D.nx σ H) :
  qG (wA K a) g tb D σ H:=by
 refine⟨λi m σ H=>m=xs.length-i/\i<=xs.length/\Pv i σ H,⟨xs.length,by simp,JL _,h0⟩,?_⟩
 rintro i m σ H ⟨rfl,hi,p⟩;have hq:=hl i σ H hi p;by_cases c:i<xs.length
 ·refine .inr ⟨⟨xs[i],xs,hq,Jr c⟩,λσ' H'=>Pv (i+1) σ' H',λσ' H' h=>⟨_,by lia,rfl,c,h⟩,?_⟩
  rintro x H' ⟨q,y,e,fr,rfl,rfl⟩;have e1:=e xs hq;exact hs i y σ H q e1 p fr
 ·have e:i=xs.length:=by lia
  subst e;exact .inl ⟨⟨xs,hq,rfl⟩,hd _ _ p⟩
end
section
variable {K:W.Frag} {σ:St} {H:Hp} {tc:TT} {te:TE} {Q:VK}
theorem Hh{x y:V}{c:Addr}{o1 o2:Option V}{R:St->Hp->Prop}(h:R (some x::some y::σ) (upd H c (.tup [x,y]))):og K 2 (eV (aZ 0) (eV (aZ 1) n5)) (.ref c) (o1::o2::σ) (upd H c (.tup [x,y])) R:=⟨c,[x,y],rfl,bb.of aa,rfl,x,[y],rfl,y,[],rfl,rfl,h⟩
end
theorem qC{t:TS}{D:Ends}(h:∀N,N=D.nx->t {D with nx:=N} σ H):t D σ H:=h _ rfl
theorem j0{c:TT}{t u:TS}{D:Ends}(h:∀A B,A=t D->B=u D->c σ H λb H1=>if b=true then A σ H1 else B σ H1):vR c t u D σ H:=h _ _ rfl rfl
theorem HasFn.IB{ps:List Str}{k:Nat}(F:HasFn K mg x st ps)(S:av N ps (ae st))(len:∀vs H Q E,sp vs H Q E->vs.length=ps.length)
  (hbody:∀(f:Addr) (cdv:Value) (A:Around) (outer:List Env) (s:Shared) (H:Hp) (vs:List V) (Q:VK) (E:XK),b9 k (A.deeper (envOfC x (ae st) s.heap.objs.size f cdv))->mg x=some (.ref f)->BO K f cdv->sp vs H Q E ->
   ∃t,QB (fE aP P w K mg base N x (ae st) f cdv A outer s H E).vO (aR st) t/\t {nx:=λ_ H'=>Q .aG H',rt:=Q} (start N vs) H):aq P w K mg base aP (k+1) x ps sp:=by
 obtain⟨f,fd,F1,b,m⟩:=F.ex;have F2:=F1;obtain⟨oc,od,kV,doc,pm,an,cdv,ct,osl,rfl,lk,eY⟩:=F2.ex;refine⟨f,_,m,F1.kp,b,x9 lk eY S len λA outer s H vs Q E hr lS=>?_⟩;obtain⟨t,h,q⟩:=hbody f cdv A outer s H vs Q E hr m ⟨_,_,lk,rfl,rfl⟩ lS;exact⟨t,h.h.vO,q⟩
theorem aF.of(k:scope.kind=.function)(h:N.Nodup/\N.length=own.length+ON.length/\(∀y∈scope.names,y.2≠.cell)/\(∀y∈scope.names,y.2=.local->scope.names.lookup y.1=some .local)/\(∀y∈scope.names,y.2=.free->osc.names.lookup y.1=some .cell\/osc.names.lookup y.1=some .free)/\(∀p∈ON.zip (N.drop own.length),p.1=p.2\/scope.names.lookup p.2=none)/\∀x∈N.drop own.length,scope.names.lookup x≠some .local):aF osc ON scope own N:=by
 obtain⟨h1,h2,h3,h4,h5,h6,h7⟩:=h;exact⟨k,h1,h2,h3,h4,h5,h6,h7⟩
namespace Z
section
variable {X:Cx} {e o:Expr} {es:List Expr} {te to:TE} {t:TA} {pos pos' p:Pos} {x:Str}
theorem se(hN:X.N.Nodup)(he:QE X e te)(hi:autoParam (X.N[i]?=some x) ℜ0)(hx:Loc X.env.scope x:=by first|exact Or.inl rfl|exact Or.inr rfl)(hs:autoParam (HF e=true) ℜ0)(hf:autoParam (X.fn x=true\/X.env.scope.names.lookup x=some .local) ℜ2):
  QS X (.Assign [.Name x pos'] e pos) (lH te (aZ i)):=set hN hi hx he hs hf
theorem fc{k:Nat}{ps:List Str}(F:aq X.prog X.w X.K X.mg X.base aP k x ps sp)(ha:QA X (e::es) t)(hr:b9 k X.A:=by exact b9.mono (by assumption) (by decide))(hg:autoParam (Gl X x) ℜ0)(h1:autoParam (eZ e=true) ℜ0)(h2:autoParam (es.all eZ=true) ℜ0)(hdb:autoParam ((x ==("__debug__":Str))=false) ℜ1):
  QE X (.Call (.Name x p) (e::es) [] pos) (la sp [] E0 t):=fn F hr hg fJ ha h1 h2 hdb
theorem C4{tg elt:Expr}{wi:TI}{g:TG}{tc:TT}(S:aF osc ON scope own N)(hi:QI X tg iter wi)
  (hg:∀(nd:N.Nodup) C s H fp,QG (aJ X scope N C s H fp) tg g) (ht:∀C s H fp,Hg (aJ X scope N C s H fp) ifs tc) (he:∀C s H fp,QE (aJ X scope N C s H fp) elt te) (hosc:autoParam (X.env.scope=osc) ℜ0) (hON:autoParam (X.N=ON) ℜ0) (hc:autoParam (X.calm=true) ℜ0) (hs:autoParam (∀x,foldedSetIterable iter X.env x=pure x) ℜ3) :
  QE X (.ListComp elt [⟨tg,iter,ifs,0⟩] scope pos) (hX wi own.length g tc te):=comp S hosc hON hc hi (hg S.nd) ht he hs
theorem sec{tg elt:Expr}{p2:Pos}{wi:TI}{g:TG}{tc:TT}{j:Nat}(hN:X.N.Nodup)(S:aF osc ON scope own N)(hi:QI X tg iter wi)
  (hg:∀(nd:N.Nodup) C s H fp,QG (aJ X scope N C s H fp) tg g) (ht:∀C s H fp,Hg (aJ X scope N C s H fp) ifs tc) (he:∀C s H fp,QE (aJ X scope N C s H fp) elt te)
  (hj:autoParam (X.N[j]?=some x) ℜ0) (hx:Loc X.env.scope x:=by first|exact Or.inl rfl|exact Or.inr rfl) (hosc:autoParam (X.env.scope=osc) ℜ0) (hON:autoParam (X.N=ON) ℜ0) (hc:autoParam (X.calm=true) ℜ0)
  (hsw:autoParam (swapsWith (.ListComp elt [⟨tg,iter,ifs,0⟩] scope p2) (some (.Name x pos')) pos.line X.env=pure true) ℜ0)
  (hf:autoParam (X.fn x=true\/X.env.scope.names.lookup x=some .local) ℜ2) (hs:autoParam (∀x,foldedSetIterable iter X.env x=pure x) ℜ3) :
  QS X (.Assign [.Name x pos'] (.ListComp elt [⟨tg,iter,ifs,0⟩] scope p2) pos) (lH (hX wi own.length g tc te) (aZ j)):=setC hN hj hx S hosc hON hc hi (hg S.nd) ht he hsw hf hs
theorem app(K:W.Frag)(ho:QE X o to)(ha:QA X (e::es) t)(hK:autoParam (X.K=K) ℜ0)(hbase:autoParam (attributeBase o "append" X.env (eval o X.env)=eval o X.env) ℜ0)(hline:autoParam ((apos.endLine == pos.line)=true) ℜ0)(h:autoParam ((e::es).all eZ=true) ℜ0)(hl:autoParam ((e::es).length<30) ℜ1):QE X (.Call (.Attribute o "append" apos) (e::es) [] pos) (Em K "list" ug to t):=bm K hK PySem.F.plainAttrs_list PySem.F.slot_list_append PySem.F.type_list_append ng ho ha hbase hline h hl
end
end Z
theorem lQ.IQ{qual:Str}{ps:List Str}{k:Nat}(F:lQ K x qual st f fd)(S:av N ps (ae st))(len:∀vs H Q E,sp vs H Q E->vs.length=ps.length)
  (hbody:∀(cdv:Value) (A:Around) (outer:List Env) (s:Shared) (H:Hp) (vs:List V) (Q:VK) (E:XK),b9 k (A.deeper (envOfC qual (ae st) s.heap.objs.size f cdv))->sp vs H Q E ->
   ∃t,QB (fE (wc P w) P w K mg base N qual (ae st) f cdv A outer s H E) (aR st) t/\t {nx:=λ_ H'=>Q .aG H',rt:=Q} (start N vs) H):bT P w K mg base (wc P w) (k+1) f fd ps sp:=by
 obtain⟨oc,od,kV,doc,pm,an,cdv,ct,osl,rfl,lk,eY⟩:=F.ex;refine x9 lk eY S len λA outer s H vs Q E hr lS=>?_;obtain⟨t,h,q⟩:=hbody cdv A outer s H vs Q E hr lS;exact⟨t,h.h,q⟩
abbrev TJ:=St->Hp->(Hp->Prop)->Prop
structure QJ (X:Cx) (vs:List Expr) (t:TJ):Prop where
 run:∀(σ:St) (H:Hp) (Q:Hp->Prop) (pins:List (Addr×Obj)) (s:Shared) (acc:Str) (k:Nat) (R:Str->Shared->Prop),t σ H Q->Inv X pins σ H s->acc.length<=2000*k->k+vs.length<=20 ->
  (∀H' s' (out:Str),Q H'->Inv X pins σ H' s'->out.length<=40000->R out s')->Joins (model X.prog X.w) X.A X.xe (evalEach vs X.env) acc R s
noncomputable def HQ(te:TE)(t:TJ):TJ:=λσ H Q=>te σ H λv H1=>∃i,v=.int i/\i.natAbs<2^1900/\t σ H1 Q
noncomputable def HN(t:TJ):TE:=λσ H Q=>t σ H λH'=>∀z:Str,z.length<=40000->Q (.str z) H'
noncomputable def HU(Dx:wb)(C:Addr)(t:TA):TS:=λD σ H=>t σ H λvs H1=>vs.length<=sizeLine/\∀e,H1 e=none->Dx (.ref C) none e σ (upd H1 e (.ext (gW e (.ref C) none)))
noncomputable def FA(Dx:wb)(σ:St)(H:Hp):XK:=λcls de H'=>∃(e:Addr) (d:Option Addr),de=some e/\H' e=some (.ext (gW e cls d))/\(H e=none->(∀a,d=some a->H a=none)->Dx cls d e σ H')
noncomputable def HR(Dx:wb)(C:Addr)(m:Str)(sp:Sp)(ta:TE)(t:TA):TE:=λσ H Q=>ta σ H λx H1=>∃a dx fs,x=.ref a/\H1 a=some (.ins C dx fs)/\fs.lookup m=none/\t σ H1 λvs H2=>sp (x::vs) H2 Q (FA Dx σ H2)
noncomputable def Jk(K:W.Frag)(DA:Addr)(i:Nat)(th:TS)(D:Ends):wb:=λcls d e σ' H'=>(∃C,cls=.ref C/\d=none/\fK K C/\W.mroIn K C (.ref DA)=some true)/\H' e=some (.ext (gW e cls d))/\th {nx:=λσ1 H1=>D.nx (σ1.set i none) H1,rt:=λ_ _=>False} (σ'.set i (some (.ref e))) H'
noncomputable def Hl(K:W.Frag)(DA:Addr)(i:Nat)(tb:wb->TS)(th:TS):TS:=λD σ H=>∀Dx:wb,(∀cls d e σ' H',Jk K DA i th D cls d e σ' H'->Dx cls d e σ' H')->tb Dx D σ H
namespace Z
section
variable {X:Cx} {e o:Expr} {es vs:List Expr} {te ta:TE} {t:TA} {tj:TJ} {pos p:Pos} {x:Str}
theorem u_:QJ X [] (λ_ H Q=>Q H):=⟨λσ H Q pins s acc k R q I ha hk h=>h H s acc q I (by simp at hk;lia)⟩
theorem fD{c:Str}{j:Nat}(h:QJ X vs tj)(hc:autoParam (c.length<=2000) ℜ1)(he:autoParam (evalEach (.Constant (.str c) j p::vs) X.env=eval (.Constant (.str c) j p) X.env::evalEach vs X.env) ℜ0):QJ X (.Constant (.str c) j p::vs) tj:=by
 refine⟨λσ H Q pins s acc k R q I ha hk hR=>?_⟩;rw[he];refine bR ((Z.str (X:=X) (i:=c) (j:=j) (pos:=p)).h pins s σ H (λv H1=>v=.str c/\H1=H) I ⟨rfl,rfl⟩) λv s1 hq1=>?_;obtain⟨v',H1,I1,r1,e1,e2⟩:=hq1;subst e1;subst e2;obtain⟨t,rfl⟩:=r1;have hl:(acc++c).length<=2000*(k+1):=by rw[lu];lia
 rw[JD] at hk;exact⟨c,t,rfl,nB (by lia),h.run σ H1 Q pins s1 (acc++c) (k+1) R q I1 hl (by lia) hR⟩
theorem jx(he:QE X e te)(h:QJ X vs tj)(hev:autoParam (evalEach (.FormattedValue e (-1) none p::vs) X.env=eval (.FormattedValue e (-1) none p) X.env::evalEach vs X.env) ℜ0):QJ X (.FormattedValue e (-1) none p::vs) (HQ te tj):=by
 refine⟨λσ H Q pins s acc k R q I ha hk hR=>?_⟩;rw[hev];refine wpAny_FormattedValue_plain ?_;refine bR (he.h pins s σ H _ I q) λv s1 ⟨v',H1,I1,rv,i,e1,hi,q1⟩=>?_;subst e1;obtain⟨t',rfl⟩:=rv;have hlog:i.natAbs.log2<1920:=by
  by_cases z:i.natAbs=0
  ·rw[z];decide
  ·exact (Nat.log2_lt z).mpr (JQ hi (Lk (by decide) (by decide)))
 have hlen:(Str.ofString (toString i)).length<=1921:=by
  have:=int_text_length_le (k:=1920) (by decide) hlog
  rw[PySem.ofString_length];exact this
 refine wpAny_formatField_int hlog ⟨_,_,rfl,?_,?_⟩
 ·rw[lu];exact nB (by rw[JD] at hk;lia)
 ·rw[JD] at hk;exact h.run σ H1 Q pins _ (acc++Str.ofString (toString i)) (k+1) R q1 (I1.tok _) (by rw[lu];lia) (by lia) hR
theorem uJ{v1 v2:Expr}{rest:List Expr}(h:QJ X (v1::v2::rest) tj)(hn:autoParam ((v1::v2::rest).length<=20) ℜ1):QE X (.JoinedStr (v1::v2::rest) pos) (HN tj):=⟨λpins s σ H Q I q=>by
 refine wpAny_JoinedStr (h.run σ H _ pins s Str.empty 0 _ q I (by decide) (by rw[LY];exact hn) λH' s' out q' I' ho=>⟨nB ho,?_⟩)
 exact⟨.str out,H',I'.tok _,⟨_,rfl⟩,q' out ho⟩⟩
theorem iZ{Dx:wb}{np cpos:Pos}(hD:Dx=qS X)(hm:X.mg x=some (.ref C))(hk:fK X.K C)(ha:QA X (e::es) t)(hg:autoParam (Gl X x) ℜ0)(hc:autoParam (X.calm=true) ℜ0)(hex:autoParam (X.ex=[]) ℜ0)(h1:autoParam (eZ e=true) ℜ0)(h2:autoParam (es.all eZ=true) ℜ0)(hdb:autoParam ((x ==("__debug__":Str))=false) ℜ1):
  QS X (.Raise (some (.Call (.Name x np) (e::es) [] cpos)) none pos) (HU Dx C t):=by
 subst hD;exact⟨yY hg hm hk hc hex ha.h h1 h2 hdb⟩
theorem fA{Dx:wb}{pl:Sem Bool}{k:Nat}{ps:List Str}{m:Str}(K:W.Frag)(hD:Dx=qS X)(he:QE X o ta)(c:lI K C)(hm:Meth K C m f)(G:bT X.prog X.w X.K X.mg X.base (wc X.prog X.w) k f fd ps sp)(hb:Binds K fd ps [])(ha:QA X (e::es) t)
  (hr:b9 k X.A:=by exact b9.mono (by assumption) (by decide)) (hK:autoParam (X.K=K) ℜ0) (hex:autoParam (X.ex=[]) ℜ0) (hst:autoParam (starEach (e::es) X.env=(false,eval e X.env)::starEach es X.env) ℜ0) (hpl:autoParam ((backTo pos (starEach es X.env)).any (·.1)=false) ℜ0)
  (ht:autoParam (eval (.Call (.Attribute o m apos) (e::es) [] pos) X.env=(do
   let ov <- eval o X.env
   standAt apos.atName
   let (f,first) <- holding [ov] (getMethod ov m pl)
   callWith pos f first (backTo pos (starEach (e::es) X.env)) (backToKw pos (keywordEach [] X.env)))) ℜ0) :
  QE X (.Call (.Attribute o m apos) (e::es) [] pos) (HR Dx C m sp ta t):=by
 subst hD;subst hK;exact⟨zi he.h c hm G hr hb hex ha.h hst hpl ht⟩
end
theorem Iq{X:Cx}{body suite:List Stmt}{b0:Stmt}{nm:Str}{DA:Addr}{np hpos pos:Pos}{tb:wb->TS}{th:TS}(K:W.Frag)(hm:X.mg x=some (.ref DA))(hkD:fK K DA)
  (hN:X.N.Nodup) (hb:∀pins E (Dx:wb),Dx=qS (vp X pins E)->QB (vp X pins E) body (tb Dx)) (hh:∀e,QB (DS X e) (b0::suite) th)
  (hi:autoParam (X.N[i]?=some nm) ℜ0) (hx:autoParam (X.env.scope.names.lookup nm=some .local) ℜ0) (hK:autoParam (X.K=K) ℜ0) (hg:autoParam (Gl X x) ℜ0) (hc:autoParam (X.calm=true) ℜ0) (hex:autoParam (X.ex=[]) ℜ0) (hst:autoParam (X.stack=X.env::X.outer) ℜ0) (hfm:autoParam (X.env.frame=some X.env.locals) ℜ0) (hdb:autoParam ((x ==("__debug__":Str))=false) ℜ1) :
  QS X (.Try body [.ExceptHandler (some (.Name x np)) (some nm) (b0::suite) hpos] [] [] pos) (Hl K DA i tb th):=by
 subst hK;have hkl:X.env.kindOf nm=some .local:=hx;refine⟨λpins s σ H D I q=>?_⟩;have hh0:X.A.handled=none:=I.ok.hd hc;refine wpAny_Try_except ?_;have qb:=hb pins (λy s1=>wpAny (model X.prog X.w) X.A (noteFrame y X.env) (λ_ s2=>wpAny (model X.prog X.w) X.A (setFlight y none) (λ_ s3=>wpAny (model X.prog X.w) X.A (handleBy y X.env [.ExceptHandler (some (.Name x np)) (some nm) (b0::suite) hpos]) (SP X pins D) X.xe s3) X.xe s2) X.xe s1) _ rfl;refine Km (qb.h [] s σ H D I.Hc (q _ ?_)) (λf s1 h1=>?_) (λy s1 h1=>h1)
 ·rintro cls d e σ' H' ⟨⟨C,rfl,rfl,hkC,hsub⟩,tr,hu⟩;intro pins' s' To I' fl nw;have hex':(vp X pins (λy s1=>wpAny (model X.prog X.w) X.A (noteFrame y X.env) (λ_ s2=>wpAny (model X.prog X.w) X.A (setFlight y none) (λ_ s3=>wpAny (model X.prog X.w) X.A (handleBy y X.env [.ExceptHandler (some (.Name x np)) (some nm) (b0::suite) hpos]) (SP X pins D) X.xe s3) X.xe s2) X.xe s1)).ex=[]:=hex;have hfr:X.A.frames=some (X.env::X.outer):=by rw[<- hst];exact I.ok.frames
  have hstk:=I'.stack;have hstk2:s'.heap.FunFrames X.base (X.env::X.outer):=by rw[<- hst];exact hstk
  refine oO hfr hfm hstk2 fl λh2 T2 mv f2=>?_;rw[<- hst] at mv;obtain⟨I2,nw2⟩:=I'.moved hex' fl nw mv f2;have J2:Inv (DS X e) pins σ' H' {s' with heap:=h2}:=I2.jm.HD
  refine wpAny_handleBy_cons (codeAny_handlers_test (ib J2 hg hm ?_ hdb)) (by intro z;cases z)
  refine vb J2.iA hkC hkD f2.is hsub (codeAny_handlers_suite_as ?_);refine pU (base:=X.base) (l:=X.stack) (s:={s' with heap:=h2}) I2.stack f2 λh3 T3 mv3 f3=>?_
  obtain⟨I3,nw3⟩:=I2.moved (h':=h3) hex' f2 nw2 mv3 f3;have J3:Inv (DS X e) pins σ' H' {s' with heap:=h3}:=I3.jm.HD
  refine lF (X:=DS X e) (v:=.ref e) J3 hN hi (.inl hx) rfl (λs4 I4=>?_) (.inr hx);refine Km ((hh e).h pins _ _ H' _ I4 hu) (λf s5 h5=>?_) (λ_ _ z=>z.elim);have h6:=SP.Ig hh0 hc h5
  cases f with
  |next =>
   obtain⟨σ1,H1,I6,q6⟩:=h6;exact name_goes I6 hN hi hkl λs7 I7=>⟨_,H1,I7,q6⟩
  |brk=>obtain⟨_,_,_,z⟩:=h6;exact z.elim
  |cont=>obtain⟨_,_,_,z⟩:=h6;exact z.elim
  |ret u=>obtain⟨_,_,_,_,_,z⟩:=h6;exact z.elim
 ·have h2:=SP.jm h1
  cases f with
  |next=>exact Jz h2
  |brk=>exact h2
  |cont=>exact h2
  |ret u=>exact h2
end Z
theorem C0(K:W.Frag)(y:V)(c:Value)(hy:∀u,RelV y u->u=c)(hK:X.K=K):a_ X (.builtin "isinstance") (CW K y c):=by subst hK;exact vQ hy
theorem GR(K:W.Frag)(ds:List Addr)(hK:X.K=K):a_ X (.builtin "isinstance") (Cz K ds):=by subst hK;exact vE
namespace Ap
theorem HQ(te:TE)(t:TJ)(σ:St)(H:Hp)(Q:Hp->Prop):L2.HQ te t σ H Q=te σ H λv H1=>∃i,v=.int i/\i.natAbs<2^1900/\t σ H1 Q:=rfl
theorem HN(t:TJ)(σ:St)(H:Hp)(Q:VK):L2.HN t σ H Q=t σ H λH'=>∀z:Str,z.length<=40000->Q (.str z) H':=rfl
theorem HU(Dx:wb)(C:Addr)(t:TA)(D:Ends)(σ:St)(H:Hp):L2.HU Dx C t D σ H=t σ H λvs H1=>vs.length<=sizeLine/\∀e,H1 e=none->Dx (.ref C) none e σ (upd H1 e (.ext (gW e (.ref C) none))):=rfl
theorem HR(Dx:wb)(C:Addr)(m:Str)(sp:Sp)(ta:TE)(t:TA)(σ:St)(H:Hp)(Q:VK):L2.HR Dx C m sp ta t σ H Q=ta σ H λx H1=>∃a dx fs,x=.ref a/\H1 a=some (.ins C dx fs)/\fs.lookup m=none/\t σ H1 λvs H2=>sp (x::vs) H2 Q (FA Dx σ H2):=rfl
end Ap
end L2
namespace G
local macro_rules|`(tactic|and_intros)=>`(tactic|exact ⟨rfl,rfl,rfl,by decide +kernel,rfl,by decide +kernel,by decide +kernel⟩)
open PySem L2 PySem.Spec PyProof.Rows
variable{L i p t:Nat}{C C_NoRow a b dq dx dy f fp q x:Addr}{d:Int}{xs ys:List V}{as ex:List Addr}{H H':Hp}{ln:Nat->Nat}{ws:List (List Nat)}{sp ss z:List Nat}{ls:List Int}{α:Type}{h:Heap}{K:W.Frag}{Q:VK}{gs:List (Option Nat)}{σ:L2.St}{te:TE}{d_program d_put_in d_take_out fd:FuncData}{ck:List (List Int)}{mg:Str->Option Value}
noncomputable def top(i:Nat):Stmt:=PySem.Challenge.pw_shortrows_k40_whole_kept_is_packed_afres.main.body.getD i (.Pass ⟨0,0,0,0⟩)
abbrev BI:Stmt:=top 0
abbrev iB:Stmt:=top 12
theorem qU:av ["row"] ["row"] (ae iB):=by and_intros
abbrev fU:Stmt:=top 13
theorem nU:av ["row","goal"] ["row","goal"] (ae fU):=by and_intros
abbrev jZ:Stmt:=top 15
theorem bV:av ["lengths","free","depth","left","length"] ["lengths"] (ae jZ):=by and_intros
abbrev cP:Stmt:=top 17
theorem dG:av ["lengths","words","ahead","thing"] ["lengths"] (ae cP):=by and_intros
abbrev eC:Stmt:=top 18
theorem jG:av ["ahead","length"] ["ahead","length"] (ae eC):=by and_intros
abbrev gN:Stmt:=top 19
theorem fI:av ["code","bits","place","thing","word"] ["code","bits","place"] (ae gN):=by and_intros
abbrev d6:Stmt:=top 25
theorem jy:av ["sizes","goals"] ["sizes","goals"] (ae d6):=by and_intros
abbrev cm:Stmt:=top 26
theorem bp:av ["sizes","goals","widths","paper","row"] ["sizes","goals"] (ae cm):=by and_intros
abbrev e7:Stmt:=top 27
theorem nu:av ["goals"] ["goals"] (ae e7):=by and_intros
abbrev cq:Stmt:=top 28
theorem bI:av ["sizes","goals","widths","starts","row","goal"] ["sizes","goals","widths"] (ae cq):=by and_intros
abbrev rm:Stmt:=top 29
theorem su:av ["starts","goals","widths","row","half"] ["starts","goals","widths","row"] (ae rm):=by and_intros
abbrev eF:Stmt:=top 30
theorem lh:av ["starts","goals","row"] ["starts","goals","row"] (ae eF):=by and_intros
abbrev fu:Stmt:=top 31
theorem cV:av ["sizes","widths","starts","size","width"] ["sizes","widths"] (ae fu):=by and_intros
abbrev gR:Stmt:=top 32
theorem p6:av ["width"] ["width"] (ae gR):=by and_intros
abbrev dB:Stmt:=top 37
theorem cf:av ["row","things","kind","part"] ["row"] (ae dB):=by and_intros
abbrev fk:Stmt:=top 38
theorem qg:av ["book"] ["book"] (ae fk):=by and_intros
abbrev cA:Stmt:=top 39
theorem bc:av ["program","book","codes","firsts","sizes","goals","widths","starts","bits","row","first"] ["program","book"] (ae cA):=by and_intros
abbrev bE:Stmt:=top 40
theorem cI:av ["row","codes","bits"] ["row","codes"] (ae bE):=by and_intros
abbrev bQ:Stmt:=top 41
theorem eN:av ["number"] ["number"] (ae bQ):=by and_intros
abbrev d7:Stmt:=top 42
theorem jv:av ["width","distance"] ["width","distance"] (ae d7):=by and_intros
abbrev d9:Stmt:=top 43
theorem bC:av ["number","many","figures","left","turn"] ["number","many"] (ae d9):=by and_intros
abbrev aM:Stmt:=inClass (top 45) 0
theorem iQ:av ["self","book"] ["self","book"] (ae aM):=by and_intros
abbrev bf:Stmt:=inClass (top 45) 1
theorem b6:av ["self","place","row","many","goal","moved"] ["self","place","row"] (ae bf):=by and_intros
abbrev aX:Stmt:=inClass (top 45) 2
theorem cT:av ["self","place","many"] ["self","place"] (ae aX):=by and_intros
abbrev aQ:Stmt:=inClass (top 45) 3
theorem jo:av ["self"] ["self"] (ae aQ):=by and_intros
abbrev bu:Stmt:=inClass (top 45) 4
theorem oF:av ["self"] ["self"] (ae bu):=by and_intros
abbrev aT:Stmt:=inClass (top 45) 5
theorem jM:av ["self"] ["self"] (ae aT):=by and_intros
abbrev cU:Stmt:=top 46
theorem lq:av ["rows","first","by"] ["rows","first","by"] (ae cU):=by and_intros
abbrev fh:Stmt:=top 47
theorem gF:av ["row","first","by","goal"] ["row","first","by"] (ae fh):=by and_intros
abbrev cY:Stmt:=top 49
theorem bW:av ["bits","book","codes","rows","starts","found","numbers"] ["bits","book"] (ae cY):=by and_intros
abbrev cZ:Stmt:=top 50
theorem eW:av ["row","start","numbers","goal"] ["row","start","numbers"] (ae cZ):=by and_intros
abbrev kK:Stmt:=top 51
theorem cw:av ["codes","bits","place","found","word","row","behind","kind","part"] ["codes","bits","place"] (ae kK):=by and_intros
abbrev gP:Stmt:=top 52
theorem jc:av ["code","bits","place","thing"] ["code","bits","place"] (ae gP):=by and_intros
abbrev iW:Stmt:=top 53
theorem lB:av ["kind","codes","bits","place","found"] ["kind","codes","bits","place"] (ae iW):=by and_intros
abbrev fO:Stmt:=top 54
theorem fe:av ["code","bits","place","found","behind"] ["code","bits","place"] (ae fO):=by and_intros
abbrev iS:Stmt:=top 55
theorem cN:av ["bits","place","found","width","behind","distance"] ["bits","place"] (ae iS):=by and_intros
abbrev dW:Stmt:=top 57
theorem oG:av ["script"] ["script"] (ae dW):=by and_intros
abbrev gM:Stmt:=top 58
theorem fR:av ["number","turn","one"] ["number","turn"] (ae gM):=by and_intros
abbrev fV:Stmt:=top 59
theorem ia:av ["deck","most","number"] ["deck","most"] (ae fV):=by and_intros
abbrev dC:Stmt:=top 63
theorem bS:av ["deck","many","depths","k","deep","at"] ["deck","many"] (ae dC):=by and_intros
abbrev d_:Stmt:=top 64
theorem nH:av ["deck"] ["deck"] (ae d_):=by and_intros
abbrev eB:Stmt:=top 65
theorem dN:av ["deck","size","top"] ["deck"] (ae eB):=by and_intros
abbrev gT:Stmt:=top 66
theorem dU:av ["deck","goals","some","word","box"] ["deck","goals"] (ae gT):=by and_intros
abbrev cC:Stmt:=top 68
theorem bo:av ["deck","kept","many","way","far","error","e"] ["deck","kept","many"] (ae cC):=by and_intros
abbrev dX:Stmt:=top 69
theorem bM:av ["deck","kepts","many","at","kept","row"] ["deck","kepts"] (ae dX):=by and_intros
abbrev ee:Stmt:=top 70
theorem n6:av ["kept"] ["kept"] (ae ee):=by and_intros
abbrev dn:Stmt:=top 71
theorem cW:av ["kept","book","program","bits","spots"] ["kept","book"] (ae dn):=by and_intros
abbrev g_:Stmt:=top 72
theorem dJ:av ["script","deck","book","books","kepts","turn","at","ahead","many","place"] ["script"] (ae g_):=by and_intros
structure Txt (K:W.Frag) (mg:Str->Option Value):Prop where
 oo:mg "ValueError"=none
 GS:mg "abs"=none
 Dw:mg "dict"=none
 dZ:mg "enumerate"=none
 xX:mg "int"=none
 fm:mg "isinstance"=none
 cy:mg "len"=none
 wR:mg "list"=none
 Cs:mg "min"=none
 iw:mg "range"=none
 oV:mg "sorted"=none
 FQ:mg "str"=none
 Hb:mg "sum"=none
 dj:mg "tuple"=none
 yz:mg "zip"=none
 sC:∃a,mg "BOXES"=some (.ref a)/\∀H,bb K H a [.str "a",.str "b",.str "c",.str "d",.str "e",.str "f",.str "g",.str "h"]
 pj:∃a,mg "HALVES"=some (.ref a)/\∀H,bb K H a [.int 8,.int 128,.int 32768]
 oE:∃a,mg "HEADS"=some (.ref a)/\∀H,bb K H a [.str "0",.str "10",.str "11"]
 kh:∃u,mg "OF_BOXES"=some u/\RelV (.int 2) u
 ig:∃u,mg "OF_CLASSES"=some u/\RelV (.int 1) u
 jE:∃u,mg "OF_WORDS"=some u/\RelV (.int 0) u
 zI:∃u,mg "WIDEST"=some u/\RelV (.int 2) u
 lK:∃a,mg "WIDTHS"=some (.ref a)/\∀H,bb K H a [.int 4,.int 8,.int 16]
 BQ:H_ K mg "BOXES"
 lP:∃d,mg "SHAPES"=some (.ref d)/\jL K d [("put",["box","number"]),("add",["box","box"]),("sub",["box","box"]),("copy",["box","box"]),("tell",["box"]),("hear",["box"]),("jump",["goal"]),("zero",["box","goal"]),("halt",[])]
 mc:∃(C_Kept f___init__ f_put_in f_take_out f_program f_bits f_places:Addr) (d___init__ d_put_in d_take_out d_program d_bits d_places:FuncData),mg "Kept"=some (.ref C_Kept)/\lI K C_Kept/\bN K C_Kept "book"/\bN K C_Kept "rows"/\Mk K C_Kept f___init__/\lQ K "__init__" "Kept.__init__" aM f___init__ d___init__/\Binds K d___init__ ["self","book"] []/\Meth K C_Kept "put_in" f_put_in/\lQ K "put_in" "Kept.put_in" bf f_put_in d_put_in/\Binds K d_put_in ["self","place","row"] []/\Meth K C_Kept "take_out" f_take_out/\lQ K "take_out" "Kept.take_out" aX f_take_out d_take_out/\Binds K d_take_out ["self","place"] []/\Meth K C_Kept "program" f_program/\lQ K "program" "Kept.program" aQ f_program d_program/\Binds K d_program ["self"] []/\Meth K C_Kept "bits" f_bits/\lQ K "bits" "Kept.bits" bu f_bits d_bits/\Binds K d_bits ["self"] []/\Meth K C_Kept "places" f_places/\lQ K "places" "Kept.places" aT f_places d_places/\Binds K d_places ["self"] []
 xs:∃C_ShortError C_NoRow C_NoAsk C_NoBits C_NoCode C_NoProgram C_NoReach:Addr,mg "ShortError"=some (.ref C_ShortError)/\mg "NoRow"=some (.ref C_NoRow)/\mg "NoAsk"=some (.ref C_NoAsk)/\mg "NoBits"=some (.ref C_NoBits)/\mg "NoCode"=some (.ref C_NoCode)/\mg "NoProgram"=some (.ref C_NoProgram)/\mg "NoReach"=some (.ref C_NoReach)/\fK K C_ShortError/\fK K C_NoRow/\zH K C_NoRow/\W.mroIn K C_NoRow (.ref C_ShortError)=some true/\W.kitOne K (.ref C_NoRow) (.ref C_NoRow)=some true/\W.kitOne K (.ref C_NoRow) (.type "ValueError")=some true/\W.kitAny K (.ref C_NoRow) [(.ref C_NoAsk),(.ref C_NoBits),(.ref C_NoCode),(.ref C_NoProgram),(.ref C_NoReach)]=some false
 pW:s_ K mg "code_of"
section
variable {P:Program} {w:World} {K:W.Frag} {mg:Str->Option Value} {base:Heap}
namespace Kr
noncomputable def ks(L:Nat):List Nat->Nat
 |[]=>0
 |l::r=>2^(L-l)+ks L r
theorem cK(L:Nat):∀a b,ks L (a++b)=ks L a+ks L b
 |[],b=>by simp[ks]
 |x::a,b=>by simp[ks,cK L a b];lia
theorem hJ{a b:List Nat}(h:a.Perm b):ks L a=ks L b:=by
 induction h with
 |nil=>rfl
 |cons x _ ih=>simp[ks,ih]
 |swap x y l=>simp[ks];lia
 |trans _ _ h1 h2=>exact h1.trans h2
theorem vv{d l:Nat}(h:d<l)(hl:l<=L):2^(L-d)=2*2^(L-(d+1)):=by
 have:L-d=(L-(d+1))+1:=by lia
 rw[this,MR];lia
noncomputable def fit:List Nat->Nat->Nat->Nat->Prop:=λr free depth L=>ks L r<=free*2^(L-depth)
theorem CS{L d:Nat}:∀{r:List Nat},(∀x∈r,d<=x)->ks L r<=r.length*2^(L-d)
 |[],_=>by simp[ks]
 |x::r,h=>by
  have ih:=CS (L:=L) (d:=d) (r:=r) λy hy=>h y (J8 _ hy);have hx:=h x J9;have:=Lk (n:=2) (by decide) (Nat.sub_le_sub_left hx L)
  simp only[ks,JD,Mo];lia
theorem EZ{x:Nat}{r:List Nat}:0<ks L (x::r):=by
 have:=Nat.pow_pos (n:=L-x) (show 0<2 by decide)
 simp only[ks];lia
theorem qR{r:List Nat}{free depth:Nat}(h:∀x∈r,depth<=x)(hf:r.length<=free):fit r free depth L:=
 JC (CS h) (Nat.mul_le_mul_right _ hf)
theorem rY{r:List Nat}{free depth l:Nat}(h:depth<l)(hl:l<=L):fit r free depth L ↔ fit r (free*2) (depth+1) L:=by
 unfold fit;rw[vv h hl,Mj]
theorem wC{r:List Nat}{free l:Nat}(hf:0<free):fit (l::r) free l L ↔ fit r (free-1) l L:=by
 unfold fit;simp only[ks];obtain⟨f,rfl⟩:∃f,free=f+1:=⟨free-1,by lia⟩
 rw[Ms,Mo];lia
theorem wQ{x:Nat}{r:List Nat}{depth L:Nat}:¬ fit (x::r) 0 depth L:=by
 unfold fit;have:=EZ (L:=L) (x:=x) (r:=r);lia
noncomputable def E2(L:Nat)(done:List Nat)(need last:Int):Prop:=0<=need/\0<=last/\∀m:Nat,(need<=m ↔ ks L done<=m*2^(L-last.toNat))
theorem shr(n:Int)(g:Nat)(hn:0<=n)(m:Nat):(1-((0-n) / 2^g)<=(m:Int)) ↔ (1<=m/\n<=((m-1:Nat):Int)*2^g):=by
 have hp:(0:Int)<2^g:=Ob (by decide)
 have h1:(1-((0-n) / 2^g)<=(m:Int)) ↔ (1-(m:Int))<=(0-n) / 2^g:=by lia
 rw[h1,N_ hp];constructor
 ·intro h;have hm:1<=m:=by
   rcases Mt m with z|z
   ·subst z;simp at h;lia
   ·exact z
  refine⟨hm,?_⟩;have e:((m-1:Nat):Int)=(m:Int)-1:=by lia
  rw[e,Oc];rw[Oc] at h;lia
 ·rintro⟨hm,h⟩;have e:((m-1:Nat):Int)=(m:Int)-1:=by lia
  rw[e,Oc] at h;rw[Oc];lia
theorem E2.step{done:List Nat}{need last l:Int}(h:E2 L done need last)(h0:0<=l)(hl:l<=last)(hL:last<=L):
  E2 L (done++[l.toNat]) (1-((0-need) / 2^(last-l).toNat)) l:=by
 obtain⟨n0,l0,hm⟩:=h;refine⟨?_,h0,λm=>?_⟩
 ·have hp:(0:Int)<2^(last-l).toNat:=Ob (by decide)
  have:(0-need) / 2^(last-l).toNat<=0:=Int.ediv_nonpos_of_nonpos_of_neg (by lia) hp
  lia
 ·rw[shr need _ n0 m,cK];simp only[ks];have e1:2^(L-l.toNat)=2^(last-l).toNat*2^(L-last.toNat):=by
   rw[<- Od];congr 1;lia
  have hpos:=Nat.pow_pos (n:=L-l.toNat) (show 0<2 by decide)
  constructor
  ·rintro⟨m1,h⟩;have h':need<=(((m-1)*2^(last-l).toNat:Nat):Int):=by
    rw[Int.natCast_mul,Int.natCast_pow];exact h
   have:=(hm _).mp h';rw[Mj,<- e1] at this;obtain⟨k,rfl⟩:∃k,m=k+1:=⟨m-1,by lia⟩
   rw[Ms] at this;rw[Mo];exact Nat.add_le_add this (J7 _)
  ·intro h;have m1:1<=m:=by
    rcases Mt m with z|z
    ·subst z;lia
    ·exact z
   refine⟨m1,?_⟩;have h':need<=(((m-1)*2^(last-l).toNat:Nat):Int):=by
    refine (hm _).mpr ?_;rw[Mj,<- e1];obtain⟨k,rfl⟩:∃k,m=k+1:=⟨m-1,by lia⟩
    rw[Ms];rw[Mo] at h;exact Nat.le_of_add_le_add_right h
   rw[Int.natCast_mul,Int.natCast_pow] at h';exact h'
end Kr
noncomputable def iV(xs:List Int):List V:=xs.map V.int
theorem c_(xs:List Int):(iV xs).length=xs.length:=Jt ..
theorem oa(xs ys:List Int):iV (xs++ys)=iV xs++iV ys:=JN
theorem CH{xs:List Int}(h:i<xs.length):bX (iV xs) (i:Int)=some (.int xs[i]):=bt (by unfold iV;rw[JA,Jr h];rfl)
theorem rS{xs:List Int}{v:V}(h:(iV xs)[i]?=some v):∃hi:i<xs.length,v=.int xs[i]:=by
 unfold iV at h;rw[JA] at h
 cases e:xs[i]? with
 |none=>rw[e] at h;cases h
 |some x=>rw[e] at h;cases h;obtain⟨hi,rfl⟩:=Jv.mp e;exact⟨hi,rfl⟩
theorem Fc(xs:List Int)(i:Nat)(x:Int):(iV xs).set i (.int x)=iV (xs.set i x):=by unfold iV;rw[NJ]
theorem Dc(h:(i:Int)<(xs.length:Nat)):∃t,t∈xs/\bX xs (i:Int)=some t:=by
 have hn:i<xs.length:=by lia
 exact⟨xs[i],JM hn,bt (Jr hn)⟩
theorem Dj(k:KB ex H H')(hx:∀b∈ex,∃ys,H b=some (.lst ys))(h:H a=some (.tup xs)):H' a=some (.tup xs):=k _ _ h λz=>by
 obtain⟨ys,e⟩:=hx a z;rw[h] at e;cases e
noncomputable def lW(ls:List Int):Prop:=0<ls.length/\ls.length<=20/\∀x∈ls,1<=x/\x<=20
noncomputable def KS(ls:List Int):Nat:=Kr.ks 40 (ls.map Int.toNat)
noncomputable def pT(ls:List Int):Bool:=decide (KS ls<=2^40)
namespace Cw
noncomputable def inc:List Nat->List Nat
 |[]=>[]
 |c::r=>if r.all (· == 49) then (if c=48 then 49::r.map (λ_=>48) else 48::r.map (λ_=>48)) else c::inc r
noncomputable def pad(n:Nat)(w:List Nat):List Nat:=w++List.replicate (n-w.length) 48
noncomputable def ip(w:List Nat)(n:Nat):List Nat:=pad n (inc w)
noncomputable def fS(w:List Nat)(n:Nat):List Nat:=pad n ((w.reverse.dropWhile (· == 49)).reverse.dropLast++[49])
theorem FY:∀w:List Nat,w.all (· == 49)=true->inc w=w.map λ_=>48
 |[],_=>rfl
 |c::r,h=>by
  rw[Lm,Kv] at h;have hc:c=49:=LG.mp h.1;unfold inc;rw[J6 h.2,Jx (by rw[hc];decide),JY]
theorem oq:∀{l:List Nat},l.all (· == 49)=true->l=List.replicate l.length 49
 |[],_=>rfl
 |c::r,h=>by
  rw[Lm,Kv] at h;have hc:c=49:=LG.mp h.1;rw[JD,Ki,<- oq h.2,hc]
theorem Bz(k:Nat):(List.replicate k 49).all (· == 49)=true:=by
 rw[Lc];intro x hx;rw[(K1.mp hx).2];rfl
theorem parts:∀{w:List Nat},(∀c∈w,c=48\/c=49)->w.all (· == 49)=false->∃p k,w=p++48::List.replicate k 49
 |[],_,h=>by cases h
 |c::r,hb,h=>by
  by_cases z:r.all (· == 49)=true
  ·rw[Lm,z,MA] at h;have hc:c=48:=(hb c J9).resolve_right λe=>by rw[e] at h;cases h
   exact⟨[],r.length,by rw[hc,KH,<- oq z]⟩
  ·obtain⟨p,k,e⟩:=parts (w:=r) (λx hx=>hb x (J8 _ hx)) (by simpa using z)
   exact⟨c::p,k,by rw[e];rfl⟩
theorem gn(k:Nat):∀p:List Nat,inc (p++48::List.replicate k 49)=p++49::List.replicate k 48
 |[]=>by
  rw[KH,KH];unfold inc;rw[J6 (Bz k),J6 rfl,List.map_replicate]
 |c::p=>by
  rw[KO];unfold inc;have z:¬ (p++48::List.replicate k 49).all (· == 49)=true:=by
   rw[List.all_append,Lm];simp
  rw[Jx z,gn k p];rfl
theorem qV(k:Nat)(p:List Nat):((p++48::List.replicate k 49).reverse.dropWhile (· == 49)).reverse=p++[48]:=by
 rw[MX,List.reverse_cons,List.reverse_replicate];have e:∀(k:Nat) (t:List Nat),(List.replicate k 49++[48]++t).dropWhile (· == 49)=[48]++t:=λk t=>by
  induction k with
  |zero=>rfl
  |succ k ih=>rw[Ki,KO,KO,Ml,J6 (by decide)];exact ih
 rw[e,MX,Md];rfl
theorem vP{w:List Nat}{n:Nat}(hb:∀c∈w,c=48\/c=49)(h:w.all (· == 49)=false)(hn:w.length<=n):fS w n=ip w n:=by
 obtain⟨p,k,rfl⟩:=parts hb h;unfold fS ip pad;rw[qV,gn,List.dropLast_append_of_ne_nil (by simp)]
 rw[Ju,JD,JJ] at hn;simp only[List.dropLast_singleton,Kq,Ju,JD,JJ,Ks,JT,KO,KH];congr 2;rw[List.replicate_append_replicate];congr 1;lia
noncomputable def val:List Nat->Nat
 |[]=>0
 |c::r=>(c-48)*2^r.length+val r
theorem gc:∀a b:List Nat,val (a++b)=val a*2^b.length+val b
 |[],b=>by simp[val]
 |c::a,b=>by
  rw[KO,val,val,gc a b,Ju,Od,Nat.add_mul,Mj,MB]
theorem eO:∀k,val (List.replicate k 48)=0
 |0=>rfl
 |k+1=>by rw[Ki,val,eO k];simp
theorem lj:∀k,val (List.replicate k 49)+1=2^k
 |0=>rfl
 |k+1=>by
  have:=lj k;rw[Ki,val,JJ,MR];lia
theorem nX:∀w:List Nat,(inc w).length=w.length
 |[]=>rfl
 |c::r=>by
  unfold inc;split
  ·split<;>simp
  ·rw[JD,JD,nX r]
theorem oX:∀{w:List Nat},(∀c∈w,c=48\/c=49)->∀c∈inc w,c=48\/c=49
 |[],_,_,h=>by cases h
 |d::r,hb,c,h=>by
  unfold inc at h
  split at h
  ·split at h
   ·rcases J5.mp h with h|h
    ·exact .inr h
    ·obtain⟨_,_,e⟩:=J_.mp h;exact .inl e.symm
   ·rcases J5.mp h with h|h
    ·exact .inl h
    ·obtain⟨_,_,e⟩:=J_.mp h;exact .inl e.symm
  ·rcases J5.mp h with h|h
   ·rw[h];exact hb d J9
   ·exact oX (λx hx=>hb x (J8 _ hx)) c h
theorem eL{w:List Nat}{n:Nat}(h:w.length<=n):(ip w n).length=n:=by
 unfold ip pad;rw[Ju,JJ,nX];lia
theorem mJ{w:List Nat}{n:Nat}(hb:∀c∈w,c=48\/c=49):∀c∈ip w n,c=48\/c=49:=λc h=>by
 rcases Kj.mp h with h|h
 ·exact oX hb c h
 ·exact .inl (K1.mp h).2
theorem qz{w:List Nat}{n:Nat}(hb:∀c∈w,c=48\/c=49)(h:w.all (· == 49)=false):val (ip w n)=(val w+1)*2^(n-w.length):=by
 unfold ip pad;rw[gc,eO,JJ,nX,Nat.add_zero];congr 1;obtain⟨p,k,rfl⟩:=parts hb h;have:=lj k;rw[gn,gc,gc,val,val,eO,JD,JD,JJ,JJ];lia
theorem xr{w:List Nat}(h:w.all (· == 49)=true):val w+1=2^w.length:=by
 rw[oq h,JJ];exact lj _
structure iK (done:List Nat) (w:List Nat):Prop where
 bits:∀c∈w,c=48\/c=49
 len:w.length<=40
 sum:(val w+1)*2^(40-w.length)=Kr.ks 40 done
theorem iK.zero{done rest w:List Nat}{l:Nat}(h:iK done w)(hk:Kr.ks 40 done+2^(40-l)<=2^40):w.all (· == 49)=false:=by
 cases z:w.all (· == 49) with
 |false=>rfl
 |true =>
  have e:=h.sum;rw[xr z,<- Od,Nat.add_sub_cancel' h.len] at e;have:0<2^(40-l):=Nat.pow_pos (by decide)
  lia
theorem iK.next{done w:List Nat}{l:Nat}(h:iK done w)(hl:w.length<=l)(hl2:l<=40)(hk:Kr.ks 40 done+2^(40-l)<=2^40):iK (done++[l]) (ip w l):=by
 have z:=h.zero (rest:=[]) hk;refine⟨mJ h.bits,by rw[eL hl];exact hl2,?_⟩
 rw[qz h.bits z,eL hl,Nat.add_mul,Mj,<- Od,Kr.cK,<- h.sum];have e:l-w.length+(40-l)=40-w.length:=by lia
 rw[e];simp[Kr.ks]
theorem iK.first{l:Nat}(hl:l<=40):iK [l] (List.replicate l 48):=⟨λc h=>.inl (K1.mp h).2,by rw[JJ];exact hl,by rw[eO,JJ];simp[Kr.ks]⟩
noncomputable def along(nx:List Nat->Nat->List Nat)(ln:Nat->Nat):List Nat->Option (List Nat)×List (List Nat)->Option (List Nat)×List (List Nat)
 |[],s=>s
 |t::r,(a,ws) =>
  let w:=match a with|none=>List.replicate (ln t) 48|some v=>nx v (ln t)
  along nx ln r (some w,ws.set t w)
theorem hG{nx:List Nat->Nat->List Nat}:∀(a b:List Nat) (s:Option (List Nat)×List (List Nat)),along nx ln (a++b) s=along nx ln b (along nx ln a s)
 |[],_,_=>rfl
 |t::r,b,(a,ws)=>hG r b _
theorem gi{nx:List Nat->Nat->List Nat}:∀(o:List Nat) (s:Option (List Nat)×List (List Nat)),(along nx ln o s).2.length=s.2.length
 |[],_=>rfl
 |t::r,(a,ws)=>(gi r _).trans Lh
end Cw
local macro_rules | `(tactic| walk_at "lc") => `(tactic| first | exact Or.inl rfl | exact Or.inr rfl)
local macro_rules | `(tactic| wp_walk using $ts,*) => do
  let ids := ("Nat.reduceAdd Nat.reduceSub Nat.reduceLeDiff L2.Ap.uD L2.Ap.tC L2.Ap.zL L2.Ap.Gb L2.Ap.pR L2.Ap.Gu L2.Ap.zM L2.Ap.FJ L2.Ap.zF L2.Ap.ql L2.Ap.kF L2.Ap.nL L2.Ap.tK L2.Ap.Bg L2.Ap.jb L2.Ap.wJ L2.Ap.wI L2.Ap.la L2.Ap.Ar L2.Ap.Em L2.Ap.zw L2.Ap.GQ L2.Ap.i5 L2.Ap.qm L2.Ap.vi L2.Ap.lH L2.Ap.aZ L2.Ap.xh L2.Ap.og L2.Ap.eV L2.Ap.n5 L2.Ap.zl L2.Ap.p_ L2.Ap.vR L2.Ap.qf L2.Ap.m6 L2.Ap.Ad L2.Ap.pL AI yK L2.Ap.rI L2.Ap.zr L2.Ap.rU L2.Ap.Hz L2.Ap.He L2.Ap.Ht L2.Ap.Ih L2.Ap.Ia L2.Ap.HY L2.Ap.Il L2.Ap.FZ L2.Ap.FL L2.Ap.setRef L2.Ap.E7 L2.Ap.Ff L2.Ap.Hi L2.Ap.IP L2.Ap.IH L2.Ap.DC L2.Ap.Gd L2.Ap.Gf L2.Ap.DM L2.Ap.B3 L2.Ap.Jn L2.start nO uZ IL Iu List.map_cons List.map_nil List.length_cons List.length_nil List.replicate List.cons_append List.nil_append List.append_nil List.getElem?_cons_zero List.getElem?_cons_succ List.set_cons_zero List.set_cons_succ Option.some.injEq exists_eq_left exists_eq_left' V.int.injEq V.str.injEq V.bl.injEq V.ref.injEq List.cons.injEq and_true true_and decide_eq_true_eq Bool.not_eq_true' decide_eq_false_iff_not Bool.false_eq_true L2.Ap.wL L2.Ap.yR L2.Ap.qa L2.Ap.p9 L2.Ap.pK L2.Ap.yk L2.Ap.yC L2.Ap.jN L2.Ap.lE L2.Ap.HQ L2.Ap.HN L2.Ap.HU L2.Ap.HR".splitOn " ").toArray.map λn => Lean.mkIdent n.toName
  `(tactic| simp only [↓reduceIte, $[$ids:ident],*, $[$ts:term],*])
local macro_rules | `(tactic| walk_at "rz") => `(tactic| wp_walk using and_self)
local macro_rules|`(tactic|rfl')=>`(tactic|wp_walk using and_self)
local macro_rules|`(tactic|symm)=>do
  let n:=Lean.mkIdent `N
  let h:=Lean.mkIdent `hN
  `(tactic|(refine $h _ ?_;clear $h $n;refine au λ$n $h=>?_))
local macro_rules|`(tactic|ac_rfl)=>do
  let n:=Lean.mkIdent `N
  let h:=Lean.mkIdent `hN
  `(tactic|(refine $h _ ?_;clear $h $n))
local macro_rules|`(tactic|right)=>`(tactic|walk_at "lc")
local macro_rules|`(tactic|exists $ts,*)=>`(tactic|wp_walk using $ts,*)
local macro_rules|`(tactic|left)=>do
  let i:=#[`args,`Qt,`hl,`h,`f,`cdv,`A,`outer,`s,`H,`E,`hr].map Lean.mkIdent
  let u:=Lean.mkIdent `hu
  `(tactic|(intro $[$i:ident]*;have $u:ident:=aK $(Lean.mkIdent `hr)))
noncomputable def wd(w:List Nat):Str:=⟨w.toArray⟩
theorem bw(w:List Nat):(wd w).length=w.length:=Jy ..
theorem zc{x:Str}{w:List Nat}(h:x.cps.toList=w):x=wd w:=by
 cases x with|mk a=>subst h;unfold wd;rw[Mg]
noncomputable def Gn:Sp:=λvs H Q _=>∃n:Nat,n<=40/\((vs=[.aG,.int (n:Int)]/\Q (.str (wd (List.replicate n 48))) H)\/∃w,vs=[.str (wd w),.int (n:Int)]/\w.length<=40/\Q (.str (wd (Cw.fS w n))) H)
theorem vN(T:Txt K mg)(F:HasFn K mg "word_behind" eC ["ahead","length"]):aq P w K mg base aP 1 "word_behind" ["ahead","length"] Gn:=by
 refine F.eX jG (λvs H Q E h=>?_) (λf cdv A outer s H vs Q E hr h=>?_)
 ·obtain⟨n,hn,⟨rfl,_⟩|⟨_,rfl,_⟩⟩:=h<;>rfl
 ·have hu:=aK hr;obtain⟨n,hn,h⟩:=h;rcases h with ⟨rfl,q⟩|⟨v,rfl,hv,q⟩
  ·refine⟨_,(Z.ao (Z.cJ (Z.aI cR (Z.v 0) Z.aG) (Z.ax (Z.ret (Z.op Y.uj Z.str (Z.v 1)))) Z.b8)
   (Z.ax (Z.ret (Z.bm K rfl PySem.F.plainAttrs_str PySem.F.slot_str_ljust PySem.F.type_str_ljust Y.qj (Z.op (Z.aC K rfl) (Z.slice Y.oC (Z.bm K rfl PySem.F.plainAttrs_str PySem.F.slot_str_rstrip PySem.F.type_str_rstrip Y.mw (Z.v 0) (Z.cons Z.str Z.nil)) Z.rR (Z.oH (Z.un dc Z.int))) Z.str) (Z.cons (Z.v 1) (Z.cons Z.str Z.nil)))))),?_⟩
   refine au λN hN=>?_;walk_at "rz";refine⟨48,_,rfl,rfl,by lia,by lia,?_⟩
   rw[Kg];exact q
  ·refine⟨_,(Z.ao (Z.cJ (Z.aI cR (Z.v 0) Z.aG) (Z.ax (Z.ret (Z.op Y.uj Z.str (Z.v 1)))) Z.b8)
   (Z.ax (Z.ret (Z.bm K rfl PySem.F.plainAttrs_str PySem.F.slot_str_ljust PySem.F.type_str_ljust Y.qj (Z.op (Z.aC K rfl) (Z.slice Y.oC (Z.bm K rfl PySem.F.plainAttrs_str PySem.F.slot_str_rstrip PySem.F.type_str_rstrip Y.mw (Z.v 0) (Z.cons Z.str Z.nil)) Z.rR (Z.oH (Z.un dc Z.int))) Z.str) (Z.cons (Z.v 1) (Z.cons Z.str Z.nil)))))),?_⟩
   refine au λN hN=>?_;walk_at "rz";rw[hN];clear hN N;walk_at "rz";rw[Jx V.noConfusion];refine⟨rfl,wd v,_,rfl,rfl,by rw[bw];exact JC hv (by decide),?_⟩
   have e0:(Str.ofString "1").cps.contains=λc:Nat=>c == 49:=by
    funext c
    show (#[49]:Array Nat).contains c=_;rw[Array.contains_eq_any_beq];simp
   have e1:=pq (wd v) (Str.ofString "1");rw[e0] at e1;have e2:(Txt.rstripChars (wd v) (Str.ofString "1")).cps.toList=(v.reverse.dropWhile (· == 49)).reverse:=by
    rw[<- Md (Txt.rstripChars (wd v) (Str.ofString "1")).cps.toList,e1];rfl
   generalize Txt.rstripChars (wd v) (Str.ofString "1")=r at e2 ⊢;have hr2:r.length<=40:=by
    have:r.length=r.cps.toList.length:=by rw[Kc];rfl
    rw[this,e2,L7];exact JC (M7 _).length_le (by rw[L7];exact hv)
   have e3:(Y.jq r none (some (-1))).cps.toList=r.cps.toList.dropLast:=by
    show (Y.y6 r.cps.toList none (some (-1))).toArray.toList=_;rw[MY];unfold Y.y6;rw[HT.dH,KA,LX,Oo];congr 1;show (if (-1:Int)<0 then ((-1:Int)+(r.cps.toList.length:Int)).toNat else min (-1:Int).toNat r.cps.toList.length)=_
    rw[J6 (by decide)]
    lia
   have hl3:(Y.jq r none (some (-1))).length<=40:=by
    have:(Y.jq r none (some (-1))).length=(Y.jq r none (some (-1))).cps.toList.length:=by rw[Kc];rfl
    rw[this,e3,List.length_dropLast,Kc];exact JC (Nat.sub_le _ _) hr2
   refine⟨r,rfl,JC hr2 (by decide),?_⟩
   refine⟨JC (show _<=41 from Nat.add_le_add_right hl3 1) (by decide),rfl,_,(n:Int),_,rfl,rfl,by lia,by lia,rfl,?_⟩
   have e4:Txt.ljustF (Y.jq r none (some (-1))++Str.ofString "1") (n:Int) ((Str.ofString "0").cps.getD 0 0)=wd (Cw.fS v n):=by
    refine zc ?_;rw[PyProof.Rows.ljustF_list,Kg];have e5:(Y.jq r none (some (-1))++Str.ofString "1").cps.toList=(v.reverse.dropWhile (· == 49)).reverse.dropLast++[49]:=by
     show ((Y.jq r none (some (-1))).cps++#[49]).toList=_;rw[L8,e3,e2]
    have e6:(Y.jq r none (some (-1))++Str.ofString "1").length=((v.reverse.dropWhile (· == 49)).reverse.dropLast++[49]).length:=by
     rw[<- e5,Kc];rfl
    rw[e5,e6];rfl
   rw[e4];exact q
theorem Ax:Str.ofString ""=wd []:=rfl
theorem uT(z y:List Nat)(p:Nat)(hy:y≠[]):Y.lO (wd z) (wd y) (p:Int)=decide (y <+: z.drop p):=by
 have hl:0<y.length:=MZ.mpr hy;unfold Y.lO;have e0:fromIndex (wd z).length (p:Int)=p:=by unfold fromIndex;rw[Jx (by lia)];lia
 rw[e0];have e:Builtin.Str.subAt (wd z) (wd y) p=decide ((z.drop p).take y.length=y):=by
  unfold Builtin.Str.subAt wd;rw[LF,LG,LR,<- Array.toList_inj,Array.toList_extract,N5];rw[show (⟨y.toArray⟩:Str).length=y.length from Jy ..];simp
 rw[e,LF,Kv,LR,LR,LR,List.prefix_iff_eq_take,bw,bw];refine⟨λh=>h.2.symm,λh=>⟨?_,h.symm⟩⟩;have:=Kk List.length h;rw[JK,JW] at this;lia
noncomputable def yG(ws:List (List Nat))(z:List Nat)(p:Nat):Option Nat:=(List.range ws.length).find? λi=>decide (ws.getD i [] <+: z.drop p)
theorem jJ(h:yG ws z p=some t):t<ws.length/\ws.getD t [] <+: z.drop p:=by
 have h1:=N7 h;have h2:=List.find?_some h;exact⟨K9.mp h1,KC h2⟩
theorem xn(h:yG ws z p=none)(ht:t<ws.length):¬ ws.getD t [] <+: z.drop p:=λhp=>by
 have:=List.find?_eq_none.mp h t (K9.mpr ht);exact this (JX hp)
structure Pf (ws:List (List Nat)):Prop where
 ne:∀w∈ws,w≠[]
 pre:∀(i j:Nat) (hi:i<ws.length) (hj:j<ws.length),i≠j->¬ ws[i] <+: ws[j]
theorem Pf.th(h:Pf ws)(ht:t<ws.length)(hp:ws.getD t [] <+: z.drop p):yG ws z p=some t:=by
 cases c:yG ws z p with
 |none=>exact absurd hp (xn c ht)
 |some i =>
  obtain⟨hi,hpi⟩:=jJ c;by_cases e:i=t
  ·rw[e]
  ·have g:∀{k:Nat} (hk:k<ws.length),ws.getD k []=ws[k]:=λhk=>by rw[JF,Jr hk];rfl
   rw[g hi] at hpi;rw[g ht] at hp;rcases List.prefix_or_prefix_of_prefix hpi hp with q|q
   ·exact absurd q (h.pre i t hi ht e)
   ·exact absurd q (h.pre t i ht hi (Ko e))
theorem vW(n:Nat)(h:n<ws.length):(List.range' n (ws.length-n)).find? (λi=>decide (ws.getD i [] <+: z.drop p))=if ws[n] <+: z.drop p then some n else (List.range' (n+1) (ws.length-(n+1))).find? λi=>decide (ws.getD i [] <+: z.drop p):=by
 rw[show ws.length-n=(ws.length-(n+1))+1 by lia,Ld,Li]
 rw[JF,Jr h];show (match decide (ws[n] <+: z.drop p) with|true=>some n|false=>_)=_
 by_cases c:ws[n] <+: z.drop p
 ·rw[JX c,J6 c]
 ·rw[JV c,Jx c]
noncomputable def wV(ws:List (List Nat)):List V:=ws.map λw=>.str (wd w)
noncomputable def wq:Option Nat->V
 |none=>.aG
 |some t=>.int (t:Int)
noncomputable def tI(K:W.Frag):Sp:=λvs H Q _=>∃(a:Addr) (ws:List (List Nat)) (z:List Nat) (p:Nat),vs=[.ref a,.str (wd z),.int (p:Nat)]/\bb K H a (wV ws)/\(∀w∈ws,w≠[])/\ws.length<=100/\z.length<=1000000/\∀H',KB [] H H'->Q (wq (yG ws z p)) H'
theorem zd(T:Txt K mg)(F:HasFn K mg "thing_at" gN ["code","bits","place"]):aq P w K mg base aP 1 "thing_at" ["code","bits","place"] (tI K):=by
 refine F.eX fI (λvs H Q E h=>?_) (λf cdv A outer s H vs Q E hr h=>?_)
 ·obtain⟨a,ws,z,p,rfl,_⟩:=h;rfl
 ·have hu:=aK hr;obtain⟨a,ws,z,p,rfl,ha,hne,h100,hz,q⟩:=h;refine⟨_,(Z.ao (Z.iy Ke rfl (Z.enum K rfl rfl T.dZ (Z.cons (Z.v 0) Z.nil)) (Z.ot (n:=2) K rfl rfl (Z.bP (Z.aY (i:=3) fI.nd rfl (by right)) (Z.bP (Z.aY (i:=4) fI.nd rfl (by right)) Z.hV))) (Z.ax (Z.cJ (Z.tw (Z.uP (Z.aI Fd (Z.v 4) Z.str) (Z.mV (Z.qN K rfl (Z.bm K rfl PySem.F.plainAttrs_str PySem.F.slot_str_startswith PySem.F.type_str_startswith Y.r9 (Z.v 1) (Z.cons (Z.v 4) (Z.cons (Z.v 2) Z.nil))))))) (Z.ax (Z.ret (Z.v 3))) Z.b8)))
   (Z.ax (Z.ret Z.aG))),?_⟩
  refine au λN hN=>?_;walk_at "rz";refine⟨⟨_,ha⟩,?_⟩;refine qP (xs:=wV ws) (λi σ H'=>KB [] H H'/\i<=ws.length/\(List.range' i (ws.length-i)).find? (λi=>decide (ws.getD i [] <+: z.drop p))=yG ws z p/\∃(s3 s4:Option V),σ=[some (.ref a),some (.str (wd z)),some (.int (p:Nat)),s3,s4]) ⟨KB.refl _ _,JL _,by unfold yG;rw[MQ];rfl,none,none,rfl⟩ ?_ ?_ ?_
  ·rintro i σ H' hi ⟨k,_⟩;exact IU ha k
  ·rintro i x σ H' b hx ⟨k,hi,ef,s3,s4,rfl⟩ hb;have hlt:i<ws.length:=by
    have:=(Jv.mp hx).1;unfold wV at this;rw[Jt] at this;exact this
   have ex:x=.str (wd ws[i]):=by
    unfold wV at hx;rw[JA,Jr hlt] at hx;exact (Option.some.inj hx).symm
   subst ex;refine⟨b,_,rfl,bb.of aa,rfl,?_⟩;have k1:KB [] H (upd H' b (.tup [.int i,.str (wd ws[i])])):=k.trans (KB.new hb);generalize upd H' b (.tup [.int i,.str (wd ws[i])])=H1 at k1;have h0:ws[i]≠[]:=hne _ (JM hlt);have hne':¬ wd ws[i]=Str.ofString "":=λe=>h0 (by rw[Ax] at e;exact Kk (λs:Str=>s.cps.toList) e)
   rw[vW i hlt] at ef;walk_at "rz";rw[J6 hne'];refine⟨rfl,_,_,_,rfl,rfl,_,rfl,?_⟩;rw[uT z ws[i] p h0];by_cases c:ws[i] <+: z.drop p
   ·rw[J6 c] at ef;rw[<- ef] at q;rw[J6 (JX c)];exact q _ k1
   ·rw[Jx c] at ef;rw[Jx (by rw[JV c];exact JE)]
    exact⟨k1,hlt,ef,_,_,rfl,rfl⟩
  ·rintro σ H' ⟨k,_,ef,s3,s4,rfl⟩;have e:(wV ws).length=ws.length:=Jt ..;rw[e,Lb] at ef;have ef':yG ws z p=none:=ef.symm;rw[ef'] at q;show N _ _;rw[hN];clear hN N;walk_at "rz";exact q _ k
noncomputable def kZ(ws:List (List Nat))(z:List Nat)(p:Nat):Option (Nat×Nat):=(yG ws z p).map λt=>(t,p+(ws.getD t []).length)
theorem fz{x:Nat×Nat}(hne:∀w∈ws,w≠[])(h:kZ ws z p=some x):x.1<ws.length/\x.2=p+(ws.getD x.1 []).length/\p<x.2/\x.2<=z.length:=by
 unfold kZ at h
 cases c:yG ws z p with
 |none=>rw[c] at h;cases h
 |some t =>
  rw[c] at h;cases h;obtain⟨h1,h2⟩:=jJ c;have h3:=h2.length_le;rw[JW] at h3;have h4:ws.getD t []≠[]:=by rw[JF,Jr h1];exact hne _ (JM h1)
  have h5:=MZ.mpr h4;exact⟨h1,rfl,by show p<p+_;lia,by show p+_<=_;lia⟩
noncomputable def IW(H:Hp)(v:V):Option (Nat×Nat)->Prop
 |none=>v=.aG
 |some x=>∃t,v=.ref t/\H t=some (.tup [.int (x.1:Nat),.int (x.2:Nat)])
noncomputable def iz(K:W.Frag):Sp:=λvs H Q _=>∃(a:Addr) (ws:List (List Nat)) (z:List Nat) (p:Nat),vs=[.ref a,.str (wd z),.int (p:Nat)]/\bb K H a (wV ws)/\(∀w∈ws,w≠[])/\ws.length<=100/\z.length<=1000000/\∀v H',KB [] H H'->IW H' v (kZ ws z p)->Q v H'
theorem xx(T:Txt K mg)(F:HasFn K mg "coded_at" gP ["code","bits","place"])(hthing_at:aq P w K mg base aP 1 "thing_at" ["code","bits","place"] (tI K)):aq P w K mg base aP 2 "coded_at" ["code","bits","place"] (iz K):=by
 refine F.eX jc (λvs H Q E h=>?_) (λf cdv A outer s H vs Q E hr h=>?_)
 ·obtain⟨a,ws,z,p,rfl,_⟩:=h;rfl
 ·have hu:=aK hr;obtain⟨a,ws,z,p,rfl,ha,hne,h100,hz,q⟩:=h;refine⟨_,(Z.ao (Z.se (i:=3) jc.nd (Z.fc hthing_at (Z.cons (Z.v 0) (Z.cons (Z.v 1) (Z.cons (Z.v 2) Z.nil)))))
   (Z.ax (Z.ret (Z.Dq (Z.aI cR (Z.v 3) Z.aG) Z.aG (Z.tup (Z.cons (Z.v 3) (Z.cons (Z.op (Z.aC K rfl) (Z.v 2) (Z.cb (Z.cH K rfl) rfl T.cy (by decide +kernel) (Z.cons (Z.ix (Z.gI K rfl) (Z.v 0) (Z.v 3)) Z.nil))) Z.nil))))))),?_⟩
  refine au λN hN=>?_;walk_at "rz";refine⟨a,ws,z,p,rfl,ha,hne,h100,hz,λH1 k1=>?_⟩;rw[hN];clear hN N;have ha1:=IU ha k1;unfold kZ at q
  cases c:yG ws z p with
  |none =>
   rw[c] at q;unfold wq;walk_at "rz";exact q _ _ k1 rfl
  |some t =>
   rw[c] at q;obtain⟨h1,h2⟩:=jJ c;unfold wq;walk_at "rz";rw[Jx V.noConfusion];have h3:=h2.length_le;rw[JW] at h3;refine⟨a,wV ws,_,.str (wd (ws.getD t [])),rfl,rfl,ha1,bt (by unfold wV;rw[JA,JF,Jr h1];rfl),?_⟩
   walk_at "rz";rw[bw];refine⟨JC (show _<=1000000 by lia) (by decide),by decide,λb hb=>q _ _ (k1.trans (KB.new hb)) ⟨b,rfl,?_⟩⟩
   rw[aa];rfl
noncomputable def d8(z:List Nat):Prop:=∀c∈z,c=48\/c=49
theorem d8.cut(h:d8 z)(a n:Nat):d8 ((z.drop a).take n):=λc hc=>h c (MS (Me hc))
theorem uw(z:List Nat)(a b:Nat)(h1:a<=b)(h2:b<=z.length):Y.jq (wd z) (some (a:Int)) (some (b:Int))=wd ((z.drop a).take (b-a)):=by
 unfold Y.jq wd;congr 2;show Y.y6 z (some (a:Int)) (some (b:Int))=_;unfold Y.y6;rw[HT.fo,HT.fo,MT h2,MT (JC h1 h2)]
noncomputable def zD(ws:List (List Nat))(z:List Nat)(p:Nat):Option (Nat×Nat):=match kZ ws z p with
 |none=>none
 |some x=>if x.1=0 then some x else if x.2+(x.1-1)<=z.length then some (lb (49::(z.drop x.2).take (x.1-1)),x.2+(x.1-1)) else none
theorem Bx(c:Nat)(w:List Nat):wd [c]++wd w=wd (c::w):=zc (by
 show (#[c]++w.toArray).toList=_;rw[L8];rfl)
noncomputable def uq(K:W.Frag):Sp:=λvs H Q _=>∃(a:Addr) (ws:List (List Nat)) (z:List Nat) (p:Nat),vs=[.ref a,.str (wd z),.int (p:Nat)]/\bb K H a (wV ws)/\(∀w∈ws,w≠[])/\ws.length<=20/\d8 z/\z.length<=1000000/\∀v H',KB [] H H'->IW H' v (zD ws z p)->Q v H'
theorem wG(T:Txt K mg)(F:HasFn K mg "number_at" fO ["code","bits","place"])(hcoded_at:aq P w K mg base aP 2 "coded_at" ["code","bits","place"] (iz K)):aq P w K mg base aP 3 "number_at" ["code","bits","place"] (uq K):=by
 refine F.eX fe (λvs H Q E h=>?_) (λf cdv A outer s H vs Q E hr h=>?_)
 ·obtain⟨a,ws,z,p,rfl,_⟩:=h;rfl
 ·have hu:=aK hr;obtain⟨a,ws,z,p,rfl,ha,hne,h20,hb,hz,q⟩:=h;refine⟨_,(Z.ao (Z.se (i:=3) fe.nd (Z.fc hcoded_at (Z.cons (Z.v 0) (Z.cons (Z.v 1) (Z.cons (Z.v 2) Z.nil)))))
   (Z.ao (Z.cJ (Z.tw (Z.Aj (Z.aI cR (Z.v 3) Z.aG) (Z.mh (Z.aI bj (Z.ix (Z.aA K rfl hu) (Z.v 3) Z.int) Z.int)))) (Z.ax (Z.ret (Z.v 3))) Z.b8)
   (Z.ao (Z.se (i:=4) fe.nd (Z.op cO (Z.op (Z.aC K rfl) (Z.ix (Z.aA K rfl hu) (Z.v 3) Z.int) (Z.ix (Z.aA K rfl hu) (Z.v 3) Z.int)) Z.int))
   (Z.ao (Z.cJ (Z.aI kB (Z.v 4) (Z.cb (Z.cH K rfl) rfl T.cy (by decide +kernel) (Z.cons (Z.v 1) Z.nil))) (Z.ax (Z.ret Z.aG)) Z.b8)
   (Z.ax (Z.ret (Z.tup (Z.cons (Z.ct mF rfl T.xX (by decide +kernel) (Z.cons (Z.op (Z.aC K rfl) Z.str (Z.slice Y.oC (Z.v 1) (Z.oH (Z.ix (Z.aA K rfl hu) (Z.v 3) Z.int)) (Z.oH (Z.v 4)))) (Z.cons Z.int Z.nil))) (Z.cons (Z.v 4) Z.nil))))))))),?_⟩
  refine au λN hN=>?_;walk_at "rz";refine⟨a,ws,z,p,rfl,ha,hne,by lia,hz,λv H1 k1 o1=>?_⟩
  rw[hN];clear hN N;refine au λN hN=>?_;unfold zD at q
  cases c:kZ ws z p with
  |none =>
   rw[c] at q o1;obtain rfl:v=.aG:=o1;walk_at "rz";exact q _ _ k1 rfl
  |some x =>
   rw[c] at q o1;obtain⟨t,e⟩:=x;obtain⟨h1,_,h3,h4⟩:=fz hne c;obtain⟨b,rfl,hb1⟩:=o1;dsimp only at q h1 h3 h4 hb1;have sb:=aH hb1;have ne:¬ V.ref b=V.aG:=V.noConfusion;have a0:bX [V.int (t:Int),V.int (e:Int)] 0=some (.int (t:Int)):=rfl;have a1:bX [V.int (t:Int),V.int (e:Int)] 1=some (.int (e:Int)):=rfl;walk_at "rz";simp only[sb,a0,a1,if_neg ne];walk_at "rz";by_cases c0:t=0
   ·subst c0;rw[J6 rfl] at q;rw[J6 (by rfl)]
    exact q _ _ k1 ⟨b,rfl,hb1⟩
   ·rw[Jx c0] at q;have ci:¬ ((t:Nat):Int)=0:=by lia
    rw[Jx ci,hN];clear hN N;refine au λN hN=>?_;walk_at "rz";simp only[sb,a0,a1];walk_at "rz";have eb:(e:Int)+(t:Int)-1=((e+(t-1):Nat):Int):=by lia
    rw[eb,hN];clear hN N;refine au λN hN=>?_;walk_at "rz";refine⟨by rw[bw];exact JC hz (by decide),?_⟩
    rw[bw];by_cases cl:e+(t-1)<=z.length
    ·rw[J6 cl] at q;rw[Jx (by lia),hN];clear hN N
     walk_at "rz";simp only[sb,a0,a1];have hb2:=hb.cut e (t-1);have hll:((z.drop e).take (t-1)).length<=20:=by rw[JK];lia
     have hcl:(49::(z.drop e).take (t-1)).length<=21:=by rw[JD];lia
     refine⟨(e:Int),rfl,wd z,rfl,by rw[bw];exact JC hz (by decide),?_⟩
     rw[uw z _ _ (by lia) cl,NO,show Str.ofString "1"=wd [49] from by decide +kernel]
     show _/\CL [.str (wd [49]++wd ((z.drop e).take (t-1))),.int 2] H1 _;rw[Bx,bw,bw];refine⟨JC (show _<=21 by rw[LV];lia) (by decide),_,rfl,by rw[bw];exact JC hcl (by decide),λc hc=>?_,by simp[wd],by decide,λb2 hb2'=>?_⟩
     ·rcases J5.mp (show c∈49::(z.drop e).take (t-1) from hc) with rfl|hc
      ·exact .inr rfl
      ·exact hb2 c hc
     ·exact q _ _ (k1.trans (KB.new hb2')) ⟨b2,rfl,by rw[aa];rfl⟩
    ·rw[Jx cl] at q;rw[J6 (by lia)]
     exact q _ _ k1 rfl
noncomputable def cQ:Nat->List Nat
 |0=>[48]
 |1=>[49,48]
 |_=>[49,49]
noncomputable def bq:Nat->Nat
 |0=>4
 |1=>8
 |_=>16
noncomputable def bY(k:Nat):Int:=if k=0 then 8 else if k=1 then 128 else 32768
noncomputable def sy:List (List Nat):=[cQ 0,cQ 1,cQ 2]
theorem lY{k:Nat}(h:k<3):k=0\/k=1\/k=2:=by lia
theorem n4:∀w∈sy,w≠[]:=by decide
theorem yH{k:Nat}(h:k<3):sy.getD k []=cQ k:=by rcases lY h with rfl|rfl|rfl<;>rfl
noncomputable def Bh(k n:Nat):Int:=if bY k<=(n:Int) then (n:Int)-2*bY k else (n:Int)
noncomputable def gA(z:List Nat)(p:Nat):Option (Int×Nat):=match kZ sy z p with
 |none=>none
 |some x=>if x.2+bq x.1<=z.length then some (Bh x.1 (lb ((z.drop x.2).take (bq x.1))),x.2+bq x.1) else none
theorem Hr:[V.str (Str.ofString "0"),.str (Str.ofString "10"),.str (Str.ofString "11")]=wV sy:=by
 rw[show Str.ofString "0"=wd [48] from by decide +kernel,show Str.ofString "10"=wd [49,48] from by decide +kernel,show Str.ofString "11"=wd [49,49] from by decide +kernel]
 rfl
noncomputable def Jm(H:Hp)(v:V):Option (Int×Nat)->Prop
 |none=>v=.aG
 |some x=>∃t,v=.ref t/\H t=some (.tup [.int ((x.2:Int)+x.1),.int (x.2:Nat)])
noncomputable def pV(K:W.Frag):Sp:=λvs H Q _=>∃(z:List Nat) (p:Nat),vs=[.str (wd z),.int (p:Nat)]/\d8 z/\z.length<=1000000/\∀v H',KB [] H H'->Jm H' v (gA z p)->Q v H'
theorem vo(T:Txt K mg)(F:HasFn K mg "goal_at" iS ["bits","place"])(hcoded_at:aq P w K mg base aP 2 "coded_at" ["code","bits","place"] (iz K)):aq P w K mg base aP 3 "goal_at" ["bits","place"] (pV K):=by
 refine F.eX cN (λvs H Q E h=>?_) (λf cdv A outer s H vs Q E hr h=>?_)
 ·obtain⟨z,p,rfl,_⟩:=h;rfl
 ·have hu:=aK hr;obtain⟨z,p,rfl,hb,hz,q⟩:=h;obtain⟨aE,hg_HEADS,sE⟩:=T.oE;obtain⟨aW,hg_WIDTHS,sW⟩:=T.lK;obtain⟨aV,hg_HALVES,sV⟩:=T.pj;have hr_HEADS:RelV (.ref aE) (.ref aE):=rfl;have hr_WIDTHS:RelV (.ref aW) (.ref aW):=rfl;have hr_HALVES:RelV (.ref aV) (.ref aV):=rfl;refine⟨_,(Z.ao (Z.se (i:=2) cN.nd (Z.fc hcoded_at (Z.cons (Z.glob rfl hg_HEADS hr_HEADS) (Z.cons (Z.v 0) (Z.cons (Z.v 1) Z.nil)))))
   (Z.ao (Z.cJ (Z.aI cR (Z.v 2) Z.aG) (Z.ax (Z.ret Z.aG)) Z.b8)
   (Z.ao (Z.se (i:=3) cN.nd (Z.ix (Z.aA K rfl hu) (Z.v 2) Z.int))
   (Z.ao (Z.se (i:=4) cN.nd (Z.op (Z.aC K rfl) (Z.ix (Z.aA K rfl hu) (Z.v 2) Z.int) (Z.ix (Z.gI K rfl) (Z.glob rfl hg_WIDTHS hr_WIDTHS) (Z.v 3))))
   (Z.ao (Z.cJ (Z.aI kB (Z.v 4) (Z.cb (Z.cH K rfl) rfl T.cy (by decide +kernel) (Z.cons (Z.v 0) Z.nil))) (Z.ax (Z.ret Z.aG)) Z.b8)
   (Z.ao (Z.se (i:=5) cN.nd (Z.ct mF rfl T.xX (by decide +kernel) (Z.cons (Z.slice Y.oC (Z.v 0) (Z.oH (Z.ix (Z.aA K rfl hu) (Z.v 2) Z.int)) (Z.oH (Z.v 4))) (Z.cons Z.int Z.nil))))
   (Z.ao (Z.cJ (Z.aI sI (Z.v 5) (Z.ix (Z.gI K rfl) (Z.glob rfl hg_HALVES hr_HALVES) (Z.v 3))) (Z.ax (Z.se (i:=5) cN.nd (Z.op cO (Z.v 5) (Z.op dm Z.int (Z.ix (Z.gI K rfl) (Z.glob rfl hg_HALVES hr_HALVES) (Z.v 3)))))) Z.b8)
   (Z.ax (Z.ret (Z.tup (Z.cons (Z.op (Z.aC K rfl) (Z.v 4) (Z.v 5)) (Z.cons (Z.v 4) Z.nil)))))))))))),?_⟩
  refine au λN hN=>?_;walk_at "rz";refine⟨aE,sy,z,p,rfl,by rw[<- Hr];exact sE H,n4,by decide,hz,λv H1 k1 o1=>?_⟩
  rw[hN];clear hN N;refine au λN hN=>?_;unfold gA at q
  cases c:kZ sy z p with
  |none =>
   rw[c] at q o1;obtain rfl:v=.aG:=o1;walk_at "rz";exact q _ _ k1 rfl
  |some x =>
   rw[c] at q o1;obtain⟨k,e⟩:=x;obtain⟨h1,_,h3,h4⟩:=fz n4 c;obtain⟨b,rfl,hb1⟩:=o1;dsimp only at q h1 h3 h4 hb1;have hk:k<3:=h1;have sb:=aH hb1;have ne:¬ V.ref b=V.aG:=V.noConfusion;have a0:bX [V.int (k:Int),V.int (e:Int)] 0=some (.int (k:Int)):=rfl;have a1:bX [V.int (k:Int),V.int (e:Int)] 1=some (.int (e:Int)):=rfl;walk_at "rz";rw[if_neg ne,hN];clear hN N;refine au λN hN=>?_;walk_at "rz";simp only[sb,a0,a1];rw[hN];clear hN N;refine au λN hN=>?_;walk_at "rz";simp only[sb,a0,a1];have aw:bX [V.int 4,.int 8,.int 16] (k:Int)=some (.int (bq k:Nat)):=by rcases lY hk with rfl|rfl|rfl<;>rfl
   have ah:bX [V.int 8,.int 128,.int 32768] (k:Int)=some (.int (bY k)):=by rcases lY hk with rfl|rfl|rfl<;>rfl
   have h16:bq k<=16/\0<bq k:=by rcases lY hk with rfl|rfl|rfl<;>decide
   refine⟨aW,_,_,_,rfl,rfl,sW H1,aw,?_⟩;show N [_,_,_,_,some (V.int ((e:Int)+(bq k:Nat))),none] H1;rw[show (e:Int)+(bq k:Nat)=((e+bq k:Nat):Int) by lia,hN];clear hN N
   refine au λN hN=>?_;walk_at "rz";refine⟨by rw[bw];exact JC hz (by decide),?_⟩
   rw[bw];by_cases cl:e+bq k<=z.length
   ·rw[J6 cl] at q;rw[Jx (by lia),hN];clear hN N
    refine au λN hN=>?_;walk_at "rz";simp only[sb,a0,a1];have hb2:=hb.cut e (bq k);have hl2:((z.drop e).take (bq k)).length=bq k:=by rw[JK,JW];lia
    refine⟨(e:Int),rfl,wd z,rfl,by rw[bw];exact JC hz (by decide),?_⟩
    rw[uw z _ _ (by lia) cl,NO]
    refine⟨_,rfl,by rw[bw,hl2];lia,hb2,λe0=>by have e1:(z.drop e).take (bq k)=[]:=e0;rw[e1] at hl2;simp at hl2;lia,?_⟩
    rw[show (wd ((z.drop e).take (bq k))).cps.toList=(z.drop e).take (bq k) from rfl];generalize lb ((z.drop e).take (bq k))=n at *;unfold Bh at q;show N _ _;rw[hN];clear hN N;refine au λN hN=>?_;walk_at "rz";refine⟨aV,_,_,_,rfl,rfl,sV H1,ah,_,_,rfl,rfl,_,rfl,?_⟩;have fin:∀d:Int,d=(if bY k<=(n:Int) then (n:Int)-2*bY k else (n:Int))->N [some (.str (wd z)),some (.int (p:Nat)),some (.ref b),some (.int (k:Nat)),some (.int ((e+bq k:Nat):Int)),some (.int d)] H1:=λd ed=>by
     rw[hN];clear hN N;walk_at "rz";refine⟨by decide,λb2 hb2'=>q _ _ (k1.trans (KB.new hb2')) ⟨b2,rfl,?_⟩⟩
     rw[aa,ed]
    by_cases ch:bY k<=(n:Int)
    ·rw[J6 (JX ch)];refine⟨aV,_,_,_,rfl,rfl,sV H1,ah,?_⟩;exact⟨.inl (by decide),_,_,rfl,rfl,fin _ (by rw[J6 ch])⟩
    ·rw[Jx (by rw[JV ch];exact JE)]
     exact fin _ (by rw[Jx ch])
   ·rw[Jx cl] at q;rw[J6 (by lia)]
    exact q _ _ k1 rfl
theorem Gw(u:_root_.Fin 2):u=0\/u=1:=by revert u;decide
theorem GL(u:_root_.Fin 3):u=0\/u=1\/u=2:=by revert u;decide
theorem Jf{b:Nat}(h:b<8):b=0\/b=1\/b=2\/b=3\/b=4\/b=5\/b=6\/b=7:=by lia
inductive Row where
 |put (b n:Nat)|two (w:Fin 3) (a b:Nat)|one (w:Fin 2) (b:Nat)|jump (g:Nat)|zero (b g:Nat)|halt
 deriving DecidableEq
noncomputable def dQ(i:Nat):Str:=⟨#[97+i]⟩
noncomputable def w2:Fin 3->Str
 |0=>"add"
 |1=>"sub"
 |2=>"copy"
noncomputable def w1:Fin 2->Str
 |0=>"tell"
 |1=>"hear"
inductive Cn where
 |s (z:Str)|n (k:Nat)
noncomputable def Row.ps:Row->List Cn
 |.put b n=>[.s "put",.s (dQ b),.n n]
 |.two w a b=>[.s (w2 w),.s (dQ a),.s (dQ b)]
 |.one w b=>[.s (w1 w),.s (dQ b)]
 |.jump g=>[.s "jump",.n g]
 |.zero b g=>[.s "zero",.s (dQ b),.n g]
 |.halt=>[.s "halt"]
noncomputable def Row.Ok(size:Nat):Row->Prop
 |.put b n=>b<8/\n<65536
 |.two _ a b=>a<8/\b<8
 |.one _ b=>b<8
 |.jump g=>g<=size
 |.zero b g=>b<8/\g<=size
 |.halt=>True
theorem Row.Ok.mono{a b:Nat}{r:Row}(h:r.Ok a)(hm:a<=b):r.Ok b:=by
 cases r<;>simp only[Row.Ok] at h ⊢<;>lia
theorem EO{k:Int}(h0:0<=k)(h1:k<8):bX (Str.ofString "abcdefgh").cps.toList k=some (97+k.toNat):=by
 have e:(Str.ofString "abcdefgh").cps.toList=[97,98,99,100,101,102,103,104]:=by decide +kernel
 rw[e];obtain⟨n,rfl⟩:∃n:Nat,k=n:=⟨k.toNat,by lia⟩
 unfold bX lJ;have hn:n<8:=by lia
 rw[J6 (by lia),J6 (by simp;lia)]
 show [97,98,99,100,101,102,103,104][((n:Nat):Int).toNat]?=some (97+((n:Nat):Int).toNat);rw[Kg];rcases Jf hn with rfl|rfl|rfl|rfl|rfl|rfl|rfl|rfl<;>rfl
noncomputable def aU(ls:List Int)(t:Nat):Nat:=(ls.getD t 0).toNat
noncomputable def ba(ls:List Int):List Nat:=j8 ls (List.range ls.length)
noncomputable def wordsOf(nx:List Nat->Nat->List Nat)(ls:List Int):List (List Nat):=(Cw.along nx (aU ls) (ba ls) (none,List.replicate ls.length [])).2
noncomputable def ff(ls:List Int)(done:List Nat):Option (List Nat)×List (List Nat):=Cw.along Cw.fS (aU ls) done (none,List.replicate ls.length [])
theorem sZ{v:List Nat}{n:Nat}(hv:v.length<=40)(hn:n<=40):(Cw.fS v n).length<=40:=by
 have h1:((v.reverse.dropWhile (· == 49)).reverse.dropLast).length<=39:=by
  rw[List.length_dropLast,L7];have:=(M7 (· == 49) (l:=v.reverse)).length_le;rw[L7] at this;lia
 unfold Cw.fS Cw.pad;rw[Ju,JJ,Ju,LV];lia
theorem j6(h:t∈ba ls):t<ls.length:=K9.mp ((jV (by rw[Kx])).mem_iff.mp h)
theorem Et(ls:List Int)(done:List Nat):(ff ls done).2.length=ls.length:=by
 unfold ff;rw[Cw.gi,JJ]
namespace Cw
noncomputable def Dv(a b:List Nat):Prop:=∃u,u++[48] <+: a/\u++[49] <+: b
theorem pI{u v:List Nat}{c d:Nat}{b:List Nat}(h1:u++[c] <+: b)(h2:v++[d] <+: b)(hl:u.length<v.length):u++[c] <+: v:=by
 have h3:v <+: b:=(Mw v [d]).trans h2;exact L9 h1 h3 (by rw[Ju];exact hl)
theorem Dv.trans{a b c:List Nat}(h:Dv a b)(g:Dv b c):Dv a c:=by
 obtain⟨u,h1,h2⟩:=h;obtain⟨v,g1,g2⟩:=g;rcases Nz u.length v.length with e|e|e
 ·exact⟨u,h1,(pI h2 g1 e).trans ((Mw v [49]).trans g2)⟩
 ·have p1:(u++[49]).length=(v++[48]).length:=by rw[Ju,Ju,e];rfl
  have p2:u++[49]=v++[48]:=(L9 h2 g1 (by lia)).eq_of_length p1
  have p3:[49]=[48]:=(List.append_inj' p2 rfl).2;exact absurd p3 (by decide)
 ·exact⟨v,(pI g1 h2 e).trans ((Mw u [48]).trans h1),g2⟩
theorem Dv.not{a b:List Nat}(h:Dv a b):¬ a <+: b/\¬ b <+: a:=by
 obtain⟨u,h1,h2⟩:=h;have key:∀c,u++[48] <+: c->u++[49] <+: c->False:=λc p q=>by
  have e:u++[48]=u++[49]:=(L9 p q (by simp)).eq_of_length (by simp)
  exact absurd (List.append_cancel_left e) (by decide)
 exact⟨λp=>key b (h1.trans p) h2,λp=>key a h1 (h2.trans p)⟩
theorem Dv.lt{a b:List Nat}(h:Dv a b):a<b:=by
 obtain⟨u,⟨x,rfl⟩,⟨y,rfl⟩⟩:=h
 induction u with
 |nil=>exact List.Lex.rel (by decide)
 |cons c u ih=>exact List.Lex.cons ih
theorem An{w:List Nat}{n:Nat}(hb:∀c∈w,c=48\/c=49)(h:w.all (· == 49)=false):Dv w (ip w n):=by
 obtain⟨p,k,rfl⟩:=parts hb h;unfold ip pad;rw[gn];exact⟨p,⟨List.replicate k 49,by simp⟩,⟨List.replicate k 48++List.replicate (n-(p++49::List.replicate k 48).length) 48,by simp⟩⟩
noncomputable def oy(ln:Nat->Nat)(a:Option (List Nat))(t:Nat):List Nat:=match a with
 |none=>List.replicate (ln t) 48
 |some v=>fS v (ln t)
noncomputable def jO(ln:Nat->Nat):Option (List Nat)->List Nat->List (List Nat)
 |_,[]=>[]
 |a,t::r=>oy ln a t::jO ln (some (oy ln a t)) r
theorem yI:∀(order done:List Nat) (a:Option (List Nat)),(order.Pairwise λi j=>ln i<=ln j)->(∀t∈order,ln t<=40)->(∀v,a=some v->iK done v/\∀t∈order,v.length<=ln t)->(a=none->done=[])->Kr.ks 40 (done++order.map ln)<=2^40 ->
  (∀v,a=some v->∀x∈jO ln a order,Dv v x)/\(jO ln a order).Pairwise Dv/\∀(i t:Nat),order[i]?=some t->∃w,(jO ln a order)[i]?=some w/\w.length=ln t
 |[],_,_,_,_,_,_,_=>⟨λ_ _ x hx=>(by cases hx),List.Pairwise.nil,λi t e=>(by cases e)⟩
 |t::r,done,a,hp,h40,ha,hn,hk=>by
  obtain⟨p1,p2⟩:=Kb.mp hp;have ht:=h40 t J9;have hk':Kr.ks 40 ((done++[ln t])++r.map ln)<=2^40:=by rw[JT];exact hk
  have fin:∀w:List Nat,w=oy ln a t->iK (done++[ln t]) w->w.length=ln t->(∀v,a=some v->Dv v w) ->
    (∀v,a=some v->∀x∈jO ln a (t::r),Dv v x)/\(jO ln a (t::r)).Pairwise Dv/\∀(i s:Nat),(t::r)[i]?=some s->∃w,(jO ln a (t::r))[i]?=some w/\w.length=ln s:=λw ew hH hl hd=>by
   obtain⟨q1,q2,q3⟩:=yI r (done++[ln t]) (some w) p2 (λx hx=>h40 x (J8 _ hx)) (λv e=>by cases e;exact⟨hH,λx hx=>by rw[hl];exact p1 x hx⟩) (λe=>by cases e) hk'
   have es:jO ln a (t::r)=w::jO ln (some w) r:=by rw[ew];rfl
   rw[es];refine⟨λv e x hx=>?_,Kb.mpr ⟨λx hx=>q1 w rfl x hx,q2⟩,λi s e=>?_⟩
   ·rcases J5.mp hx with rfl|hx
    ·exact hd v e
    ·exact (hd v e).trans (q1 w rfl x hx)
   ·cases i with
    |zero=>cases e;exact⟨w,rfl,hl⟩
    |succ i=>exact q3 i s (by simpa using e)
  cases a with
  |none =>
   have:=hn rfl;subst this;exact fin _ rfl (iK.first ht) (show (List.replicate (ln t) 48).length=ln t by rw[JJ]) (λv e=>by cases e)
  |some v =>
   obtain⟨hv,hl⟩:=ha v rfl;have hvl:=hl t J9;have hk2:Kr.ks 40 done+2^(40-ln t)<=2^40:=by
    rw[Kr.cK,Kr.cK] at hk';simp[Kr.ks] at hk'
    omega
   have z:=hv.zero (rest:=[]) hk2;have e:=vP hv.bits z hvl;refine fin _ rfl ?_ ?_ ?_
   ·show iK _ (fS v (ln t));rw[e];exact hv.next hvl ht hk2
   ·show (fS v (ln t)).length=_;rw[e];exact eL hvl
   ·intro u eu;cases eu;show Dv v (fS v (ln t));rw[e];exact An hv.bits z
theorem pA:∀(order:List Nat) (a:Option (List Nat)) (ws:List (List Nat)),order.Nodup->(∀t∈order,t<ws.length)->(∀(i t:Nat),order[i]?=some t->(along fS ln order (a,ws)).2[t]?=(jO ln a order)[i]?)/\∀t,t∉order->(along fS ln order (a,ws)).2[t]?=ws[t]?
 |[],_,_,_,_=>⟨λi t e=>(by cases e),λ_ _=>rfl⟩
 |t::r,a,ws,hn,hl=>by
  obtain⟨n1,n2⟩:=KY.mp hn;have ht:=hl t J9;have ea:along fS ln (t::r) (a,ws)=along fS ln r (some (oy ln a t),ws.set t (oy ln a t)):=by cases a<;>rfl
  rw[ea];obtain⟨q1,q2⟩:=pA r (some (oy ln a t)) (ws.set t (oy ln a t)) n2 (λx hx=>by rw[Lh];exact hl x (J8 _ hx))
  refine⟨λi s e=>?_,λs hs=>?_⟩
  ·cases i with
   |zero =>
    cases e;exact (q2 t n1).trans (by rw[Lq ht];rfl)
   |succ i=>exact q1 i s (by simpa using e)
  ·have h1:s≠t:=λz=>hs (by rw[z];exact J9)
   have h2:s∉r:=λz=>hs (J8 _ z);exact (q2 s h2).trans (by rw[LZ (Ko h1)])
noncomputable def Lx(p q:Int×Nat):Prop:=p.1<q.1\/(p.1=q.1/\p.2<q.2)
theorem zY{p:Int×Nat}:∀{l:List (Int×Nat)},l.Pairwise Lx->(∀q∈l,p.2<q.2)->(i9 p l).Pairwise Lx
 |[],_,_=>NN _ _
 |q::r,h,hp=>by
  obtain⟨h1,h2⟩:=Kb.mp h;have hq:=hp q J9;unfold i9;split
  ·rename_i c;refine Kb.mpr ⟨λz hz=>?_,h⟩;have hz2:=hp z hz;have:q.1<=z.1:=by
    rcases J5.mp hz with rfl|hz
    ·exact NX _
    ·have:=h1 z hz;unfold Lx at this;omega
   unfold Lx;omega
  ·rename_i c;refine Kb.mpr ⟨λz hz=>?_,zY h2 λz hz=>hp z (J8 _ hz)⟩;rcases J5.mp ((fX p r).mem_iff.mp hz) with rfl|hz
   ·unfold Lx;omega
   ·exact h1 z hz
theorem ud:∀{l:List (Int×Nat)},(l.Pairwise λp q=>p.2<q.2)->(eM l).Pairwise Lx
 |[],_=>.nil
 |p::r,h=>by
  obtain⟨h1,h2⟩:=Kb.mp h;exact zY (ud h2) λq hq=>h1 q ((dP r).mem_iff.mp hq)
end Cw
structure Canon (ls:List Int) (W:List (List Nat)):Prop where
 len:W.length=ls.length
 GI:∀t,t<ls.length->(W.getD t []).length=aU ls t
 part:∀s t,s<ls.length->t<ls.length->(ls.getD s 0<ls.getD t 0\/(ls.getD s 0=ls.getD t 0/\s<t))->Cw.Dv (W.getD s []) (W.getD t [])
theorem m_(ls:List Int):ls.zip (List.range ls.length)=(List.range ls.length).map λt=>(ls.getD t 0,t):=by
 apply Mf
 ·simp
 ·intro i h1 h2;simp at h1;simp[h1]
theorem canon(hL:lW ls)(hk:KS ls<=2^40):Canon ls (wordsOf Cw.fS ls):=by
 have hS:(Cw.Lx · ·)=(Cw.Lx · ·):=rfl;have hlx:(eM (ls.zip (List.range ls.length))).Pairwise Cw.Lx:=by
  refine Cw.ud ?_;rw[m_];exact M4.mpr NZ
 have hmem:∀p∈eM (ls.zip (List.range ls.length)),p.1=ls.getD p.2 0/\p.2<ls.length:=λp hp=>by
  have:=(dP _).mem_iff.mp hp;rw[m_] at this;obtain⟨t,ht,rfl⟩:=J_.mp this;exact⟨rfl,K9.mp ht⟩
 have hord:(ba ls).Pairwise λs t=>ls.getD s 0<ls.getD t 0\/(ls.getD s 0=ls.getD t 0/\s<t):=by
  unfold ba j8;refine M4.mpr (hlx.imp_of_mem λ{p q} hp hq h=>?_);rw[<- (hmem p hp).1,<- (hmem q hq).1];exact h
 have hperm:(ba ls).Perm (List.range ls.length):=jV (by rw[Kx])
 have hnd:(ba ls).Nodup:=hperm.nodup_iff.mpr List.nodup_range;have hb:∀t,t<ls.length->1<=ls.getD t 0/\ls.getD t 0<=40:=λt ht=>by
  rw[JF,Jr ht];have:=hL.2.2 _ (JM ht);show 1<=ls[t]/\ls[t]<=40;lia
 have hmm:∀t∈ba ls,t<ls.length:=λt ht=>j6 ht;have hks:Kr.ks 40 ([]++(ba ls).map (aU ls))<=2^40:=by
  rw[KH,Kr.hJ (hperm.map (aU ls))];have e:(List.range ls.length).map (aU ls)=ls.map Int.toNat:=by
   apply Mf
   ·simp
   ·intro i h1 h2;simp at h1;simp[aU,h1]
  rw[e];exact hk
 obtain⟨_,q2,q3⟩:=Cw.yI (ln:=aU ls) (ba ls) [] none (hord.imp_of_mem λ{s t} hs ht h=>by
  have:=hb s (hmm s hs);have:=hb t (hmm t ht);unfold aU;omega) (λt ht=>by have:=hb t (hmm t ht);unfold aU;omega) (λv e=>by cases e) (λ_=>rfl) hks
 obtain⟨a1,_⟩:=Cw.pA (ln:=aU ls) (ba ls) none (List.replicate ls.length []) hnd (λt ht=>by rw[JJ];exact hmm t ht)
 have hat:∀t,t<ls.length->∃i w,(ba ls)[i]?=some t/\(Cw.jO (aU ls) none (ba ls))[i]?=some w/\w.length=aU ls t/\(wordsOf Cw.fS ls).getD t []=w:=λt ht=>by
  obtain⟨i,hi⟩:=MG.mp (hperm.mem_iff.mpr (K9.mpr ht));obtain⟨w,hw,hl⟩:=q3 i t hi;refine⟨i,w,hi,hw,hl,?_⟩;unfold wordsOf;rw[JF,a1 i t hi,hw];rfl
 refine⟨?_,λt ht=>?_,λs t hs ht h=>?_⟩
 ·unfold wordsOf;rw[Cw.gi,JJ]
 ·obtain⟨i,w,_,_,hl,e⟩:=hat t ht;rw[e];exact hl
 ·obtain⟨i,w,h1,h2,_,e⟩:=hat s hs;obtain⟨j,v,g1,g2,_,e'⟩:=hat t ht;rw[e,e'];obtain⟨hi,rfl⟩:=Jv.mp h2;obtain⟨hj,rfl⟩:=Jv.mp g2;obtain⟨hi',ei⟩:=Jv.mp h1;obtain⟨hj',ej⟩:=Jv.mp g1;have hij:i<j:=by
   rcases Nz i j with c|c|c
   ·exact c
   ·subst c;have est:s=t:=ei.symm.trans ej;subst est
    exfalso;omega
   ·have:=Lz.mp hord j i hj' hi' c;rw[ei,ej] at this
    exfalso;omega
  exact Lz.mp q2 i j hi hj hij
noncomputable def dg(n:Int):Nat:=48+(n % 2).toNat
noncomputable def bF:Int->Nat->List Nat->List Nat
 |_,0,acc=>acc
 |n,k+1,acc=>bF (n / 2) k (dg n::acc)
theorem dz:∀(k:Nat) (n:Int) (acc:List Nat),(bF n k acc).length=k+acc.length
 |0,_,_=>by rw[bF,LY]
 |k+1,n,acc=>by rw[bF,dz k,JD];lia
theorem lp:∀(k:Nat) (n:Int) (acc:List Nat),∃d,bF n (k+1) acc=d::bF n k acc
 |0,n,acc=>⟨dg n,rfl⟩
 |k+1,n,acc=>by
  obtain⟨d,e⟩:=lp k (n / 2) (dg n::acc);exact⟨d,e⟩
theorem Fj(n:Int):dg n=48\/dg n=49:=by
 unfold dg;have:n % 2=0\/n % 2=1:=by lia
 rcases this with e|e<;>rw[e]
 ·exact .inl rfl
 ·exact .inr rfl
theorem gS:∀(k:Nat) (n:Int) (acc:List Nat),(∀c∈acc,c=48\/c=49)->∀c∈bF n k acc,c=48\/c=49
 |0,_,_,h=>h
 |k+1,n,acc,h=>gS k (n / 2) (dg n::acc) λc hc=>by
  rcases J5.mp hc with rfl|hc
  ·exact Fj n
  ·exact h c hc
theorem DL(n:Int):Str.ofString (toString (n % 2))=wd [dg n]:=by
 have:n % 2=0\/n % 2=1:=by lia
 unfold dg;rcases this with e|e<;>rw[e]
 ·exact (by decide +kernel)
 ·exact (by decide +kernel)
theorem ki(a b:List Nat):wd a++wd b=wd (a++b):=by
 apply zc;show (a.toArray++b.toArray).toList=_;simp
theorem xW:Str.ofString ""=wd []:=by decide +kernel
noncomputable def bz(n:Nat):Nat:=Builtin.Int.intBits (n:Int)
noncomputable def eA(n:Nat):List Nat:=bF (n:Int) (bz n) []
theorem jz{n:Nat}(h:n<65536):bz n<17:=by
 unfold bz Builtin.Int.intBits;split
 ·decide
 ·rename_i hz;have h0:n≠0:=λz=>hz (by rw[z];rfl)
  show (n:Int).natAbs.log2+1<17;rw[Nk];have:=(Nat.log2_lt (n:=n) (k:=16) h0).mpr (by lia)
  lia
noncomputable def cX(k:Nat)(d:Int):List Nat:=cQ k++bF d (bq k) []
theorem Fz{n:Nat}(h:0<n):Builtin.Int.intBits (n:Int)=Builtin.Int.intBits ((n / 2:Nat):Int)+1:=by
 unfold Builtin.Int.intBits;rw[Jx (by simp;lia)]
 show (n:Int).natAbs.log2+1=_;rw[Nk,Nat.log2_def];split
 ·rw[Jx (by simp;lia),Nk]
 ·have e:n / 2=0:=by lia
  rw[e];rfl
noncomputable def Row.wi:Row->Nat
 |.put _ _=>0
 |.two u _ _=>1+u
 |.one u _=>4+u
 |.jump _=>6
 |.zero _ _=>7
 |.halt=>8
theorem Row.zZ(r:Row):r.wi<9:=by
 cases r with
 |two u a b=>exact (by decide:∀u:_root_.Fin 3,1+(u:Nat)<9) u
 |one u b=>exact (by decide:∀u:_root_.Fin 2,4+(u:Nat)<9) u
 |put b n=>exact (by decide:0<9)
 |jump g=>exact (by decide:6<9)
 |zero b g=>exact (by decide:7<9)
 |halt=>exact (by decide:8<9)
inductive Pk where
 |box (b:Nat)|num (n:Nat)|goal (g:Nat)
noncomputable def Pk.kd:Pk->Str
 |.box _=>"box"
 |.num _=>"number"
 |.goal _=>"goal"
noncomputable def Pk.Ok:Pk->Prop
 |.box b=>b<8
 |.num n=>n<65536
 |.goal _=>True
noncomputable def Pk.qB:Pk->List (Nat×Nat)
 |.box b=>[(2,b)]
 |.num n=>[(1,bz n)]
 |.goal _=>[]
noncomputable def Row.wd:Row->Str
 |.put _ _=>"put"
 |.two u _ _=>w2 u
 |.one u _=>w1 u
 |.jump _=>"jump"
 |.zero _ _=>"zero"
 |.halt=>"halt"
noncomputable def Row.fF:Row->List Pk
 |.put b n=>[.box b,.num n]
 |.two _ a b=>[.box a,.box b]
 |.one _ b=>[.box b]
 |.jump g=>[.goal g]
 |.zero b g=>[.box b,.goal g]
 |.halt=>[]
theorem Row.zb{r:Row}{k:Nat}(h:r.Ok k):∀p∈r.fF,p.Ok:=by
 cases r with
 |put b n=>simp only[Row.fF,J5,Ka,KU];exactλp z=>z.elim (λe=>e ▸ h.1) λe=>e ▸ h.2
 |two u a b=>simp only[Row.fF,J5,Ka,KU];exactλp z=>z.elim (λe=>e ▸ h.1) λe=>e ▸ h.2
 |one u b=>simp only[Row.fF,J5,Ka,KU];rintro p rfl;exact h
 |jump g=>simp only[Row.fF,J5,Ka,KU];rintro p rfl;exact trivial
 |zero b g=>simp only[Row.fF,J5,Ka,KU];exactλp z=>z.elim (λe=>e ▸ h.1) λe=>e ▸ trivial
 |halt=>simp[Row.fF]
noncomputable def cF(r:Row):List (Nat×Nat):=(0,r.wi)::r.fF.flatMap Pk.qB
noncomputable def cg:List Str:=["put","add","sub","copy","tell","hear","jump","zero","halt"]
theorem Ho:∀k,k<9->∀m,m<k->cg[m]?≠cg[k]?:=by decide +kernel
theorem CO(r:Row):cg[r.wi]?=some r.wd/\∀m,m<r.wi->cg[m]?≠some r.wd:=by
 have h1:cg[r.wi]?=some r.wd:=by
  cases r with
  |two u a b=>exact (by decide +kernel:∀u:_root_.Fin 3,cg[1+(u:Nat)]?=some (w2 u)) u
  |one u b=>exact (by decide +kernel:∀u:_root_.Fin 2,cg[4+(u:Nat)]?=some (w1 u)) u
  |put b n=>rfl
  |jump g=>rfl
  |zero b g=>rfl
  |halt=>rfl
 exact⟨h1,λm hm=>by rw[<- h1];exact Ho _ r.zZ m hm⟩
noncomputable def bG:List (Str×List Str):=[("put",["box","number"]),("add",["box","box"]),("sub",["box","box"]),("copy",["box","box"]),("tell",["box"]),("hear",["box"]),("jump",["goal"]),("zero",["box","goal"]),("halt",[])]
theorem uM(r:Row):KTD.datumAt r.wd bG=some (r.fF.map Pk.kd):=by
 cases r with
 |two u a b=>exact (by decide +kernel:∀u:_root_.Fin 3,KTD.datumAt (w2 u) bG=some [("box":Str),"box"]) u
 |one u b=>exact (by decide +kernel:∀u:_root_.Fin 2,KTD.datumAt (w1 u) bG=some [("box":Str)]) u
 |put b n=>exact (by decide +kernel:KTD.datumAt ("put":Str) bG=some [("box":Str),"number"])
 |jump g=>exact (by decide +kernel:KTD.datumAt ("jump":Str) bG=some [("goal":Str)])
 |zero b g=>exact (by decide +kernel:KTD.datumAt ("zero":Str) bG=some [("box":Str),"goal"])
 |halt=>exact (by decide +kernel:KTD.datumAt ("halt":Str) bG=some ([]:List Str))
noncomputable def Fv:List Str:=["a","b","c","d","e","f","g","h"]
theorem yS{b:Nat}(h:b<8):Fv[b]?=some (dQ b)/\∀m,m<b->Fv[m]?≠some (dQ b):=(by decide +kernel:∀b,b<8->Fv[b]?=some (dQ b)/\∀m,m<b->Fv[m]?≠some (dQ b)) b h
theorem ka:∀(o:List Nat) (a:Option (List Nat)) (ws:List (List Nat)),(∀t∈o,ln t<=40)->(∀v,a=some v->v.length<=40)->(∀x∈ws,x.length<=40)->∀x∈(Cw.along Cw.fS ln o (a,ws)).2,x.length<=40
 |[],_,_,_,_,h=>h
 |t::o,a,ws,ho,ha,hw=>by
  have ht:=ho t J9;have h2:=λt h=>ho t (J8 _ h)
  cases a with
  |none =>
   refine ka o (some (List.replicate (ln t) 48)) _ h2 (λv e=>by cases e;rw[JJ];exact ht) λx hx=>?_
   rcases Kw hx with z|z
   ·exact hw x z
   ·rw[z,JJ];exact ht
  |some v =>
   have hv:=sZ (ha v rfl) ht;refine ka o (some (Cw.fS v (ln t))) _ h2 (λv e=>by cases e;exact hv) λx hx=>?_
   rcases Kw hx with z|z
   ·exact hw x z
   ·rw[z];exact hv
theorem zg(hL:lW ls):∀x∈wordsOf Cw.fS ls,x.length<=40:=by
 refine ka _ _ _ (λt ht=>?_) (λv e=>by cases e) λx hx=>by rw[(K1.mp hx).2];decide
 have h:=j6 ht;have:=hL.2.2 _ (JM h);unfold aU;rw[JF,Jr h];show ls[t].toNat<=40;lia
theorem iM(ls:List Int):(wordsOf Cw.fS ls).length=ls.length:=(Cw.gi _ _).trans (JJ ..)
structure Cd (cd:List (List (List Nat))):Prop where
 ex:∃a b c,cd=[a,b,c]/\a.length=9/\b.length=17/\c.length=8
 le:∀ws∈cd,∀x∈ws,x.length<=40
noncomputable def aL(cd:List (List (List Nat)))(p:Nat×Nat):List Nat:=(cd.getD p.1 []).getD p.2 []
noncomputable def fG:Row->List Nat
 |.put _ n=>(eA n).tail
 |_=>[]
noncomputable def b7(cd:List (List (List Nat)))(r:Row):List Nat:=(cF r).flatMap (aL cd)++fG r
noncomputable def Bk(bk:List (List Int)):Prop:=∃a b c,bk=[a,b,c]/\a.length=9/\b.length=17/\c.length=8/\∀l∈bk,lW l/\pT l=true
noncomputable def gw(bk:List (List Int)):List (List (List Nat)):=bk.map (wordsOf Cw.fS)
theorem Bk.cd{bk:List (List Int)}(h:Bk bk):Cd (gw bk):=by
 obtain⟨a,b,c,rfl,h1,h2,h3,h4⟩:=h;refine⟨⟨_,_,_,rfl,by rw[iM,h1],by rw[iM,h2],by rw[iM,h3]⟩,λws hw=>?_⟩
 obtain⟨l,hl,rfl⟩:=J_.mp hw;exact zg (h4 l hl).1
theorem nW:∀l:List (List Nat),(Str.ofString "").join (l.map wd)=wd l.flatten
 |[]=>rfl
 |[x]=>by simp[Str.join]
 |x::y::r=>by
  show wd x++Str.ofString ""++(Str.ofString "").join ((y::r).map wd)=_;rw[nW (y::r),xW,ki,ki,Kq];rfl
theorem yT{r:Row}{k:Nat}(h:r.Ok k):∀p∈cF r,(p.1=0/\p.2<9)\/(p.1=1/\p.2<17)\/(p.1=2/\p.2<8):=by
 intro p hp;unfold cF at hp;rcases J5.mp hp with rfl|hp
 ·exact .inl ⟨rfl,r.zZ⟩
 ·obtain⟨q,hq,hp⟩:=List.mem_flatMap.mp hp;have:=Row.zb h q hq
  cases q with
  |box b=>rw[JG.mp hp];exact .inr (.inr ⟨rfl,this⟩)
  |num n=>rw[JG.mp hp];exact .inr (.inl ⟨rfl,jz this⟩)
  |goal n=>cases hp
theorem Cd.at{cd:List (List (List Nat))}(h:Cd cd){p:Nat×Nat}(hp:(p.1=0/\p.2<9)\/(p.1=1/\p.2<17)\/(p.1=2/\p.2<8)):cd[p.1]?=some (cd.getD p.1 [])/\(cd.getD p.1 [])[p.2]?=some (aL cd p)/\(aL cd p).length<=40:=by
 obtain⟨a,b,c,rfl,h1,h2,h3⟩:=h.ex;have key:∀(l:List (List Nat)) (i:Nat),i<l.length->l[i]?=some (l.getD i [])/\l.getD i []∈l:=λl i hi=>by
  rw[JF,Jr hi];exact⟨rfl,JM hi⟩
 obtain⟨x,y⟩:=p;rcases hp with ⟨rfl,hy⟩|⟨rfl,hy⟩|⟨rfl,hy⟩
 ·have:=key a y (by rw[h1];exact hy)
  exact⟨rfl,this.1,h.le a (by simp) _ this.2⟩
 ·have:=key b y (by rw[h2];exact hy)
  exact⟨rfl,this.1,h.le b (by simp) _ this.2⟩
 ·have:=key c y (by rw[h3];exact hy)
  exact⟨rfl,this.1,h.le c (by simp) _ this.2⟩
theorem ny(r:Row):(cF r).length<=3:=by cases r<;>simp[cF,Row.fF,Pk.qB]
theorem oZ{cd:List (List (List Nat))}{r:Row}{k:Nat}(hC:Cd cd)(h:r.Ok k):((cF r).flatMap (aL cd)).length<=120/\(fG r).length<=16:=by
 refine⟨?_,?_⟩
 ·have:∀l:List (Nat×Nat),(∀p∈l,(aL cd p).length<=40)->(l.flatMap (aL cd)).length<=40*l.length:=λl=>by
   induction l with
   |nil=>exactλ_=>J7 _
   |cons p l ih =>
    intro h;have h1:=h p J9;have h2:=ih λq hq=>h q (J8 _ hq);rw[List.flatMap_cons,Ju,JD];lia
  have h1:=this (cF r) λp hp=>(hC.at (yT h p hp)).2.2;have h2:=ny r;lia
 ·cases r with
  |put b n =>
   have:=jz (n:=n) h.2;show (eA n).tail.length<=16;rw[List.length_tail];unfold eA;rw[dz];simp only[Ks];lia
  |_=>exact JL _
noncomputable def nZ(l:List Nat):List Int:=l.map λk:Nat=>(k:Int)
theorem jR(l:List Nat):(nZ l).length=l.length:=Jt ..
theorem DN{l:List Nat}(h:Kr.ks 40 l<=2^40):pT (nZ l)=true:=by
 unfold pT KS nZ;rw[Lj,show (Int.toNat ∘ λk:Nat=>(k:Int))=id from funext λk=>Kg k,List.map_id];exact JX h
structure Pt (l:List Nat):Prop where
 ks:Kr.ks 40 l=2^40
 le:∀x∈l,x+1<=l.length
 one:l=[0]\/∀x∈l,1<=x
theorem Pt.pos{l:List Nat}(h:Pt l):1<=l.length:=by
 cases l with
 |nil=>have:=h.ks;simp[Kr.ks] at this
 |cons=>simp
theorem Pt.next{l l3:List Nat}{a:Nat}(h:Pt l)(ha:a<l.length)(hl:l.length<=17)(hp:l3.Perm ((l[a]+1)::(l[a]+1)::l.eraseIdx a)):Pt l3/\l3.length=l.length+1:=by
 have hpm:(l[a]::l.eraseIdx a).Perm l:=by
  rw[MI]
  conv=>rhs;rw[<- KJ a l,<- List.getElem_cons_drop ha]
  exact NH.symm
 have hle:=l.length_eraseIdx_of_lt ha;have hx:=h.le _ (JM ha);have h3:l3.length=l.length+1:=by
  rw[hp.length_eq,JD,JD,hle];lia
 have mem:∀y∈l3,y=l[a]+1\/y∈l.eraseIdx a:=λy hy=>by
  rcases J5.mp (hp.mem_iff.mp hy) with z|z
  ·exact .inl z
  ·rcases J5.mp z with z|z
   ·exact .inl z
   ·exact .inr z
 have mem2:∀y∈l.eraseIdx a,y∈l:=λy hy=>hpm.mem_iff.mp (J8 _ hy);refine⟨⟨?_,λy hy=>?_,.inr λy hy=>?_⟩,h3⟩
 ·have e1:=Kr.hJ (L:=40) hpm;rw[h.ks,Kr.ks] at e1;rw[Kr.hJ hp,Kr.ks,Kr.ks];have e2:2^(40-l[a])=2*2^(40-(l[a]+1)):=by rw[show 40-l[a]=(40-(l[a]+1))+1 by lia,MR];lia
  lia
 ·rw[h3];rcases mem y hy with rfl|z
  ·lia
  ·have:=h.le y (mem2 y z);lia
 ·rcases mem y hy with rfl|z
  ·lia
  ·rcases h.one with e|e
   ·subst e;have ha0:a=0:=by simpa using ha
    subst ha0;cases z
   ·exact e y (mem2 y z)
theorem BR(l:List α)(n:Nat)(x:α):(iH l n x).length=l.length+1:=by
 unfold iH;rw[Ju,JD,JK,JW];lia
theorem p8(l:List α)(n:Nat)(x:α):(iH l n x).Perm (x::l):=by
 unfold iH;refine NH.trans ?_;rw[KJ]
theorem zQ:∀{l:List Nat} {a z:Nat} (ha:a<l.length),l[a]<=z->Kr.ks 40 (l.set a z)<=Kr.ks 40 l
 |[],_,_,ha,_=>(nomatch ha)
 |x::l,0,z,_,h=>by
  have:2^(40-z)<=2^(40-x):=Lk (by decide) (by have:x<=z:=h;lia)
  simp only[Nj,Kr.ks];lia
 |x::l,a+1,z,ha,h=>by
  have:=zQ (l:=l) (a:=a) (z:=z) (by simpa using ha) (by simpa using h)
  simp only[List.set_cons_succ,Kr.ks];lia
theorem Fu:∀(k:Nat) (w acc:List Nat),w.length=k->(∀c∈w,c=48\/c=49)->bF (Cw.val w:Int) k acc=w++acc:=by
 intro k
 induction k with
 |zero=>intro w acc h _;rw[LC.mp h];rfl
 |succ k ih =>
  intro w acc h hb;obtain⟨v,c,rfl⟩:∃v c,w=v++[c]:=by
   rcases Oj w with e|⟨v,c,e⟩
   ·rw[e] at h;cases h
   ·exact⟨v,c,by rw[e,List.concat_eq_append]⟩
  have hc:=hb c (by simp)
  have ev:Cw.val (v++[c])=2*Cw.val v+(c-48):=by
   rw[Cw.gc];rcases hc with rfl|rfl
   ·simp[Cw.val];lia
   ·simp[Cw.val];lia
  rw[bF];have e1:((Cw.val (v++[c]):Nat):Int) / 2=(Cw.val v:Int):=by rw[ev];lia
  have e2:dg ((Cw.val (v++[c]):Nat):Int)=c:=by
   unfold dg;rw[ev];rcases hc with rfl|rfl
   ·have:((2*Cw.val v+(48-48):Nat):Int) % 2=0:=by lia
    rw[this];rfl
   ·have:((2*Cw.val v+(49-48):Nat):Int) % 2=1:=by lia
    rw[this];rfl
  rw[e1,e2,ih v (c::acc) (by rw[Ju,LV] at h;lia) (λx hx=>hb x (by simp[hx])),JT]
  rfl
theorem Ew(ls:List Int):Kr.ks 40 ((ba ls).map (aU ls))=KS ls:=by
 unfold KS;refine Kr.hJ ?_;have e:ls.map Int.toNat=(List.range ls.length).map (aU ls):=by
  apply Mf
  ·simp
  ·intro i h1 h2;have hi:i<ls.length:=by simpa using h1
   simp[aU,hi]
 rw[e];exact (jV (by rw[Kx])).map _
structure At (ls:List Int) (done todo:List Nat) (a:Option (List Nat)) (n h:Int):Prop where
 all:done++todo=ba ls
 st:(a=none/\done=[]/\n=-1/\h=0)\/∃w,a=some w/\n=(Cw.val w:Int)/\h=(w.length:Int)/\Cw.iK (done.map (aU ls)) w/\∀t∈todo,w.length<=aU ls t
noncomputable def oy(a:Option (List Nat))(l:Nat):List Nat:=match a with|none=>List.replicate l 48|some v=>Cw.ip v l
theorem At.next{ls:List Int}{done todo:List Nat}{a:Option (List Nat)}{n h:Int}{t:Nat}(x:At ls done (t::todo) a n h)(hL:lW ls)(ho:pT ls=true)(hu:(ba ls).Pairwise λi j=>aU ls i<=aU ls j):
  ∃d:Nat,(aU ls t:Int)-h=d/\d<=aU ls t/\(n+1)*2^d=(Cw.val (oy a (aU ls t)):Int)/\(oy a (aU ls t)).length=aU ls t/\(∀c∈oy a (aU ls t),c=48\/c=49)/\At ls (done++[t]) todo (some (oy a (aU ls t))) (Cw.val (oy a (aU ls t)):Int) (aU ls t:Int):=by
 have hall:(done++[t])++todo=ba ls:=by rw[JT];exact x.all
 have htl:aU ls t<=40:=by
  have h:=j6 (ls:=ls) (t:=t) (by rw[<- x.all];simp)
  have:=hL.2.2 _ (JM h);unfold aU;rw[JF,Jr h];show ls[t].toNat<=40;lia
 have hk:Kr.ks 40 ((done++[t]++todo).map (aU ls))<=2^40:=by rw[hall,Ew];exact KC ho
 rw[JN,JN,Kr.cK,Kr.cK] at hk;have hle:∀u∈todo,aU ls t<=aU ls u:=λu hu'=>by
  rw[<- x.all] at hu;exact (Kb.mp (K7.mp hu).2.1).1 u hu'
 rcases x.st with ⟨rfl,rfl,rfl,rfl⟩|⟨w,rfl,rfl,rfl,hH,hw⟩
 ·refine⟨aU ls t,by lia,J7 _,?_,JJ ..,λc hc=>.inl (K1.mp hc).2,hall,.inr ⟨_,rfl,rfl,by rw[show oy none (aU ls t)=List.replicate (aU ls t) 48 from rfl,JJ],Cw.iK.first htl,λu hu'=>by rw[show oy none (aU ls t)=List.replicate (aU ls t) 48 from rfl,JJ];exact hle u hu'⟩⟩
  rw[show oy none (aU ls t)=List.replicate (aU ls t) 48 from rfl,Cw.eO];simp
 ·have hwt:=hw t J9;have hk2:Kr.ks 40 (done.map (aU ls))+2^(40-aU ls t)<=2^40:=by
   simp only[JY,LS,Kr.ks] at hk;lia
  have hz:=hH.zero (rest:=[]) hk2;have hN:=hH.next hwt htl hk2;refine⟨aU ls t-w.length,by lia,Nat.sub_le _ _,?_,Cw.eL hwt,Cw.mJ hH.bits,hall,.inr ⟨_,rfl,rfl,by rw[show oy (some w) (aU ls t)=Cw.ip w (aU ls t) from rfl,Cw.eL hwt],by rw[JN];exact hN,λu hu'=>by rw[show oy (some w) (aU ls t)=Cw.ip w (aU ls t) from rfl,Cw.eL hwt];exact hle u hu'⟩⟩
  rw[show oy (some w) (aU ls t)=Cw.ip w (aU ls t) from rfl,Cw.qz hH.bits hz];simp
theorem iL:∀(k:Nat) (n:Int) (acc:List Nat),bF n k acc=bF n k []++acc
 |0,_,_=>rfl
 |k+1,n,acc=>by
  rw[bF,bF,iL k (n / 2) (dg n::acc),iL k (n / 2) [dg n],JT];rfl
theorem qY(k:Nat)(n:Int):bF n (k+1) []=bF (n / 2) k []++[dg n]:=by rw[bF,iL]
theorem wW(w:List Nat)(c:Nat):Cw.val (w++[c])=2*Cw.val w+(c-48):=by
 rw[Cw.gc];simp[Cw.val];lia
theorem iP:∀(k:Nat) (n:Int),(Cw.val (bF n k []):Int)=n % 2^k
 |0,n=>by simp[bF,Cw.val,Int.emod_one]
 |k+1,n=>by
  rw[qY,wW];have ih:=iP k (n / 2);have hd:((dg n-48:Nat):Int)=n % 2:=by unfold dg;have:=LN n (show (2:Int)≠0 by decide);lia
  have e:(2:Int)*((n / 2) % 2^k)+n % 2=n % 2^(k+1):=by
   have h1:=Oq n 2;have h2:=Oq (n / 2) (2^k);have hp:(0:Int)<2^k:=Ob (by decide)
   have h3:=LN (n / 2) (Int.ne_of_gt hp);have h4:=LO (n / 2) hp;have h5:=LN n (show (2:Int)≠0 by decide)
   have h6:=LO n (show (0:Int)<2 by decide)
   rw[Int.pow_succ];have key:n=(2*((n / 2) % 2^k)+n % 2)+(2^k*2)*((n / 2) / 2^k):=by
    rw[Int.mul_assoc,Int.mul_left_comm];generalize 2^k*(n / 2 / 2^k)=y at h2 ⊢;lia
   generalize hr:2*((n / 2) % 2^k)+n % 2=r at key ⊢;generalize (n / 2) / 2^k=y at key;rw[key,Int.add_mul_emod_self_left,M5 (by lia) (by lia)]
  push_cast
  rw[ih,hd,e]
theorem pJ:∀(cs:List Nat) (a:Nat),cs.foldl (λa c=>a*2+(c-48)) a=a*2^cs.length+Cw.val cs
 |[],a=>by simp[Cw.val]
 |c::cs,a=>by
  rw[MK,pJ cs,Cw.val,JD,MR,Nat.add_mul];rw[Mj,Nat.mul_comm 2 (2^cs.length),MB]
theorem t9(cs:List Nat):lb cs=Cw.val cs:=by
 unfold lb;rw[pJ,Nat.zero_mul,LY]
theorem yt:∀{cs:List Nat},(∀c∈cs,c=48\/c=49)->Cw.val cs<2^cs.length
 |[],_=>by decide
 |c::cs,h=>by
  have ih:=yt (cs:=cs) λx hx=>h x (J8 _ hx);rw[Cw.val,JD,MR];rcases h c J9 with rfl|rfl<;>simp<;>lia
theorem oM(n:Nat):∀c∈eA n,c=48\/c=49:=gS _ _ _ λc hc=>by cases hc
theorem uv(n:Nat):(eA n).length=bz n:=by unfold eA;rw[dz];rfl
theorem kN{n:Nat}(h:0<n):2^(bz n-1)<=n/\n<2^bz n/\0<bz n:=by
 have e:bz n=n.log2+1:=by
  unfold bz Builtin.Int.intBits;rw[Jx (by simp;lia)]
  rfl
 rw[e];exact⟨Nat.log2_self_le (by lia),Nat.lt_log2_self,Nat.succ_pos _⟩
theorem tJ{n:Nat}(h:0<n):Cw.val (eA n)=n:=by
 have h1:=iP (bz n) (n:Int);have h2:=(kN h).2.1;have e:(n:Int) % 2^bz n=n:=M5 (by lia) (by exact_mod_cast h2)
 rw[e] at h1;unfold eA
 exact_mod_cast h1
theorem zP{n:Nat}(h:0<n):eA n=49::(eA n).tail:=by
 obtain⟨b1,b2,b3⟩:=kN h;have hl:=uv n;have hv:=tJ h;have hb:=oM n
 cases e:eA n with
 |nil=>rw[e] at hl;simp at hl;lia
 |cons c r =>
  rw[e] at hl hv hb;rcases hb c J9 with rfl|rfl
  ·exfalso
   have:=yt (cs:=r) λx hx=>hb x (J8 _ hx);rw[JD] at hl;rw[<- hl,Ms] at b1;simp[Cw.val] at hv;lia
  ·rfl
theorem BA{n:Nat}(h:0<n):lb (49::(eA n).tail)=n:=by rw[<- zP h,t9,tJ h]
theorem v5{n:Nat}(h:bz n=0):n=0:=by
 rcases Mt n with e|e
 ·exact e
 ·have:=(kN e).2.2;lia
inductive Kd where
 |box|num|go
noncomputable def Kd.s:Kd->Str
 |.box=>Str.ofString "box"
 |.num=>Str.ofString "number"
 |.go=>Str.ofString "goal"
inductive PV where
 |box (b:Nat)|num (n:Nat)|go (d:Int)
noncomputable def mj(cd:List (List (List Nat)))(z:List Nat)(p:Nat):Kd->Option (PV×Nat)
 |.box=>(kZ (cd.getD 2 []) z p).map λx=>(.box x.1,x.2)
 |.num=>(zD (cd.getD 1 []) z p).map λx=>(.num x.1,x.2)
 |.go=>(gA z p).map λx=>(.go x.1,x.2)
structure ym (cd:List (List (List Nat))):Prop where
 eY:Cd cd
 pf:∀w∈cd,Pf w
noncomputable def B2(i:Nat):List Kd:=[[Kd.box,.num],[.box,.box],[.box,.box],[.box,.box],[.box],[.box],[.go],[.box,.go],[]].getD i []
noncomputable def qA(cd:List (List (List Nat)))(z:List Nat):List Kd->Nat->Option (List (PV×Nat)×Nat)
 |[],p=>some ([],p)
 |k::ks,p=>(mj cd z p k).bind λx=>(qA cd z ks x.2).map λy=>(x::y.1,y.2)
structure RW where
 wi:Nat
 vs:List (PV×Nat)
noncomputable def Cu(cd:List (List (List Nat)))(z:List Nat)(p:Nat):Option (RW×Nat):=(kZ (cd.getD 0 []) z p).bind λx=>(qA cd z (B2 x.1) x.2).map λy=>(⟨x.1,y.1⟩,y.2)
noncomputable def HH(cd:List (List (List Nat)))(z:List Nat)(p:Int):Option (RW×Nat):=if p<0 then none else Cu cd z p.toNat
theorem tM(cd:List (List (List Nat)))(z:List Nat)(p:Nat):HH cd z (p:Int)=Cu cd z p:=by
 unfold HH;rw[Jx (by lia),Kg]
theorem BJ(h:i<9):KTD.datumAt (cg.getD i (Str.ofString "")) bG=some ((B2 i).map Kd.s):=by
 have:i=0\/i=1\/i=2\/i=3\/i=4\/i=5\/i=6\/i=7\/i=8:=by lia
 rcases this with rfl|rfl|rfl|rfl|rfl|rfl|rfl|rfl|rfl<;>decide +kernel
theorem Pf.nd(h:Pf ws):ws.Nodup:=by
 unfold List.Nodup;rw[Lz];intro i j hi hj hij e;exact h.pre i j hi hj (JS hij) (by rw[e];exact List.prefix_refl _)
noncomputable def PV.n:PV->Int
 |.box b=>(b:Int)
 |.num n=>(n:Int)
 |.go d=>d
noncomputable def Kd.c:Kd->Nat
 |.box=>98
 |.num=>110
 |.go=>103
structure Jo (cd:List (List (List Nat))):Prop extends ym cd where
 Jh:∀ws∈cd,∀w∈ws,w.length<=20
theorem yN{x:Nat×Nat}(hne:∀w∈ws,w≠[])(h:zD ws z p=some x):p<x.2/\x.2<=z.length:=by
 unfold zD at h
 cases c:kZ ws z p with
 |none=>rw[c] at h;cases h
 |some y =>
  rw[c] at h;obtain⟨_,_,h3,h4⟩:=fz hne c;dsimp only at h
  split at h
  ·cases h;exact⟨h3,h4⟩
  ·split at h
   ·rename_i hl;cases h;exact⟨by show p<y.2+_;lia,hl⟩
   ·cases h
theorem CB{x:Int×Nat}(h:gA z p=some x):p<x.2/\x.2<=z.length:=by
 unfold gA at h
 cases c:kZ sy z p with
 |none=>rw[c] at h;cases h
 |some y =>
  rw[c] at h;obtain⟨_,_,h3,h4⟩:=fz n4 c;dsimp only at h
  split at h
  ·rename_i hl;cases h;exact⟨by show p<y.2+_;lia,hl⟩
  ·cases h
theorem xq{cd:List (List (List Nat))}{k:Kd}{x:PV×Nat}(hR:ym cd)(h:mj cd z p k=some x):p<x.2/\x.2<=z.length/\(∀b,x.1=.box b->b<8):=by
 obtain⟨c0,c1,c2,rfl,l0,l1,l2⟩:=hR.eY.ex;have n1:=(hR.pf c1 (by simp)).ne
 have n2:=(hR.pf c2 (by simp)).ne
 cases k with
 |box =>
  replace h:(kZ c2 z p).map (λx=>(PV.box x.1,x.2))=some x:=h
  cases c:kZ c2 z p with
  |none=>rw[c] at h;cases h
  |some y=>rw[c] at h;cases h;obtain⟨h1,_,h3,h4⟩:=fz n2 c;exact⟨h3,h4,λb e=>by cases e;lia⟩
 |num =>
  replace h:(zD c1 z p).map (λx=>(PV.num x.1,x.2))=some x:=h
  cases c:zD c1 z p with
  |none=>rw[c] at h;cases h
  |some y=>rw[c] at h;cases h;exact⟨(yN n1 c).1,(yN n1 c).2,λb e=>by cases e⟩
 |go =>
  replace h:(gA z p).map (λx=>(PV.go x.1,x.2))=some x:=h
  cases c:gA z p with
  |none=>rw[c] at h;cases h
  |some y=>rw[c] at h;cases h;exact⟨(CB c).1,(CB c).2,λb e=>by cases e⟩
theorem d8.app{x y:List Nat}(hx:d8 x)(hy:d8 y):d8 (x++y):=λc hc=>(Kj.mp hc).elim (hx c) (hy c)
theorem d8.rep(n:Nat){v:Nat}(h:v=48\/v=49):d8 (List.replicate n v):=λc hc=>by rw[(K1.mp hc).2];exact h
theorem BW{w:List Nat}{n:Nat}(h:d8 w):d8 (Cw.fS w n):=by
 unfold Cw.fS Cw.pad;refine d8.app (d8.app (λc hc=>h c ?_) λc hc=>.inr (JG.mp hc)) (d8.rep _ (.inl rfl));have h1:=Lp.mp (List.dropLast_subset _ hc);exact Lp.mp ((M7 _).subset h1)
theorem vD{o:List Nat}:∀{a:Option (List Nat)} {ws:List (List Nat)},(∀v,a=some v->d8 v)->(∀x∈ws,d8 x)->∀x∈(Cw.along Cw.fS ln o (a,ws)).2,d8 x:=by
 induction o with
 |nil=>exactλ_ h=>h
 |cons t o ih =>
  intro a ws ha hw
  cases a with
  |none =>
   refine ih (a:=some (List.replicate (ln t) 48)) (λv e=>by cases e;exact d8.rep _ (.inl rfl)) λx hx=>?_
   rcases Kw hx with z|z
   ·exact hw x z
   ·rw[z];exact d8.rep _ (.inl rfl)
  |some v =>
   have hv:=BW (n:=ln t) (ha v rfl);refine ih (a:=some (Cw.fS v (ln t))) (λv e=>by cases e;exact hv) λx hx=>?_
   rcases Kw hx with z|z
   ·exact hw x z
   ·rw[z];exact hv
theorem vA(ls:List Int):∀x∈wordsOf Cw.fS ls,d8 x:=vD (λv e=>by cases e) λx hx=>by rw[(K1.mp hx).2];exactλc hc=>by cases hc
theorem xD{cd:List (List (List Nat))}(h:∀ws∈cd,∀w∈ws,d8 w)(r:Row):d8 (b7 cd r):=by
 have at2:∀p,d8 (aL cd p):=λp=>by
  unfold aL;rw[JF,JF]
  cases e:cd[p.1]? with
  |none=>exactλc hc=>by cases hc
  |some ws =>
   show d8 (ws[p.2]?.getD [])
   cases e2:ws[p.2]? with
   |none=>exactλc hc=>by cases hc
   |some w=>exact h ws (K2 e) w (K2 e2)
 unfold b7;refine d8.app (λc hc=>?_) ?_
 ·obtain⟨p,_,hp⟩:=List.mem_flatMap.mp hc;exact at2 p c hp
 ·cases r with
  |put b n=>exactλc hc=>oM n c (List.mem_of_mem_tail hc)
  |two=>exactλc hc=>by cases hc
  |one=>exactλc hc=>by cases hc
  |jump=>exactλc hc=>by cases hc
  |zero=>exactλc hc=>by cases hc
  |halt=>exactλc hc=>by cases hc
theorem EB(bk:List (List Int)):∀ws∈gw bk,∀w∈ws,d8 w:=λws hw=>by
 obtain⟨l,_,rfl⟩:=J_.mp hw;exact vA l
theorem fT{cd:List (List (List Nat))}(hC:Cd cd){r:Row}{k:Nat}(hr:r.Ok k):(b7 cd r).length<=136:=by
 have:=oZ hC hr;unfold b7;rw[Ju];lia
inductive gu where
 |put (b n:Nat)|two (w:Fin 3) (a b:Nat)|one (w:Fin 2) (b:Nat)|jump (g:Int)|zero (b:Nat) (g:Int)|halt
inductive AN where
 |s (z:Str)|n (k:Int)
noncomputable def gu.ps:gu->List AN
 |.put b n=>[.s "put",.s (dQ b),.n (n:Nat)]
 |.two w a b=>[.s (w2 w),.s (dQ a),.s (dQ b)]
 |.one w b=>[.s (w1 w),.s (dQ b)]
 |.jump g=>[.s "jump",.n g]
 |.zero b g=>[.s "zero",.s (dQ b),.n g]
 |.halt=>[.s "halt"]
noncomputable def gu.Ok:gu->Prop
 |.put b _=>b<8
 |.two _ a b=>a<8/\b<8
 |.one _ b=>b<8
 |.jump _=>True
 |.zero b _=>b<8
 |.halt=>True
noncomputable def gu.rel(e:Int):gu->gu
 |.jump g=>.jump (g-e)
 |.zero b g=>.zero b (g-e)
 |r=>r
noncomputable def EF(x:RW×Nat):gu:=match x.1.vs with
 |[(.box b,_)]=>.one (if x.1.wi=4 then 0 else 1) b
 |[(.go d,e)]=>.jump ((e:Int)+d)
 |[(.box a,_),(.box b,_)]=>.two (if x.1.wi=1 then 0 else if x.1.wi=2 then 1 else 2) a b
 |[(.box b,_),(.num n,_)]=>.put b n
 |[(.box b,_),(.go d,e)]=>.zero b ((e:Int)+d)
 |_=>.halt
theorem HK{cd:List (List (List Nat))}{k:Kd}{y:List (PV×Nat)×Nat}(h:qA cd z [k] p=some y):∃x,mj cd z p k=some x/\y=([x],x.2):=by
 obtain⟨x,hx,h⟩:=LD.mp h;cases h;exact⟨x,hx,rfl⟩
theorem HC{cd:List (List (List Nat))}{k l:Kd}{y:List (PV×Nat)×Nat}(h:qA cd z [k,l] p=some y):∃x x',mj cd z p k=some x/\mj cd z x.2 l=some x'/\y=([x,x'],x'.2):=by
 obtain⟨x,hx,h⟩:=LD.mp h;obtain⟨y',hy,rfl⟩:=JR.mp h;obtain⟨x',hx',rfl⟩:=HK hy;exact⟨x,x',hx,hx',rfl⟩
theorem eG{cd:List (List (List Nat))}{x:PV×Nat}(hR:ym cd)(h:mj cd z p .box=some x):∃b e,x=(.box b,e)/\b<8:=by
 have h8:=(xq hR h).2.2;obtain⟨v,_,rfl⟩:=JR.mp h;exact⟨_,_,rfl,h8 _ rfl⟩
theorem DQ{cd:List (List (List Nat))}{x:PV×Nat}(h:mj cd z p .num=some x):∃n e,x=(.num n,e):=by
 obtain⟨v,_,rfl⟩:=JR.mp h;exact⟨_,_,rfl⟩
theorem CN{cd:List (List (List Nat))}{x:PV×Nat}(h:mj cd z p .go=some x):∃d e,x=(.go d,e):=by
 obtain⟨v,_,rfl⟩:=JR.mp h;exact⟨_,_,rfl⟩
theorem Ej{cd:List (List (List Nat))}{ks:List Kd}{y:List (PV×Nat)×Nat}(hR:ym cd)(h:qA cd z ks p=some y):p<=y.2/\(p<=z.length->y.2<=z.length):=by
 induction ks generalizing p y with
 |nil=>cases h;exact⟨J7 _,id⟩
 |cons k ks ih =>
  rw[qA] at h;obtain⟨x,hx,h⟩:=LD.mp h;obtain⟨y',hy,rfl⟩:=JR.mp h;obtain⟨i1,i2⟩:=ih hy;obtain⟨j1,j2,_⟩:=xq hR hx;exact⟨by show p<=y'.2;lia,λ_=>i2 j2⟩
theorem wH(hL:lW ls)(ho:pT ls=true):Pf (wordsOf Cw.fS ls):=by
 have hc:=canon hL (KC ho);have hg:∀(i:Nat) (h:i<(wordsOf Cw.fS ls).length),(wordsOf Cw.fS ls)[i]=(wordsOf Cw.fS ls).getD i []:=λi h=>by
  rw[JF,Jr h];rfl
 refine⟨λw hw e=>?_,λi j hi hj hne hp=>?_⟩
 ·obtain⟨i,hi,rfl⟩:=List.mem_iff_getElem.mp hw;have hi':i<ls.length:=by rw[<- hc.len];exact hi
  have h1:=hc.GI i hi';rw[<- hg i hi,e,Ks] at h1;unfold aU at h1;rw[JF,Jr hi'] at h1;have h2:=hL.2.2 _ (JM hi');have h1':0=(ls[i]).toNat:=h1;lia
 ·have hi':i<ls.length:=by rw[<- hc.len];exact hi
  have hj':j<ls.length:=by rw[<- hc.len];exact hj
  rw[hg i hi,hg j hj] at hp;have:(ls.getD i 0<ls.getD j 0\/(ls.getD i 0=ls.getD j 0/\i<j))\/(ls.getD j 0<ls.getD i 0\/(ls.getD j 0=ls.getD i 0/\j<i)):=by lia
  rcases this with h|h
  ·exact (hc.part i j hi' hj' h).not.1 hp
  ·exact (hc.part j i hj' hi' h).not.2 hp
theorem Az{bk:List (List Int)}(h:Bk bk):∀ws∈gw bk,Pf ws:=λws hw=>by
 obtain⟨l,hl,rfl⟩:=J_.mp hw;obtain⟨a,b,c,e,_,_,_,h4⟩:=h;exact wH (h4 l hl).1 (h4 l hl).2
theorem Ac{bk:List (List Int)}(h:Bk bk):Jo (gw bk):=by
 refine⟨⟨h.cd,Az h⟩,λws hw w hw2=>?_⟩;obtain⟨l,hl,rfl⟩:=J_.mp hw;obtain⟨a,b,c,e,_,_,_,h4⟩:=h;have hc:=canon (h4 l hl).1 (KC (h4 l hl).2);obtain⟨i,hi,rfl⟩:=List.mem_iff_getElem.mp hw2;have hi':i<l.length:=by rw[<- hc.len];exact hi
 have h1:=hc.GI i hi';rw[JF,Jr hi] at h1;unfold aU at h1;rw[JF,Jr hi'] at h1;have h2:=(h4 l hl).1.2.2 _ (JM hi');have h3:((wordsOf Cw.fS l)[i]).length=(l[i]).toNat:=h1;lia
noncomputable def Cn.v:Cn->V
 |.s z=>.str z
 |.n k=>.int (k:Nat)
noncomputable def Row.vs(r:Row):List V:=r.ps.map Cn.v
noncomputable def Pk.v:Pk->V
 |.box b=>.str (dQ b)
 |.num n=>.int (n:Nat)
 |.goal g=>.int (g:Nat)
theorem Row.FO(r:Row):r.vs=.str r.wd::r.fF.map Pk.v:=by cases r<;>rfl
noncomputable def PV.v(behind:Nat):PV->V
 |.box b=>.str (dQ b)
 |.num n=>.int (n:Int)
 |.go d=>.int ((behind:Int)+d)
noncomputable def PV.l:PV->V
 |.box b=>.str (dQ b)
 |.num n=>.int (n:Int)
 |.go d=>.int d
noncomputable def RW.v(r:RW):List V:=.str (cg.getD r.wi (Str.ofString ""))::r.vs.map λx=>x.1.v x.2
noncomputable def RW.l(r:RW):List V:=.str (cg.getD r.wi (Str.ofString ""))::r.vs.map λx=>x.1.l
noncomputable def AN.v:AN->V
 |.s z=>.str z
 |.n k=>.int k
noncomputable def gu.vs(r:gu):List V:=r.ps.map AN.v
theorem IG{cd:List (List (List Nat))}{x:RW×Nat}(hR:ym cd)(h:Cu cd z p=some x):(EF x).Ok/\x.1.v=(EF x).vs/\x.1.l=((EF x).rel x.2).vs/\p<x.2/\x.2<=z.length:=by
 obtain⟨c0,c1,c2,rfl,l0,l1,l2⟩:=hR.eY.ex;obtain⟨v,hv,h⟩:=LD.mp h;obtain⟨y,hy,rfl⟩:=JR.mp h;obtain⟨w1,_,w3,w4⟩:=fz (hR.pf c0 (by simp)).ne hv
 obtain⟨i1,i2⟩:=Ej hR hy;obtain⟨wi,e⟩:=v;dsimp only at *;refine and_assoc.mp (and_assoc.mp ⟨?_,by show p<y.2;lia,i2 w4⟩)
 have far:∀(e:Nat) (d:Int),(e:Int)+d-(e:Int)=d:=λe d=>by lia
 have:wi=0\/wi=1\/wi=2\/wi=3\/wi=4\/wi=5\/wi=6\/wi=7\/wi=8:=by lia
 rcases this with rfl|rfl|rfl|rfl|rfl|rfl|rfl|rfl|rfl
 ·obtain⟨x,x',hx,hx',rfl⟩:=HC hy;obtain⟨b,e,rfl,hb⟩:=eG hR hx;obtain⟨n,e',rfl⟩:=DQ hx';exact⟨⟨hb,rfl⟩,rfl⟩
 ·obtain⟨x,x',hx,hx',rfl⟩:=HC hy;obtain⟨b,e,rfl,hb⟩:=eG hR hx;obtain⟨n,e',rfl,hb'⟩:=eG hR hx';exact⟨⟨⟨hb,hb'⟩,rfl⟩,rfl⟩
 ·obtain⟨x,x',hx,hx',rfl⟩:=HC hy;obtain⟨b,e,rfl,hb⟩:=eG hR hx;obtain⟨n,e',rfl,hb'⟩:=eG hR hx';exact⟨⟨⟨hb,hb'⟩,rfl⟩,rfl⟩
 ·obtain⟨x,x',hx,hx',rfl⟩:=HC hy;obtain⟨b,e,rfl,hb⟩:=eG hR hx;obtain⟨n,e',rfl,hb'⟩:=eG hR hx';exact⟨⟨⟨hb,hb'⟩,rfl⟩,rfl⟩
 ·obtain⟨x,hx,rfl⟩:=HK hy;obtain⟨b,e,rfl,hb⟩:=eG hR hx;exact⟨⟨hb,rfl⟩,rfl⟩
 ·obtain⟨x,hx,rfl⟩:=HK hy;obtain⟨b,e,rfl,hb⟩:=eG hR hx;exact⟨⟨hb,rfl⟩,rfl⟩
 ·obtain⟨x,hx,rfl⟩:=HK hy;obtain⟨d,e,rfl⟩:=CN hx;refine⟨⟨trivial,rfl⟩,?_⟩;show [_,V.int d]=[_,.int ((e:Int)+d-(e:Int))];rw[far];rfl
 ·obtain⟨x,x',hx,hx',rfl⟩:=HC hy;obtain⟨b,e,rfl,hb⟩:=eG hR hx;obtain⟨d,e',rfl⟩:=CN hx';refine⟨⟨hb,rfl⟩,?_⟩;show [_,_,V.int d]=[_,_,.int ((e':Int)+d-(e':Int))];rw[far];rfl
 ·cases hy;exact⟨⟨trivial,rfl⟩,rfl⟩
noncomputable def C3(K:W.Frag):Sp:=λvs H Q _=>∃(a:Addr) (ls:List Int),vs=[.ref a]/\(H a=some (.tup (iV ls))\/H a=some (.lst (iV ls)))/\lW ls/\∀H',KB [] H H'->Q (.bl (pT ls)) H'
theorem rF(h:H a=some (.tup xs)\/H a=some (.lst xs)):∃b,sq H a=some (b,xs):=h.elim (λh=>⟨_,aH h⟩) λh=>⟨_,ay h⟩
theorem xp(ha:H a=some (.tup (iV ls))\/H a=some (.lst (iV ls)))(hn:ls.length<64)(q:∀ns':List Int,ns'.Perm ls->ns'.Pairwise (·<=·)->∀l,H l=none->Q (.ref l) (upd H l (.lst (ns'.map V.int)))):Y.yd K [.ref a] H Q:=ha.elim (λh=>.inl ⟨a,ls,rfl,bb.of h,hn,q⟩) λh=>.inr ⟨a,ls,rfl,bB.of h,hn,q⟩
theorem DU(T:Txt K mg)(F:HasFn K mg "can_be" jZ ["lengths"]):aq P w K mg base aP 1 "can_be" ["lengths"] (C3 K):=by
 refine F.eX bV (λvs H Q E h=>?_) (λf cdv A outer s H vs Q E hr h=>?_)
 ·obtain⟨a,ls,rfl,_⟩:=h;rfl
 ·have hu:=aK hr;obtain⟨a,ls,rfl,ha,hL,q⟩:=h;refine⟨_,(Z.ao (Z.se (i:=1) bV.nd Z.int)
   (Z.ao (Z.se (i:=2) bV.nd Z.int)
   (Z.ao (Z.se (i:=3) bV.nd (Z.cb (Z.cH K rfl) rfl T.cy (by decide +kernel) (Z.cons (Z.v 0) Z.nil)))
   (Z.ao (Z.iy Ke rfl (Z.any K rfl (Z.cb (Y.sk K rfl) rfl T.oV (by decide +kernel) (Z.cons (Z.v 0) Z.nil))) (Z.aY (i:=4) bV.nd rfl (by right)) (Z.ao (Z.cJ (Z.aI bj (Z.v 1) Z.int) (Z.ax (Z.ret Z.bl)) Z.b8)
   (Z.ao (Z.rg Ke (Z.tw (Z.uP (Z.aI e8 (Z.v 2) (Z.v 4)) (Z.mV (Z.aI e8 (Z.v 1) (Z.v 3))))) (Z.ao (Z.se (i:=1) bV.nd (Z.op dm (Z.v 1) Z.int))
   (Z.ax (Z.se (i:=2) bV.nd (Z.op (Z.aC K rfl) (Z.v 2) Z.int)))))
   (Z.ao (Z.cJ (Z.aI sI (Z.v 1) (Z.v 3)) (Z.ax (Z.ret Z.bl)) Z.b8)
   (Z.ao (Z.se (i:=1) bV.nd (Z.op cO (Z.v 1) Z.int))
   (Z.ax (Z.se (i:=3) bV.nd (Z.op cO (Z.v 3) Z.int))))))))
   (Z.ax (Z.ret Z.bl)))))),?_⟩
  refine au λN hN=>?_;walk_at "rz";rw[hN];clear hN N;refine au λN hN=>?_;walk_at "rz";rw[hN];clear hN N;obtain⟨kd,hsq⟩:=rF ha;refine au λN hN=>?_;exists hsq;rw[hN];clear hN N;refine au λN hN=>?_;walk_at "rz";refine xp ha (by have:=hL.2.1;lia) λrs hp hs l hl=>?_
  have k1:KB [] H (upd H l (.lst (rs.map V.int))):=KB.new hl;have s1:upd H l (.lst (rs.map V.int)) l=some (.lst (iV rs)):=aa;generalize upd H l (.lst (rs.map V.int))=H1 at *;simp only[ay s1];refine fZ (xs:=iV rs) (λi σ H'=>∃(f d n:Int) (s4:Option V),H1=H'/\(∀x∈rs.drop i,1<=x/\x<=40/\d<=x)/\0<=f/\0<=d/\n=(rs.drop i).length/\(pT ls=true ↔ Kr.fit ((rs.drop i).map Int.toNat) f.toNat d.toNat 40)/\σ=[some (.ref a),some (.int f),some (.int d),some (.int n),s4]) ⟨1,0,_,none,rfl,λx hx=>by have:=hL.2.2 x (hp.mem_iff.mp hx);lia,by decide,by decide,by rw[KA,hp.length_eq,c_],?_,rfl⟩ ?_ ?_ ?_
  ·unfold pT KS Kr.fit;rw[LR,KA,Kr.hJ (hp.map Int.toNat),show (1:Int).toNat*2^(40-(0:Int).toNat)=2^40 from rfl]
  ·rintro i σ H' _ ⟨f,d,n,s4,rfl,_⟩;exact bB.of s1
  ·rintro i x σ H' hx ⟨f,d,n,s4,rfl,hb,f0,d0,hn,hi,rfl⟩;obtain⟨hir,rfl⟩:=rS hx;have ed:=KI hir;have hs2:(rs.drop i).Pairwise (·<=·):=List.Pairwise.drop hs;rw[ed] at hb hn hi hs2;generalize rs[i]=l at *;generalize rs.drop (i+1)=r at *;obtain⟨hl1,hl2,hl3⟩:=hb l (by simp)
   have hle:∀x∈r,l<=x:=(Kb.mp hs2).1;unfold aZ;refine au λM hM=>?_;by_cases hf:f=0
   ·exists J6 hf;have:pT ls=false:=by
     cases c:pT ls with
     |false=>rfl
     |true=>have:=hi.mp c;rw[hf] at this;exact absurd this Kr.wQ
    rw[this] at q;exact q _ k1
   ·exists Jx hf;rw[hM];clear hM M;refine au λM hM=>?_;refine⟨λm σ H'=>H1=H'/\∃f d:Int,0<f/\0<=d/\d<=l/\m=(l-d).toNat/\(pT ls=true ↔ Kr.fit ((l::r).map Int.toNat) f.toNat d.toNat 40)/\σ=[some (.ref a),some (.int f),some (.int d),some (.int n),some (.int l)],⟨_,rfl,f,d,by lia,d0,hl3,rfl,hi,rfl⟩,?_⟩
    rintro m σ H' ⟨rfl,f,d,f0,d0,dl,rfl,hi,rfl⟩;have after:(d=l\/n<=f)->M [some (.ref a),some (.int f),some (.int d),some (.int n),some (.int l)] H1:=λhc=>by
     rw[hM];clear hM M;refine au λM hM=>?_;by_cases h3:n<=f
     ·exists J6 h3;have:pT ls=true:=hi.mpr (Kr.qR (λx hx=>by
       obtain⟨y,hy,rfl⟩:=J_.mp hx;rcases J5.mp hy with rfl|hy
       ·lia
       ·have:=hle y hy;lia) (by rw[Jt];lia))
      rw[this] at q;exact q _ k1
     ·exists Jx h3;rw[hM];clear hM M;refine au λM hM=>?_;walk_at "rz";rw[hM];clear hM M;refine qC λM hM=>?_;walk_at "rz";rw[hM];have hd:d=l:=hc.resolve_right h3;subst hd;refine⟨f-1,d,n-1,some _,rfl,λx hx'=>⟨(hb x (by simp[hx'])).1,(hb x (by simp[hx'])).2.1,hle x hx'⟩,by lia,d0,by rw[hn,JD];lia,?_,rfl⟩
      rw[hi,JY,Kr.wC (by lia),show (f-1).toNat=f.toNat-1 by lia]
    by_cases c1:d<l
    ·by_cases c2:f<n
     ·exists J6 c1,J6 c2;refine⟨λσ' H'=>∃m',m'<(l-d).toNat/\(H1=H'/\∃f d:Int,0<f/\0<=d/\d<=l/\m'=(l-d).toNat/\(pT ls=true ↔ Kr.fit ((l::r).map Int.toNat) f.toNat d.toNat 40)/\σ'=[some (.ref a),some (.int f),some (.int d),some (.int n),some (.int l)]),λ_ _ h=>h,?_⟩;refine⟨.inr (by decide),?_⟩
      refine⟨_,?_,rfl,f*2,d+1,by lia,by lia,by lia,rfl,?_,rfl⟩
      ·lia
      ·rw[hi,Kr.rY (l:=l.toNat) (by lia) (by lia),show (f*2).toNat=f.toNat*2 by lia,show (d+1).toNat=d.toNat+1 by lia]
     ·exists J6 c1,Jx c2;exact after (.inr (by lia))
    ·exists Jx c1;exact after (.inl (by lia))
  ·rintro σ H' ⟨f,d,n,s4,rfl,_,_,_,_,hi,rfl⟩;rw[c_,Mh] at hi;show N _ _;rw[hN];clear hN N;walk_at "rz";have:pT ls=true:=hi.mpr (JL _);rw[this] at q;exact q _ k1
noncomputable def IT:Option (List Nat)->V
 |none=>.aG
 |some w=>.str (wd w)
theorem qM(ws:List (List Nat)):(wV ws).length=ws.length:=Jt ..
noncomputable def x6(K:W.Frag):Sp:=λvs H Q _=>∃(a:Addr) (ls:List Int),vs=[.ref a]/\H a=some (.tup (iV ls))/\lW ls/\pT ls=true/\∀b H',KB [] H H'->H' b=some (.tup (wV (wordsOf Cw.fS ls)))->Q (.ref b) H'
theorem AF(T:Txt K mg)(F:HasFn K mg "code_of" cP ["lengths"])(hcan_be:aq P w K mg base aP 1 "can_be" ["lengths"] (C3 K))(hword_behind:aq P w K mg base aP 1 "word_behind" ["ahead","length"] Gn):aq P w K mg base aP 4 "code_of" ["lengths"] (x6 K):=by
 obtain⟨c,Pt,htab,hcc⟩:=T.pW.ex;refine F.IB dG (λvs H Q E h=>?_) (λf cdv A outer s H vs Q E hr hm eY h=>?_)
 ·obtain⟨a,ls,rfl,_⟩:=h;rfl
 ·have:=hcc _ _ ⟨hm,eY⟩;subst this;have hu:=aK hr;obtain⟨a,ls,rfl,ha,hL,ho,q⟩:=h;refine⟨_,(Z.ao (Z.cJ (Z.zj (Z.qN K rfl (Z.fc hcan_be (Z.cons (Z.v 0) Z.nil)))) (Z.ax Z.HW) Z.b8)
   (Z.ao (Z.sec (j:=1) dG.nd (osc:=ae cP) (ON:=["lengths","words","ahead","thing"]) (own:=["length"]) (N:=["length","lengths","words","ahead","thing"]) (aF.of rfl (by decide +kernel)) (Z.any K rfl (Z.v 0)) (λnd _ _ _ _=>(Z.aY (i:=0) nd rfl (by right))) (λ_ _ _ _=>Z.wj) (λ_ _ _ _=>Z.str))
   (Z.ao (Z.se (i:=2) dG.nd Z.aG)
   (Z.ao (Z.iy Ke rfl (Z.any K rfl (Z.GZ (k:=0) (j:=0) K rfl (by decide) htab rfl rfl rfl rfl rfl T.oV (Z.cons (Z.ct Y.pB rfl T.iw (by decide +kernel) (Z.cons (Z.cb (Z.cH K rfl) rfl T.cy (by decide +kernel) (Z.cons (Z.v 0) Z.nil)) Z.nil)) Z.nil) (hr.mono (by decide)) rfl (by decide) rfl rfl rfl rfl rfl rfl rfl (λ_ _ _ _=>rfl))) (Z.aY (i:=3) dG.nd rfl (by right)) (Z.ao (Z.asg (Z.fc hword_behind (Z.cons (Z.v 2) (Z.cons (Z.ix (Z.aA K rfl hu) (Z.v 0) (Z.v 3)) Z.nil))) (Z.vg (Z.v 1) (Z.v 3)))
   (Z.ax (Z.se (i:=2) dG.nd (Z.ix (Z.aA K rfl hu) (Z.v 1) (Z.v 3))))))
   (Z.ax (Z.ret (Z.ct (Z.dh K rfl) rfl T.dj (by decide +kernel) (Z.cons (Z.v 1) Z.nil)))))))),?_⟩
  refine au λN hN=>?_;walk_at "rz";refine⟨a,ls,rfl,.inl ha,hL,λH1 k1=>?_⟩;exists ho,Nt;rw[Jx (λz=>Bool.noConfusion z),hN];clear hN N;have ha1:=k1 _ _ ha (by simp)
  refine au λN hN=>?_;exists aH ha1;refine dw (xs:=iV ls) (JC (show _<=20 by rw[c_];exact hL.2.1) (by decide)) (λD i ys H'=>H' D=some (.lst ys)/\ys=wV (List.replicate i [])/\KB [] H1 H'/\H1 D=none) (λD hD=>⟨aa,rfl,KB.new hD,hD⟩) (λD i ys H' h=>⟨h.1,by rw[h.2.1,qM,JJ]⟩) (λD i ys H' h=>bb.of (h.2.2.1 _ _ ha1 (by simp))) ?_ ?_
  ·rintro D i ys H' x R hx ⟨g1,rfl,g3,g4⟩ kk;walk_at "rz";refine kk _ _ g1 ⟨aa,?_,λb o e _=>?_,g4⟩
   ·rw[List.replicate_succ',wV,wV,JN];rfl
   ·rw[ar (af e g4)];exact g3 b o e (by simp)
  rintro D ys H2 ⟨g1,rfl,g3,g4⟩;rw[c_] at g1;show N _ _;rw[hN];clear hN N;refine au λN hN=>?_;walk_at "rz";rw[hN];clear hN N;have h02:=k1.trans g3;have D0:H D=none:=k1.free (by simp) g4
  have ha2:=h02 _ _ ha (by simp)
  refine au λN hN=>?_;exists aH ha2;refine .inl ⟨_,rfl,λr hr0=>?_⟩;have k3:KB [] H2 (upd H2 r (.mi 0 ((iV ls).length:Nat))):=KB.new hr0;have s3:upd H2 r (.mi 0 ((iV ls).length:Nat)) r=some (.mi 0 (ls.length:Nat)):=by rw[aa,c_]
  generalize upd H2 r (.mi 0 ((iV ls).length:Nat))=H3 at *;have le:(jS ls.length).length=ls.length:=by rw[Jt,Kx]
  have ha3:=k3 _ _ ha2 (by simp)
  refine⟨r,jS ls.length,ls,rfl,⟨ls.length,s3,rfl⟩,le.symm,by rw[le];have:=hL.2.1;lia,λi v k e1 e2 H' g=>?_,λH4 l g hl=>?_⟩
  ·have hi:i<ls.length:=(Jv.mp e2).1;have e3:(jS ls.length)[i]?=some (.int (i:Int)):=by simp[hi]
   rw[e3] at e1;cases e1;exact⟨_,a,iV ls,rfl,rfl,bb.of (g.same _ _ ha3),bt (by unfold iV;rw[JA,e2];rfl)⟩
  have eo:j8 ls (jS ls.length)=(ba ls).map λk=>V.int ((k:Nat):Int):=Av ..;rw[eo];have k4:KB [] H3 (upd H4 l (.lst ((ba ls).map λk=>V.int ((k:Nat):Int)))):=λb o e _=>by rw[ar (af (g.same _ _ e) hl)];exact g.same _ _ e
  have s4:upd H4 l (.lst ((ba ls).map λk=>V.int ((k:Nat):Int))) l=_:=aa;have gD4:=k4 _ _ (k3 _ _ g1 (by simp)) (by simp)
  have lD:l≠D:=λz=>by
   have:=g.same _ _ (k3 _ _ g1 (by simp))
   rw[<- z,hl] at this;cases this
  generalize upd H4 l (.lst ((ba ls).map λk=>V.int ((k:Nat):Int)))=H5 at *;have h05:KB [] H H5:=h02.trans (k3.trans k4);have a5:a≠D:=λz=>by rw[z,D0] at ha;cases ha
  clear k3 k4 g hl hr0 s3 ha3 le eo g1 h02 ha2 g3 g4 ha1 k1;refine fZ (xs:=(ba ls).map λk=>V.int ((k:Nat):Int)) (λi σ H'=>∃o:Option V,i<=(ba ls).length/\(∀v,(ff ls ((ba ls).take i)).1=some v->v.length<=40)/\H' D=some (.lst (wV (ff ls ((ba ls).take i)).2))/\H' l=some (.lst ((ba ls).map λk=>V.int ((k:Nat):Int)))/\KB [] H H'/\σ=[some (.ref a),some (.ref D),some (IT (ff ls ((ba ls).take i)).1),o]) ⟨none,JL _,(λv z=>by cases z),gD4,s4,h05,rfl⟩ (λi σ H' _ h=>by obtain⟨o,_,_,_,h,_⟩:=h;exact bB.of h) ?_ ?_
  ·rintro i x σ H' hx ⟨o,hi,hw,gD,gl,h0,rfl⟩;have hio:i<(ba ls).length:=by have:=(Jv.mp hx).1;rw[Jt] at this;exact this
   obtain rfl:x=.int (((ba ls)[i]:Nat):Int):=by
    rw[JA,Jr hio] at hx;exact (Option.some.inj hx).symm
   have hth:(ba ls)[i]<ls.length:=j6 (JM hio);have eT:(ba ls).take (i+1)=(ba ls).take i++[(ba ls)[i]]:=by rw[K0,Jr hio];rfl
   rw[eT];generalize (ba ls)[i]=th at *;generalize (ba ls).take i=done at *;have ex:bX (iV ls) (th:Int)=some (.int ls[th]):=CH hth;have hlt:=hL.2.2 _ (JM hth);have en:ls[th]=((aU ls th:Nat):Int):=by
    unfold aU;rw[JF,Jr hth];simp;lia
   have hn20:aU ls th<=40:=by lia
   have eD:ff ls (done++[th])=Cw.along Cw.fS (aU ls) [th] (ff ls done):=Cw.hG _ _ _;have hwl:(ff ls done).2.length=ls.length:=Et ls done;have gt:=aH (h0 _ _ ha (by simp))
   obtain⟨n,hn⟩:∃n,aU ls th=n:=⟨_,rfl⟩;rw[hn] at en hn20;have fin:∀y:List Nat,y.length<=40->ff ls (done++[th])=(some y,(ff ls done).2.set th y)->∀M,M=(λσ H'=>∃o:Option V,i+1<=(ba ls).length/\(∀v,(ff ls (done++[th])).1=some v->v.length<=40)/\H' D=some (.lst (wV (ff ls (done++[th])).2))/\H' l=some (.lst ((ba ls).map λk=>V.int ((k:Nat):Int)))/\KB [] H H'/\σ=[some (.ref a),some (.ref D),some (IT (ff ls (done++[th])).1),o])->M [some (.ref a),some (.ref D),some (.str (wd y)),some (.int (th:Nat))] (upd H' D (.lst ((wV (ff ls done).2).set th (.str (wd y))))):=λy hy e M hM=>by
    rw[hM,e];refine⟨some _,hio,λv z=>by cases z;exact hy,?_,by rw[ar lD];exact gl,λb u e _=>by rw[ar (af e D0)];exact h0 _ _ e (by simp),rfl⟩
    rw[aa];unfold wV;rw[NJ]
   have xk:lJ (wV (ff ls done).2).length (th:Int)=some th:=by rw[rQ (by lia) (by rw[qM,hwl];lia),Kg]
   have setI:∀y:List Nat,bX ((wV (ff ls done).2).set th (.str (wd y))) (th:Int)=some (.str (wd y)):=λy=>bt (Lq (by rw[qM,hwl];exact hth))
   unfold aZ;refine au λM hM=>?_;exists gt,ex
   cases hs:(ff ls done).1 with
   |none =>
    refine⟨n,hn20,.inl ⟨by rw[en];rfl,?_⟩⟩
    exists gD,xk;rw[hM];clear hM M;dsimp only;refine qC λM hM=>?_;exists setI;refine fin _ (by rw[List.length_replicate];exact hn20) ?_ M hM
    rw[eD];generalize ff ls done=st at *;obtain⟨x,ws⟩:=st;obtain rfl:x=none:=hs;subst hn;rfl
   |some v =>
    refine⟨n,hn20,.inr ⟨v,by rw[en];rfl,hw v hs,?_⟩⟩
    exists gD,xk;rw[hM];clear hM M;dsimp only;refine qC λM hM=>?_;exists setI;refine fin _ (sZ (hw v hs) hn20) ?_ M hM;rw[eD];generalize ff ls done=st at *;obtain⟨x,ws⟩:=st;obtain rfl:x=some v:=hs;subst hn;rfl
  ·rintro σ H' ⟨o,_,_,gD,_,h0,rfl⟩;rw[Jt,Kl] at gD;show N _ _;rw[hN];clear hN N;exists ay gD;exactλb hb=>q b _ (h0.trans (KB.new hb)) aa
noncomputable def az:Row->Option Nat
 |.jump g=>some g
 |.zero _ g=>some g
 |_=>none
theorem pre_split{a b:List Nat}(h:a++b <+: z.drop p):a <+: z.drop p/\b <+: z.drop (p+a.length):=by
 obtain⟨y,e⟩:=h;refine⟨⟨b++y,by rw[<- e,JT]⟩,y,?_⟩
 rw[<- List.drop_drop,<- e,JT,Nb]
theorem t_(h:Pf ws)(ht:t<ws.length)(hp:ws.getD t [] <+: z.drop p):kZ ws z p=some (t,p+(ws.getD t []).length):=by
 unfold kZ;rw[h.th ht hp];rfl
theorem Du:Pf sy:=⟨n4,λi j hi hj hne=>by
 rcases lY hi with rfl|rfl|rfl<;>rcases lY hj with rfl|rfl|rfl<;>first|exact absurd rfl hne|decide +revert⟩
theorem kY{cd:List (List (List Nat))}{b:Nat}(hR:ym cd)(hb:b<8)(hp:aL cd (2,b) <+: z.drop p):mj cd z p .box=some (.box b,p+(aL cd (2,b)).length):=by
 obtain⟨c0,c1,c2,rfl,l0,l1,l2⟩:=hR.eY.ex;show (kZ c2 z p).map _=_;rw[t_ (hR.pf c2 (by simp)) (by lia) hp];rfl
theorem Dl{cd:List (List (List Nat))}{n:Nat}(hR:ym cd)(hn:n<65536)(hp:aL cd (1,bz n)++(eA n).tail <+: z.drop p):mj cd z p .num=some (.num n,p+(aL cd (1,bz n)++(eA n).tail).length):=by
 obtain⟨c0,c1,c2,rfl,l0,l1,l2⟩:=hR.eY.ex;have hb:=jz hn;obtain⟨h1,y,e⟩:=pre_split hp;have hl:=hp.length_le;rw[Ju,JW] at hl;have htl:(eA n).tail.length=bz n-1:=by rw[List.length_tail,uv]
 have hc:=t_ (hR.pf c1 (by simp)) (by lia) h1
 have h0:=(fz (hR.pf c1 (by simp)).ne hc).2.2.1
 replace hc:kZ c1 z p=some (bz n,p+(aL [c0,c1,c2] (1,bz n)).length):=hc
 show (zD c1 z p).map _=_;unfold zD;rw[hc];dsimp only
 replace h0:p<p+(aL [c0,c1,c2] (1,bz n)).length:=h0
 generalize aL [c0,c1,c2] (1,bz n)=w at *;by_cases c:bz n=0
 ·rw[J6 c];have e0:=v5 c;subst e0;rw[Ju,htl,c];rfl
 ·rw[Jx c,J6 (by lia),<- e,<- htl,My]
  have hn0:0<n:=by
   rcases Mt n with e|e
   ·subst e;exact absurd (by decide +kernel) c
   ·exact e
  rw[BA hn0,Ju,MB];rfl
theorem kj{w:Nat}(d:Int):(cX w d).length=(cQ w).length+bq w:=by
 unfold cX;rw[Ju,dz];rfl
theorem CC{cd:List (List (List Nat))}{k:Nat}(hk:k<3)(h1:-bY k<=d)(h2:d<bY k)(hp:cX k d <+: z.drop p):mj cd z p .go=some (.go d,p+(cX k d).length):=by
 obtain⟨hh,y,e⟩:=pre_split hp;have hl:=hp.length_le;rw[kj,JW] at hl;have hc:=t_ (t:=k) Du hk (by rw[yH hk];exact hh)
 rw[yH hk] at hc;have h16:0<bq k:=by rcases lY hk with rfl|rfl|rfl<;>decide
 have h2h:(2:Int)^bq k=2*bY k:=by rcases lY hk with rfl|rfl|rfl<;>decide
 have hl2:(bF d (bq k) []).length=bq k:=by rw[dz];rfl
 show (gA z p).map _=_;unfold gA;rw[hc];dsimp only;rw[if_pos (by lia),<- e,kj]
 have et:(bF d (bq k) []++y).take (bq k)=bF d (bq k) []:=by
  conv=>lhs;arg 1;rw[<- hl2]
  rw[My]
 rw[et,t9,MB];have hv:=iP (bq k) d;rw[h2h] at hv;have:Bh k (Cw.val (bF d (bq k) []))=d:=by
  unfold Bh;rw[hv];by_cases c:0<=d
  ·rw[M5 c (by lia),Jx (by lia)]
  ·have:d % (2*bY k)=d+2*bY k:=by
    rw[<- Int.add_emod_right];exact M5 (by lia) (by lia)
   rw[this,J6 (by lia)];lia
 rw[this];rfl
noncomputable def dD(cd:List (List (List Nat)))(r:Row)(w:Nat)(d:Int):List Nat:=b7 cd r++(match az r with|none=>[]|some _=>cX w d)
noncomputable def Row.m(g:Int):Row->gu
 |.put b n=>.put b n
 |.two u a b=>.two u a b
 |.one u b=>.one u b
 |.jump _=>.jump g
 |.zero b _=>.zero b g
 |.halt=>.halt
theorem Dd{cd:List (List (List Nat))}{n k:Nat}{r:Row}(hR:ym cd)(hr:r.Ok n)(hd:∀t,az r=some t->k<3/\-bY k<=d/\d<bY k)(hp:dD cd r k d <+: z.drop p):∃x,Cu cd z p=some x/\x.2=p+(dD cd r k d).length/\EF x=r.m ((x.2:Int)+d):=by
 have hw:∀{i:Nat} {y:List Nat},i<9->aL cd (0,i)++y <+: z.drop p->kZ (cd.getD 0 []) z p=some (i,p+(aL cd (0,i)).length)/\y <+: z.drop (p+(aL cd (0,i)).length):=λ{i y} hi h=>by
  obtain⟨h1,h2⟩:=pre_split h;obtain⟨c0,c1,c2,rfl,l0,l1,l2⟩:=hR.eY.ex;exact⟨t_ (hR.pf c0 (by simp)) (by rw[show [c0,c1,c2].getD 0 []=c0 from rfl];lia) h1,h2⟩
 have fin:∀(i:Nat) (y:List Nat) (v:List (PV×Nat)) (e:Nat),i<9->dD cd r k d=aL cd (0,i)++y->(y <+: z.drop (p+(aL cd (0,i)).length)->qA cd z (B2 i) (p+(aL cd (0,i)).length)=some (v,e))->e=p+(dD cd r k d).length->EF (⟨i,v⟩,e)=r.m ((e:Int)+d)->∃x,Cu cd z p=some x/\x.2=p+(dD cd r k d).length/\EF x=r.m ((x.2:Int)+d):=λi y v e hi e1 e2 e3 e4=>by
  rw[e1] at hp;obtain⟨h1,h2⟩:=hw hi hp;refine⟨(⟨i,v⟩,e),?_,e3,e4⟩;unfold Cu;rw[h1,Le,e2 h2];rfl
 cases r with
 |put b n' =>
  have e0:dD cd (.put b n') k d=aL cd (0,0)++(aL cd (2,b)++(aL cd (1,bz n')++(eA n').tail)):=by
   simp[dD,b7,cF,Row.fF,Pk.qB,Row.wi,fG,az]
  refine fin 0 _ [(.box b,p+(aL cd (0,0)).length+(aL cd (2,b)).length),(.num n',p+(aL cd (0,0)).length+(aL cd (2,b)).length+(aL cd (1,bz n')++(eA n').tail).length)] (p+(aL cd (0,0)).length+(aL cd (2,b)).length+(aL cd (1,bz n')++(eA n').tail).length) (by decide) e0 (λhy=>?_) ?_ rfl
  ·obtain⟨y1,y2⟩:=pre_split hy;show (mj cd z _ .box).bind _=_;rw[kY hR hr.1 y1,Le];show ((mj cd z _ .num).bind _).map _=_;rw[Dl hR hr.2 y2];rfl
  ·rw[e0];simp only[Ju];lia
 |two u a b =>
  have hu:(1+(u:Nat))<9:=(by decide:∀u:_root_.Fin 3,1+(u:Nat)<9) u
  have e0:dD cd (.two u a b) k d=aL cd (0,1+(u:Nat))++(aL cd (2,a)++aL cd (2,b)):=by
   simp[dD,b7,cF,Row.fF,Pk.qB,Row.wi,fG,az]
  have ek:B2 (1+(u:Nat))=[.box,.box]:=by rcases GL u with rfl|rfl|rfl<;>rfl
  refine fin (1+(u:Nat)) _ [(.box a,p+(aL cd (0,1+(u:Nat))).length+(aL cd (2,a)).length),(.box b,p+(aL cd (0,1+(u:Nat))).length+(aL cd (2,a)).length+(aL cd (2,b)).length)] (p+(aL cd (0,1+(u:Nat))).length+(aL cd (2,a)).length+(aL cd (2,b)).length) hu e0 (λhy=>?_) ?_ ?_
  ·obtain⟨y1,y2⟩:=pre_split hy;rw[ek];show (mj cd z _ .box).bind _=_;rw[kY hR hr.1 y1,Le];show ((mj cd z _ .box).bind _).map _=_;rw[kY hR hr.2 y2];rfl
  ·rw[e0];simp only[Ju];lia
  ·rcases GL u with rfl|rfl|rfl<;>rfl
 |one u b =>
  have hu:(4+(u:Nat))<9:=(by decide:∀u:_root_.Fin 2,4+(u:Nat)<9) u
  have e0:dD cd (.one u b) k d=aL cd (0,4+(u:Nat))++aL cd (2,b):=by
   simp[dD,b7,cF,Row.fF,Pk.qB,Row.wi,fG,az]
  have ek:B2 (4+(u:Nat))=[.box]:=by rcases Gw u with rfl|rfl<;>rfl
  refine fin (4+(u:Nat)) _ [(.box b,p+(aL cd (0,4+(u:Nat))).length+(aL cd (2,b)).length)] (p+(aL cd (0,4+(u:Nat))).length+(aL cd (2,b)).length) hu e0 (λhy=>?_) ?_ ?_
  ·rw[ek];show (mj cd z _ .box).bind _=_;rw[kY hR hr hy];rfl
  ·rw[e0];simp only[Ju];lia
  ·rcases Gw u with rfl|rfl<;>rfl
 |jump g =>
  have e0:dD cd (.jump g) k d=aL cd (0,6)++cX k d:=by
   simp[dD,b7,cF,Row.fF,Pk.qB,Row.wi,fG,az]
  obtain⟨d1,d2,d3⟩:=hd g rfl;refine fin 6 _ [(.go d,p+(aL cd (0,6)).length+(cX k d).length)] (p+(aL cd (0,6)).length+(cX k d).length) (by decide) e0 (λhy=>?_) ?_ rfl
  ·show (mj cd z _ .go).bind _=_;rw[CC d1 d2 d3 hy];rfl
  ·rw[e0];simp only[Ju];lia
 |zero b g =>
  have e0:dD cd (.zero b g) k d=aL cd (0,7)++(aL cd (2,b)++cX k d):=by
   simp[dD,b7,cF,Row.fF,Pk.qB,Row.wi,fG,az]
  obtain⟨d1,d2,d3⟩:=hd g rfl;refine fin 7 _ [(.box b,p+(aL cd (0,7)).length+(aL cd (2,b)).length),(.go d,p+(aL cd (0,7)).length+(aL cd (2,b)).length+(cX k d).length)] (p+(aL cd (0,7)).length+(aL cd (2,b)).length+(cX k d).length) (by decide) e0 (λhy=>?_) ?_ rfl
  ·obtain⟨y1,y2⟩:=pre_split hy;show (mj cd z _ .box).bind _=_;rw[kY hR hr.1 y1,Le];show ((mj cd z _ .go).bind _).map _=_;rw[CC d1 d2 d3 y2];rfl
  ·rw[e0];simp only[Ju];lia
 |halt =>
  have e0:dD cd .halt k d=aL cd (0,8)++[]:=by
   simp[dD,b7,cF,Row.fF,Pk.qB,Row.wi,fG,az]
  refine fin 8 _ [] (p+(aL cd (0,8)).length) (by decide) e0 (λhy=>rfl) ?_ rfl
  rw[e0];simp only[Ju];rfl
noncomputable def HS:Nat->Nat
 |0=>5
 |1=>10
 |_=>18
noncomputable def addW:Option Nat->Nat->Nat
 |none,_=>0
 |some _,w=>HS w
theorem AO(g:Option Nat)(w:Nat):addW g w<=18:=by
 unfold addW HS;split
 ·decide
 ·split<;>decide
noncomputable def iO:Nat->List Nat->List (Option Nat)->List Nat->List Nat
 |a,s::ss,g::gs,w::ws=>a::iO (a+s+addW g w) ss gs ws
 |a,_,_,_=>[a]
theorem o6(a:Nat)(ss:List Nat)(gs:List (Option Nat))(ws:List Nat):∃l,iO a ss gs ws=a::l:=by
 unfold iO;split
 ·exact⟨_,rfl⟩
 ·exact⟨_,rfl⟩
theorem jC:∀(ss:List Nat) (gs:List (Option Nat)) (ws:List Nat) (a:Nat),gs.length=ss.length->ws.length=ss.length->(iO a ss gs ws).length=ss.length+1
 |[],_,_,_,_,_=>by unfold iO;rfl
 |s::ss,[],_,_,h,_=>by cases h
 |s::ss,_::_,[],_,_,h=>by cases h
 |s::ss,g::gs,w::ws,a,h1,h2=>by
  rw[iO,JD,jC ss gs ws _ (Nat.succ.inj h1) (Nat.succ.inj h2)];rfl
theorem y9:∀(ss:List Nat) (gs:List (Option Nat)) (ws:List Nat) (a:Nat),(∀s∈ss,s<=150)->∀v∈iO a ss gs ws,a<=v/\v<=a+168*ss.length
 |[],_,_,a,_,v,h=>by
  have:v=a:=by unfold iO at h;simpa using h
  rw[this];simp
 |s::ss,[],_,a,_,v,h=>by
  have:v=a:=by unfold iO at h;simpa using h
  rw[this];simp
 |s::ss,_::_,[],a,_,v,h=>by
  have:v=a:=by unfold iO at h;simpa using h
  rw[this];simp
 |s::ss,g::gs,w::ws,a,hs,v,h=>by
  rw[iO] at h;have h1:=hs s J9;have h2:=AO g w;rw[JD];rcases J5.mp h with rfl|h
  ·exact⟨J7 _,Nat.le_add_right _ _⟩
  ·have:=y9 ss gs ws _ (λx hx=>hs x (J8 _ hx)) v h;lia
theorem rA:∀(ss:List Nat) (gs:List (Option Nat)) (ws:List Nat) (a k:Nat) (s:Nat) (g:Option Nat) (w:Nat),ss[k]?=some s->gs[k]?=some g->ws[k]?=some w->(iO a ss gs ws).getD (k+1) 0=(iO a ss gs ws).getD k 0+s+addW g w
 |[],_,_,_,_,_,_,_,h,_,_=>by simp at h
 |s::ss,[],_,_,_,_,_,_,_,h,_=>by simp at h
 |s::ss,_::_,[],_,_,_,_,_,_,_,h=>by simp at h
 |s::ss,g::gs,w::ws,a,0,s',g',w',h1,h2,h3=>by
  simp at h1 h2 h3;subst h1;subst h2;subst h3;rw[iO];obtain⟨l,e⟩:=o6 (a+s+addW g w) ss gs ws;rw[e];rfl
 |s::ss,g::gs,w::ws,a,k+1,s',g',w',h1,h2,h3=>by
  rw[iO];have:=rA ss gs ws (a+s+addW g w) k s' g' w' (by simpa using h1) (by simpa using h2) (by simpa using h3)
  simpa using this
noncomputable def fC(sp:List Nat)(t k:Nat):Int:=(sp.getD t 0:Int)-(sp.getD (k+1) 0:Int)
noncomputable def Ah(w:Nat)(d:Int):Bool:=decide (-bY w<=d) && decide (d<bY w)
theorem j9:∀{ws:List Nat},(∀w∈ws,w<3)->ws.sum<=2*ws.length
 |[],_=>J7 _
 |w::ws,h=>by
  have h1:=h w J9;have h2:=j9 λx hx=>h x (J8 _ hx);rw[MC,JD];lia
theorem ye{ws:List Nat}(hs:∀s∈ss,s<=150)(i:Nat):(iO 0 ss gs ws).getD i 0<=168*ss.length:=by
 rw[JF]
 cases c:(iO 0 ss gs ws)[i]? with
 |none=>exact JL _
 |some v=>have:=y9 ss gs ws 0 hs v (K2 c);show v<=_;lia
noncomputable def Aq(ss:List Nat)(gs:List (Option Nat))(ws:List Nat):Prop:=∀(k t w:Nat),gs[k]?=some (some t)->ws[k]?=some w->Ah w (fC (iO 0 ss gs ws) t k)=true
noncomputable def jw(cd:List (List (List Nat)))(rs:List Row):List Nat:=rs.map λr=>(b7 cd r).length
noncomputable def BV(sp:List Nat)(k w:Nat):Option Nat->List Nat
 |none=>[]
 |some t=>cX w (fC sp t k)
noncomputable def nE(cd:List (List (List Nat)))(sp:List Nat):Nat->List Row->List Nat->List Nat
 |k,r::rs,w::ws=>b7 cd r++BV sp k w (az r)++nE cd sp (k+1) rs ws
 |_,_,_=>[]
theorem fY{r:Row}{n:Nat}(h:r.Ok n)(e:az r=some t):t<=n:=by
 cases r with
 |jump g=>cases e;exact h
 |zero b g=>cases e;exact h.2
 |put=>cases e
 |two=>cases e
 |one=>cases e
 |halt=>cases e
theorem sM{w:Nat}(h:w<3)(d:Int):(cX w d).length=HS w:=by
 rw[kj];rcases lY h with rfl|rfl|rfl<;>rfl
structure Laid (cd:List (List (List Nat))) (rs:List Row) (ws sp z:List Nat):Prop where
 hR:ym cd
 len:ws.length=rs.length
 le:rs.length<=64
 ok:∀r∈rs,r.Ok rs.length
 lt:∀w∈ws,w<3
 lS:sp=iO 0 (jw cd rs) (rs.map az) ws
 fit:Aq (jw cd rs) (rs.map az) ws
 hz:z=nE cd sp 0 rs ws
section
variable {cd:List (List (List Nat))} {rs:List Row} {ws sp z:List Nat}
theorem Laid.sl(L:Laid cd rs ws sp z):sp.length=rs.length+1:=by
 rw[L.lS,jC _ _ _ _ (by unfold jw;rw[Jt,Jt]) (by unfold jw;rw[Jt];exact L.len)]
 unfold jw;rw[Jt]
noncomputable def Bl(sp:List Nat)(k:Nat)(r:Row):Int:=match az r with|none=>0|some t=>fC sp t k
theorem Laid.row(L:Laid cd rs ws sp z){k:Nat}(hk:k<rs.length):∃w,ws[k]?=some w/\w<3/\sp.getD (k+1) 0=sp.getD k 0+(dD cd rs[k] w (Bl sp k rs[k])).length/\nE cd sp k (rs.drop k) (ws.drop k)=dD cd rs[k] w (Bl sp k rs[k])++nE cd sp (k+1) (rs.drop (k+1)) (ws.drop (k+1))/\∀t,az rs[k]=some t->w<3/\-bY w<=Bl sp k rs[k]/\Bl sp k rs[k]<bY w:=by
 have hw:k<ws.length:=by rw[L.len];exact hk
 have ew:=Jr hw;have lw:=L.lt _ (JM hw);have er:=Jr hk;have okr:=L.ok _ (JM hk);refine⟨ws[k],ew,lw,?_,?_,?_⟩
 ·have:=rA (jw cd rs) (rs.map az) ws 0 k (b7 cd rs[k]).length (az rs[k]) ws[k] (by unfold jw;rw[JA,er];rfl) (by rw[JA,er];rfl) ew
  rw[<- L.lS] at this;rw[this,dD,Ju,MB];congr 2
  cases e:az rs[k] with
  |none=>rfl
  |some t=>exact (sM lw _).symm
 ·rw[KI hk,KI hw,nE,dD];congr 2;unfold BV Bl
  cases e:az rs[k] with
  |none=>rfl
  |some t=>rfl
 ·intro t et;have hf:=L.fit k t ws[k] (by rw[JA,er];exact Kk some et) ew
  rw[<- L.lS] at hf;unfold Ah at hf;rw[Kv] at hf;unfold Bl;rw[et];exact⟨lw,KC hf.1,KC hf.2⟩
theorem Laid.at(L:Laid cd rs ws sp z):∀k,k<=rs.length->z.drop (sp.getD k 0)=nE cd sp k (rs.drop k) (ws.drop k)/\sp.getD k 0<=z.length
 |0,_=>by
  have e:sp.getD 0 0=0:=by
   rw[L.lS];obtain⟨l,e⟩:=o6 0 (jw cd rs) (rs.map az) ws;rw[e];rfl
  rw[e,KA];exact⟨L.hz,JL _⟩
 |k+1,hk=>by
  obtain⟨h1,h2⟩:=L.at k (by lia)
  obtain⟨w,_,_,e1,e2,_⟩:=L.row (show k<rs.length by lia)
  rw[e2] at h1;have hl:=Kk List.length h1;rw[JW,Ju] at hl;refine⟨?_,by lia⟩
  rw[e1,<- List.drop_drop,h1,Nb]
theorem Laid.pos(L:Laid cd rs ws sp z){k w:Nat}(hk:k<rs.length):0<(dD cd rs[k] w d).length:=by
 have g0:=L.hR.eY.at (p:=(0,rs[k].wi)) (.inl ⟨rfl,rs[k].zZ⟩);obtain⟨c0,c1,c2,e,l0,l1,l2⟩:=L.hR.eY.ex;have hne:aL cd (0,rs[k].wi)≠[]:=by
  refine (L.hR.pf c0 (by rw[e];simp)).ne _ ?_
  have:=g0.2.1;rw[e] at this ⊢;exact K2 this
 unfold dD b7 cF;rw[Ju,Ju,List.flatMap_cons,Ju];have:=MZ.mpr hne;lia
theorem Laid.up(L:Laid cd rs ws sp z){k:Nat}(hk:k<rs.length):sp.getD k 0<sp.getD (k+1) 0:=by
 obtain⟨w,_,_,e1,_⟩:=L.row hk;have:=L.pos (w:=w) (d:=Bl sp k rs[k]) hk;lia
theorem Laid.mono(L:Laid cd rs ws sp z):∀(i d:Nat),i+d+1<=rs.length->sp.getD i 0<sp.getD (i+d+1) 0
 |i,0,h=>L.up (by lia)
 |i,d+1,h=>L4 (L.mono i d (by lia)) (L.up (show i+d+1<rs.length by lia))
theorem Laid.last(L:Laid cd rs ws sp z):z.length=sp.getD rs.length 0:=by
 obtain⟨h1,h2⟩:=L.at rs.length (J7 _);rw[Mh] at h1;have hl:=Kk List.length h1;rw[JW,show (nE cd sp rs.length [] (ws.drop rs.length)).length=0 by unfold nE;rfl] at hl
 lia
theorem Laid.Jd(L:Laid cd rs ws sp z):z.length<=20000:=by
 rw[L.last,L.lS];have:=ye (ss:=jw cd rs) (gs:=rs.map az) (ws:=ws) (λs hs=>by
  obtain⟨r,hr,rfl⟩:=J_.mp hs;have:=fT L.hR.eY (L.ok r hr)
  lia) rs.length
 have l:(jw cd rs).length=rs.length:=Jt ..;have:=L.le;lia
end
theorem CA{r:Row}{n k:Nat}(h:r.Ok n)(hg:∀t,az r=some t->t<=k):r.Ok k:=by
 cases r with
 |jump g=>exact hg g rfl
 |zero b g=>exact⟨h.1,hg g rfl⟩
 |put=>exact h
 |two=>exact h
 |one=>exact h
 |halt=>exact h
noncomputable def aS(H:Hp)(p dq:Addr)(n:Nat):Prop:=∃(cells:List Int) (i t z:Int),H p=some (.lst [.ref dq,.int i,.int t,.int z])/\H dq=some (.lst (iV cells))/\(∀c∈cells,0<=c)/\0<=i/\i<=cells.length/\cells.length<=63/\0<=t/\t<=n
theorem aS.mono{p:Addr}{n m:Nat}(h:aS H p dq n)(hm:n<=m):aS H p dq m:=by
 obtain⟨cells,i,t,z,h1,h2,h3,h4,h5,h6,h7,h8⟩:=h;exact⟨cells,i,t,z,h1,h2,h3,h4,h5,h6,h7,by lia⟩
theorem aS.keep{p:Addr}{n:Nat}(h:aS H p dq n)(k:KB ex H H')(n1:p∉ex)(n2:dq∉ex):aS H' p dq n:=by
 obtain⟨cells,i,t,z,h1,h2,h3⟩:=h;exact⟨cells,i,t,z,k _ _ h1 n1,k _ _ h2 n2,h3⟩
theorem aS.kb{p:Addr}{n:Nat}(h:aS H p dq n)(k:KB [] H H'):aS H' p dq n:=h.keep k (by simp) (by simp)
theorem aS.lst{p:Addr}{n:Nat}(h:aS H p dq n):∀b∈[p,dq],∃ys,H b=some (.lst ys):=by
 obtain⟨cells,i,t,z,h1,h2,h3⟩:=h;intro b hb;simp only[J5,Ka,KU] at hb;rcases hb with rfl|rfl
 ·exact⟨_,h1⟩
 ·exact⟨_,h2⟩
theorem aS.new{p l:Addr}{n:Nat}(h:aS H p dq n)(hl:H l=none):l∉[p,dq]:=λz=>by
 obtain⟨ys,e⟩:=h.lst l z;rw[hl] at e;cases e
theorem aS.tup{p:Addr}{n:Nat}(h:aS H p dq n)(k:KB [p,dq] H H')(e:H a=some (.tup xs)):H' a=some (.tup xs):=Dj k h.lst e
noncomputable def CZ:Sp:=λvs H Q _=>∃c k:Int,vs=[.int c,.int k]/\0<=k/\k<2^60/\∀v:Int,Q (.int v) H
theorem Fg(F:HasFn K mg "_law_mix" gM ["number","turn"]):aq P w K mg base aP 1 "_law_mix" ["number","turn"] CZ:=by
 refine F.eX fR (λvs H Q E h=>?_) (λf cdv A outer s H vs Q E hr h=>?_)
 ·obtain⟨c,k,rfl,_⟩:=h;rfl
 ·obtain⟨c,k,rfl,h0,h1,q⟩:=h;have hu:=aK hr;refine⟨_,(Z.ao (Z.se (i:=2) fR.nd (Z.op eI (Z.op (Z.aC K rfl) (Z.op (Z.aC K rfl) (Z.op (Z.aC K rfl) (Z.op eI (Z.v 0) Z.int) (Z.op dm (Z.op dm Z.int (Z.v 1)) (Z.v 1))) (Z.op dm Z.int (Z.v 1))) Z.int) Z.int))
   (Z.ao (Z.se (i:=2) fR.nd (Z.op eI (Z.op dm (Z.v 2) (Z.v 2)) Z.int))
   (Z.ax (Z.ret (Z.op n9 (Z.op eI (Z.op (Z.aC K rfl) (Z.op dm (Z.v 2) Z.int) (Z.v 1)) Z.int) Z.int))))),?_⟩
  refine au λN hN=>?_;walk_at "rz";refine⟨by decide,.inl (by decide),.inr ⟨by lia,by lia⟩,.inl (by decide),by decide,?_⟩
  rw[hN];clear hN N;generalize hx:(c % 1999999927+7001*k*k+40009*k+17) % 2147483629=x;have hx1:0<=x/\x<2147483629:=by rw[<- hx];exact⟨LN _ (by decide),LO _ (by decide)⟩
  refine au λN hN=>?_;walk_at "rz";refine⟨.inl ⟨by lia,by lia⟩,by decide,?_⟩
  rw[hN];clear hN N;generalize hy:x*x % 2147483587=y;have hy1:0<=y/\y<2147483587:=by rw[<- hy];exact⟨LN _ (by decide),LO _ (by decide)⟩
  walk_at "rz";exact⟨.inr (by decide),by decide,⟨by decide,by decide⟩,q _⟩
noncomputable def xl(K:W.Frag):Sp:=λvs H Q _=>∃(a:Addr) (ns:List Int),vs=[.ref a]/\bB K H a (ns.map V.int)/\∀p dq H',aS H' p dq 0->KB [] H H'->H p=none->H dq=none->Q (.ref p) H'
theorem Cc(T:Txt K mg)(F:HasFn K mg "_law_deck" dW ["script"]):aq P w K mg base aP 1 "_law_deck" ["script"] (xl K):=by
 refine F.eX oG (λvs H Q E h=>?_) (λf cdv A outer s H vs Q E hr h=>?_)
 ·obtain⟨a,ns,rfl,_⟩:=h;rfl
 ·obtain⟨a,ns,rfl,hS,q⟩:=h;have hu:=aK hr;refine⟨_,(Z.ax (Z.ret (Z.lst (Z.cons (Z.C4 (osc:=ae dW) (ON:=["script"]) (own:=["cell"]) (N:=["cell","script"]) (aF.of rfl (by decide +kernel)) (Z.any K rfl (Z.slice (Z.CK K rfl) (Z.v 0) Z.rR (Z.oH Z.int))) (λnd _ _ _ _=>(Z.aY (i:=0) nd rfl (by right))) (λ_ _ _ _=>Z.wj) (λ_ _ _ _=>(Z.cb xC rfl T.GS (by decide +kernel) (Z.cons (Z.v 0) Z.nil)))) (Z.cons Z.int (Z.cons Z.int (Z.cons (Z.op eI (Z.op (Z.aC K rfl) (Z.cb (Z.Hu K rfl rfl) rfl T.Hb (by decide +kernel) (Z.cons (Z.slice (Z.CK K rfl) (Z.v 0) Z.rR (Z.oH Z.int)) Z.nil)) (Z.op dm Z.int (Z.cb (Z.xI K rfl) rfl T.cy (by decide +kernel) (Z.cons (Z.v 0) Z.nil)))) Z.int) Z.nil))))))),?_⟩
  have ec:d5 (ns.map V.int) none (some 63)=iV (ns.take 63):=by
   unfold d5 iV;rw[HT.dH,show HT.bD (ns.map V.int).length (ns.map V.int).length (some 63)=min 63 (ns.map V.int).length from HT.fo _ _ 63,Jt,LX,KA,<- MD];congr 1;rw[List.take_eq_take_iff];lia
  have hm:(ns.take 63).length<=63:=by rw[JK];lia
  generalize ns.take 63=ms at ec hm;walk_at "rz";refine⟨a,_,rfl,hS,λc hc=>?_⟩;rw[ec];have k1:KB [] H (upd H c (.lst (iV ms))):=KB.new hc;have s1:upd H c (.lst (iV ms)) c=some (.lst (iV ms)):=aa;generalize upd H c (.lst (iV ms))=H1 at *;simp only[ay s1];refine gK (xs:=iV ms) (JC (show _<=63 by rw[c_];exact hm) (by decide)) (λD i ys H'=>H' D=some (.lst ys)/\KB [] H1 H'/\H1 D=none/\∃bs:List Int,ys=iV bs/\bs.length=i/\∀b∈bs,0<=b) (λD hD=>⟨aa,KB.new hD,hD,[],rfl,rfl,λb hb=>nomatch hb⟩) (λD i ys H' h=>⟨h.1,by obtain⟨_,_,_,bs,rfl,e,_⟩:=h;rw[c_,e]⟩) (λD i ys H' h=>bB.of (h.2.1 _ _ s1 (by simp))) ?_ ?_
  ·rintro D i ys H' x R hx ⟨g1,g2,g3,bs,rfl,g4,g5⟩ k;obtain⟨hi,rfl⟩:=rS hx;walk_at "rz";refine k _ _ g1 ⟨aa,λb o e _=>?_,g3,bs++[_],(oa bs [_]).symm,by rw[Ju,g4];rfl,λb hb=>?_⟩
   ·rw[ar (af e g3)];exact g2 b o e (by simp)
   ·rcases Kj.mp hb with z|z
    ·exact g5 b z
    ·rw[JG.mp z];split<;>lia
  ·rintro D ys H' ⟨g1,g2,g3,bs,rfl,g4,g5⟩;rw[c_] at g4;refine⟨a,_,rfl,(k1.trans g2).Ds (by simp) hS,λd hd=>?_⟩
   rw[ec];have k2:KB [] H' (upd H' d (.lst (iV ms))):=KB.new hd;have s2:upd H' d (.lst (iV ms)) d=some (.lst (iV ms)):=aa;generalize upd H' d (.lst (iV ms))=H2 at *;have kk:=(k1.trans g2).trans k2;refine⟨d,ms,rfl,bB.of s2,.ref a,_,rfl,.inl ⟨_,kk.Ds (by simp) hS,rfl⟩,.inl (by decide),by decide,by decide,λp hp=>?_⟩
   have gD:=k2 _ _ g1 (by simp)
   exact q p D _ ⟨bs,0,0,_,aa,by rw[ar (af gD hp)];exact gD,g5,by decide,by lia,by lia,by decide,by decide⟩ (kk.trans (KB.new hp)) (kk.free (by simp) hp) (k1.free (by simp) g3)
noncomputable def eE:Sp:=λvs H Q _=>∃(p dq:Addr) (m:Int) (n:Nat),vs=[.ref p,.int m]/\aS H p dq n/\n<2^50/\0<m/\m<2^30/\∀(v:Nat) H',(v:Int)<m->aS H' p dq (n+1)->KB [p,dq] H H'->Q (.int (v:Nat)) H'
theorem AK(T:Txt K mg)(F:HasFn K mg "_law_draw" fV ["deck","most"])(h_law_mix:aq P w K mg base aP 1 "_law_mix" ["number","turn"] CZ):aq P w K mg base aP 2 "_law_draw" ["deck","most"] eE:=by
 refine F.eX ia (λvs H Q E h=>?_) (λf cdv A outer s H vs Q E hr h=>?_)
 ·obtain⟨p,dq,m,n,rfl,_⟩:=h;rfl
 ·obtain⟨p,c,m,n,rfl,⟨cells,i,t,z,hp,hc,hn0,i0,i1,k63,t0,t1⟩,hn,hm0,hm1,q⟩:=h;have hu:=aK hr;have hcp:c≠p:=by
   rintro rfl;rw[hp] at hc
   cases cells<;>cases hc
  have sp:=ay hp;have fin:∀(a:Int) (H':Hp),aS H' p c (n+1)->KB [p,c] H H'->Q (.int (a % m)) H':=λa H' D k=>by
   have h0:=LN a (Int.ne_of_gt hm0);have h1:=LO a hm0;have:=q (a % m).toNat H' (by lia) D k
   rwa [Int.toNat_of_nonneg h0] at this
  refine⟨_,(Z.ao (Z.asg (Z.op (Z.aC K rfl) (Z.ix (Z.aA K rfl hu) (Z.v 0) Z.int) Z.int) (Z.vg (Z.v 0) Z.int))
   (Z.ao (Z.cJ (Z.aI bj (Z.ix (Z.aA K rfl hu) (Z.v 0) Z.int) (Z.cb (Z.cH K rfl) rfl T.cy (by decide +kernel) (Z.cons (Z.ix (Z.aA K rfl hu) (Z.v 0) Z.int) Z.nil))) (Z.ax (Z.ret (Z.op eI (Z.fc h_law_mix (Z.cons (Z.ix (Z.aA K rfl hu) (Z.v 0) Z.int) (Z.cons (Z.ix (Z.aA K rfl hu) (Z.v 0) Z.int) Z.nil))) (Z.v 1)))) Z.b8)
   (Z.ao (Z.se (i:=2) ia.nd (Z.ix (Z.aA K rfl hu) (Z.ix (Z.aA K rfl hu) (Z.v 0) Z.int) (Z.ix (Z.aA K rfl hu) (Z.v 0) Z.int)))
   (Z.ao (Z.cJ (Z.aI e8 (Z.v 2) (Z.op w_ Z.int Z.int)) (Z.ao (Z.asg (Z.op (Z.aC K rfl) (Z.ix (Z.aA K rfl hu) (Z.v 0) Z.int) Z.int) (Z.vg (Z.v 0) Z.int))
   (Z.ax (Z.ret (Z.op eI (Z.fc h_law_mix (Z.cons (Z.v 2) (Z.cons (Z.ix (Z.aA K rfl hu) (Z.v 0) Z.int) Z.nil))) (Z.v 1))))) Z.b8)
   (Z.ao (Z.asg (Z.op n9 (Z.v 2) (Z.v 1)) (Z.vg (Z.ix (Z.aA K rfl hu) (Z.v 0) Z.int) (Z.ix (Z.aA K rfl hu) (Z.v 0) Z.int)))
   (Z.ax (Z.ret (Z.op eI (Z.v 2) (Z.v 1))))))))),?_⟩
  have x1:lJ 4 1=some 1:=by decide
  have x2:lJ 4 2=some 2:=by decide
  refine au λN hN=>?_;exists sp,hp,x2;have k1:KB [p,c] H (upd H p (.lst [.ref c,.int i,.int (t+1),.int z])):=KB.set (by simp)
  have p1:upd H p (.lst [.ref c,.int i,.int (t+1),.int z]) p=_:=aa;have c1:upd H p (.lst [.ref c,.int i,.int (t+1),.int z]) c=some (.lst (iV cells)):=by rw[ar hcp];exact hc
  generalize upd H p (.lst [.ref c,.int i,.int (t+1),.int z])=H1 at *;have s1:=ay p1;have sc:=ay c1;rw[hN];clear hN N;refine au λN hN=>?_;exists s1,sc,c_;by_cases e1:i=(cells.length:Nat)
  ·exists J6 e1,s1;refine⟨_,_,rfl,by lia,by lia,λv=>?_⟩
   walk_at "rz";exact⟨hm0,fin v H1 ⟨cells,i,t+1,z,p1,c1,hn0,i0,i1,k63,by lia,by lia⟩ k1⟩
  ·rw[Jx e1,hN];clear hN N;obtain⟨j,rfl⟩:∃j:Nat,i=(j:Int):=⟨i.toNat,by lia⟩
   have hj:j<cells.length:=by lia
   have aj:=CH hj;have hv0:=hn0 _ (JM hj);refine au λN hN=>?_;exists s1,sc,aj;generalize cells[j]=v at *;rw[hN];clear hN N;refine au λN hN=>?_;walk_at "rz";refine⟨⟨by decide,by decide,by decide⟩,?_⟩
   by_cases e2:v<10^(18:Int).toNat
   ·rw[J6 e2];exists s1,p1,x1;have k2:KB [p,c] H1 (upd H1 p (.lst [.ref c,.int ((j:Int)+1),.int (t+1),.int z])):=KB.set (by simp)
    have p2:upd H1 p (.lst [.ref c,.int ((j:Int)+1),.int (t+1),.int z]) p=_:=aa;have c2:upd H1 p (.lst [.ref c,.int ((j:Int)+1),.int (t+1),.int z]) c=some (.lst (iV cells)):=by rw[ar hcp];exact c1
    generalize upd H1 p (.lst [.ref c,.int ((j:Int)+1),.int (t+1),.int z])=H2 at *;refine⟨_,_,rfl,by lia,by lia,λv=>?_⟩
    walk_at "rz";exact⟨hm0,fin v H2 ⟨cells,(j:Int)+1,t+1,z,p2,c2,hn0,by lia,by lia,k63,by lia,by lia⟩ (k1.trans k2)⟩
   ·rw[Jx e2,hN];clear hN N;have xj:lJ (iV cells).length (j:Int)=some j:=by rw[rQ (by lia) (by rw[c_];lia)];simp
    refine au λM hM=>?_;exists s1,c1,xj;refine⟨⟨hm0,by lia⟩,?_⟩
    rw[Fc];have k2:KB [p,c] H1 (upd H1 c (.lst (iV (cells.set j (v / m))))):=KB.set (by simp)
    have c2:upd H1 c (.lst (iV (cells.set j (v / m)))) c=_:=aa;have p2:upd H1 c (.lst (iV (cells.set j (v / m)))) p=_:=(ar hcp.symm).trans p1;generalize upd H1 c (.lst (iV (cells.set j (v / m))))=H2 at *;rw[hM];clear hM M;walk_at "rz";refine⟨hm0,fin v H2 ⟨cells.set j (v / m),j,t+1,z,p2,c2,λx hx=>?_,by lia,by rw[Lh];lia,by rw[Lh];exact k63,by lia,by lia⟩ (k1.trans k2)⟩
    rcases Kw hx with hx|rfl
    ·exact hn0 x hx
    ·exact Int.ediv_nonneg hv0 (by lia)
theorem Gq(l:List Nat)(a:Nat):(iV (nZ l)).eraseIdx a=iV (nZ (l.eraseIdx a)):=by
 unfold iV nZ;simp only[MI,JN,MD,Nu]
theorem xS(l:List Nat)(n k:Nat):iH (iV (nZ l)) n (V.int (k:Int))=iV (nZ (iH l n k)):=by
 unfold iH iV nZ;simp only[JN,MD,Nu,JY]
theorem d4(l:List Nat):(iV (nZ l)).length=l.length:=by rw[c_,jR]
noncomputable def rV(K:W.Frag):Sp:=λvs H Q _=>∃(p dq:Addr) (m n:Nat),vs=[.ref p,.int (m:Nat)]/\aS H p dq n/\n<2^40/\2<=m/\m<=17/\∀(ls:List Int) (a:Addr) H',aS H' p dq (n+60)->KB [p,dq] H H'->H' a=some (.tup (iV ls))->ls.length=m->lW ls->pT ls=true->Q (.ref a) H'
theorem z_(T:Txt K mg)(F:HasFn K mg "_law_lengths" dC ["deck","many"])(h_law_draw:aq P w K mg base aP 2 "_law_draw" ["deck","most"] eE):aq P w K mg base aP 3 "_law_lengths" ["deck","many"] (rV K):=by
 refine F.eX bS (λvs H Q E h=>?_) (λf cdv A outer s H vs Q E hr h=>?_)
 ·obtain⟨p,dq,m,n,rfl,_⟩:=h;rfl
 ·have hu:=aK hr;obtain⟨p,dq,m,n,rfl,hd,hn,hm2,hm,q⟩:=h;refine⟨_,(Z.ao (Z.se (i:=2) bS.nd (Z.lst (Z.cons Z.int Z.nil)))
   (Z.ao (Z.iy Ke rfl (Z.Am rfl T.iw (Z.cons (Z.op cO (Z.v 1) Z.int) Z.nil)) (Z.aY (i:=3) bS.nd rfl (by right)) (Z.ao (Z.se (i:=4) bS.nd (Z.op (Z.aC K rfl) (Z.bm K rfl PySem.F.plainAttrs_list PySem.F.slot_list_pop PySem.F.type_list_pop xU (Z.v 2) (Z.cons (Z.fc h_law_draw (Z.cons (Z.v 0) (Z.cons (Z.cb (Z.cH K rfl) rfl T.cy (by decide +kernel) (Z.cons (Z.v 2) Z.nil)) Z.nil))) Z.nil)) Z.int))
   (Z.ao (Z.expr (Z.bm K rfl PySem.F.plainAttrs_list PySem.F.slot_list_insert PySem.F.type_list_insert mE (Z.v 2) (Z.cons (Z.fc h_law_draw (Z.cons (Z.v 0) (Z.cons (Z.op (Z.aC K rfl) (Z.cb (Z.cH K rfl) rfl T.cy (by decide +kernel) (Z.cons (Z.v 2) Z.nil)) Z.int) Z.nil))) (Z.cons (Z.v 4) Z.nil))))
   (Z.ax (Z.expr (Z.bm K rfl PySem.F.plainAttrs_list PySem.F.slot_list_insert PySem.F.type_list_insert mE (Z.v 2) (Z.cons (Z.fc h_law_draw (Z.cons (Z.v 0) (Z.cons (Z.op (Z.aC K rfl) (Z.cb (Z.cH K rfl) rfl T.cy (by decide +kernel) (Z.cons (Z.v 2) Z.nil)) Z.int) Z.nil))) (Z.cons (Z.v 4) Z.nil))))))))
   (Z.ao (Z.cJ (Z.aI bj (Z.fc h_law_draw (Z.cons (Z.v 0) (Z.cons Z.int Z.nil))) Z.int) (Z.ao (Z.se (i:=5) bS.nd (Z.fc h_law_draw (Z.cons (Z.v 0) (Z.cons (Z.v 1) Z.nil))))
   (Z.ax (Z.asg (Z.cb (ni rfl) rfl T.Cs (by decide +kernel) (Z.cons Z.int (Z.cons (Z.op (Z.aC K rfl) (Z.op (Z.aC K rfl) (Z.ix (Z.aA K rfl hu) (Z.v 2) (Z.v 5)) Z.int) (Z.fc h_law_draw (Z.cons (Z.v 0) (Z.cons Z.int Z.nil)))) Z.nil))) (Z.vg (Z.v 2) (Z.v 5))))) Z.b8)
   (Z.ax (Z.ret (Z.ct (Z.dh K rfl) rfl T.dj (by decide +kernel) (Z.cons (Z.v 2) Z.nil))))))),?_⟩
  refine au λN hN=>?_;walk_at "rz";refine⟨by decide,λd hd0=>?_⟩
  have k1:KB [] H (upd H d (.lst [.int 0])):=KB.new hd0;have s1:upd H d (.lst [.int 0]) d=some (.lst (iV (nZ [0]))):=aa;generalize upd H d (.lst [.int 0])=H1 at *;have nd:=hd.new hd0;have dp:p≠d:=λz=>nd (by simp[z])
  have ddq:dq≠d:=λz=>nd (by simp[z])
  rw[hN];clear hN N;refine au λN hN=>?_;walk_at "rz";refine⟨by lia,by lia,?_⟩
  have setD:∀{G:Hp} {n:Nat} {o:HO},aS G p dq n->aS (upd G d o) p dq n:=λh=>h.keep (KB.set (ex:=[d]) (by simp)) (by simpa using dp) (by simpa using ddq)
  have keep:∀{G G':Hp},KB [p,dq] H G->KB [p,dq] G G'->KB [p,dq] H G':=λa b=>a.trans b;have keepD:∀{G:Hp} {o:HO},KB [p,dq] H G->KB [p,dq] H (upd G d o):=λa b o e z=>by rw[ar (af e hd0)];exact a b o e z
  refine fv (λi σ H'=>∃(l:List Nat) (o3 o4:Option V),Pt l/\l.length=i+1/\aS H' p dq (n+3*i)/\KB [p,dq] H H'/\H' d=some (.lst (iV (nZ l)))/\σ=[some (.ref p),some (.int (m:Nat)),some (.ref d),o3,o4,none]) ⟨[0],none,none,⟨by decide,by simp,.inl rfl⟩,rfl,hd.kb k1,k1.all,s1,rfl⟩ ?_ ?_
  ·rintro i σ H' hi ⟨l,o3,o4,hl,hli,hD,hk,gd,rfl⟩;unfold aZ;refine au λM hM=>?_;exists ay gd,d4;refine⟨.inl ⟨rfl,_,bB.of gd⟩,p,dq,_,_,rfl,hD,by lia,by lia,by lia,λa H2 ha D2 k2=>?_⟩
   have ha':a<l.length:=by lia
   have hle:=l.length_eraseIdx_of_lt ha';have gd2:=k2 _ _ gd nd;have six:seqIndex? (a:Int) (iV (nZ l)).length=some a:=by
    rw[d4];unfold seqIndex?;simp;lia
   have enZ:(iV (nZ l))[a]?=some (.int ((l[a]:Nat):Int)):=by unfold iV nZ;rw[JA,JA,Jr ha'];rfl
   refine⟨d,_,_,a,_,rfl,rfl,gd2,by lia,by lia,six,enZ,?_⟩
   rw[Gq];have D3:=setD (o:=.lst (iV (nZ (l.eraseIdx a)))) D2;have K3:=keepD (o:=.lst (iV (nZ (l.eraseIdx a)))) (hk.trans k2);have g3:upd H2 d (.lst (iV (nZ (l.eraseIdx a)))) d=_:=aa;generalize upd H2 d (.lst (iV (nZ (l.eraseIdx a))))=H3 at *;walk_at "rz";rw[show ((l[a]:Nat):Int)+1=((l[a]+1:Nat):Int) from rfl,hM];clear hM M;refine au λM hM=>?_;exists ay g3,d4,hle;refine⟨.inl ⟨rfl,_,bB.of g3⟩,p,dq,_,_,rfl,D3,by lia,by lia,by lia,λv H4 hv D4 k4=>?_⟩
   have g4:=k4 _ _ g3 nd;refine⟨d,_,_,_,rfl,rfl,g4,by lia,by lia,Kt (show _<=20 by rw[d4];lia) (by decide),?_⟩
   rw[d4,xS,hle];generalize hl2:iH (l.eraseIdx a) (min (v:Int).toNat (l.length-1)) (l[a]+1)=l2;have le2:l2.length=l.length:=by rw[<- hl2,BR,hle];lia
   have pe2:l2.Perm ((l[a]+1)::l.eraseIdx a):=by rw[<- hl2];exact p8 ..
   clear hl2;have D5:=setD (o:=.lst (iV (nZ l2))) D4;have K5:=keepD (o:=.lst (iV (nZ l2))) (K3.trans k4);have g5:upd H4 d (.lst (iV (nZ l2))) d=_:=aa;generalize upd H4 d (.lst (iV (nZ l2)))=H5 at *;rw[hM];clear hM M;dsimp only;refine qC λM hM=>?_;exists ay g5,d4;refine⟨.inl ⟨rfl,_,bB.of g5⟩,p,dq,_,_,rfl,D5,by lia,by lia,by lia,λv H6 hv D6 k6=>?_⟩
   have g6:=k6 _ _ g5 nd;refine⟨d,_,_,_,rfl,rfl,g6,by lia,by lia,Kt (show _<=20 by rw[d4];lia) (by decide),?_⟩
   rw[d4,xS];obtain⟨hP3,hL3⟩:=hl.next ha' (by lia) ((p8 l2 (min (v:Int).toNat l2.length) (l[a]+1)).trans (List.Perm.cons _ pe2))
   rw[hM];exact⟨_,some _,some _,hP3,by lia,(setD D6).mono (by lia),keepD (K5.trans k6),aa,rfl⟩
  ·rintro σ H' ⟨l,o3,o4,hl,hli,hD,hk,gd,rfl⟩;have hlm:l.length=m:=by lia
   show N _ _;rw[hN];clear hN N;have h1:∀x∈l,1<=x:=by
    rcases hl.one with e|e
    ·exfalso;rw[e] at hlm;simp at hlm;lia
    ·exact e
   have fin:∀(l:List Nat) (G:Hp),G d=some (.lst (iV (nZ l)))->KB [p,dq] H G->l.length=m->(∀x∈l,1<=x/\x<=20)->Kr.ks 40 l<=2^40->aS G p dq (n+60)->∀t,G t=none->Q (.ref t) (upd G t (.tup (iV (nZ l)))):=λl G hg hK a b c e t ht=>by
    refine q (nZ l) t _ (e.kb (KB.new ht)) (hK.trans (KB.new ht)) aa (by rw[jR];exact a) ⟨by rw[jR];lia,by rw[jR];lia,λx hx=>?_⟩ (DN c)
    obtain⟨y,hy,rfl⟩:=J_.mp hx;have:=b y hy;exact⟨by lia,by lia⟩
   refine au λN hN=>?_;walk_at "rz";refine⟨p,dq,2,_,rfl,hD,by lia,by decide,by decide,λv H2 hv D2 k2=>?_⟩
   have g2:=k2 _ _ gd nd;by_cases c:(v:Int)=0
   ·exists J6 c;refine⟨p,dq,(m:Nat),_,rfl,D2,by lia,by lia,by lia,λa H3 ha D3 k3=>?_⟩
    have g3:=k3 _ _ g2 nd;have ha':a<l.length:=by lia
    have ea:bX (iV (nZ l)) (a:Int)=some (.int ((l[a]:Nat):Int)):=bt (by unfold iV nZ;rw[JA,JA,Jr ha'];rfl)
    exists ay g3,ea;refine⟨p,dq,5,_,rfl,D3,by lia,by decide,by decide,λv H4 hv D4 k4=>?_⟩
    have g4:=k4 _ _ g3 nd;obtain⟨nz,enz,hnz⟩:∃nz:Nat,(if ((l[a]:Nat):Int)+1+(v:Int)<20 then ((l[a]:Nat):Int)+1+(v:Int) else 20)=(nz:Int)/\l[a]<=nz/\nz<=20:=by
     have:=hl.le _ (JM ha');by_cases c:((l[a]:Nat):Int)+1+(v:Int)<20
     ·rw[J6 c];exact⟨l[a]+1+v,by lia,by lia,by lia⟩
     ·rw[Jx c];exact⟨20,rfl,by lia,by lia⟩
    have ei:lJ (iV (nZ l)).length (a:Int)=some a:=by rw[d4,rQ (by lia) (by lia)];simp
    exists enz,g4,ei;have es:(iV (nZ l)).set a (.int (nz:Int))=iV (nZ (l.set a nz)):=by unfold iV nZ;rw[NJ,NJ]
    rw[es];have D5:=setD (o:=.lst (iV (nZ (l.set a nz)))) D4;have K5:=keepD (o:=.lst (iV (nZ (l.set a nz)))) ((hk.trans k2).trans (k3.trans k4));have g5:upd H4 d (.lst (iV (nZ (l.set a nz)))) d=_:=aa;generalize upd H4 d (.lst (iV (nZ (l.set a nz))))=H5 at *;rw[hN];clear hN N;exists ay g5;refine fin _ H5 g5 K5 (by rw[Lh];exact hlm) (λx hx=>?_) (JC (zQ ha' hnz.1) (N9 hl.ks)) (D5.mono (by lia))
    rcases Kw hx with hx|rfl
    ·exact⟨h1 x hx,by have:=hl.le x hx;lia⟩
    ·exact⟨by have:=h1 _ (JM ha');lia,hnz.2⟩
   ·exists Jx c;rw[hN];clear hN N;exists ay g2;exact fin l H2 g2 (hk.trans k2) hlm (λx hx=>⟨h1 x hx,by have:=hl.le x hx;lia⟩) (N9 hl.ks) (D2.mono (by lia))
noncomputable def wY(H:Hp)(ca:Addr)(cd:List (List (List Nat))):Prop:=∃a0 a1 a2,H ca=some (.lst [.ref a0,.ref a1,.ref a2])/\H a0=some (.tup (wV (cd.getD 0 [])))/\H a1=some (.tup (wV (cd.getD 1 [])))/\H a2=some (.tup (wV (cd.getD 2 [])))
theorem wY.keep{ca:Addr}{cd:List (List (List Nat))}(h:wY H ca cd)(k:KB ex H H')(n:ca∉ex)(hx:∀b∈ex,∀xs,H b≠some (.tup xs)):wY H' ca cd:=by
 obtain⟨a0,a1,a2,h1,h2,h3,h4⟩:=h;exact⟨a0,a1,a2,k _ _ h1 n,k _ _ h2 λz=>hx _ z _ h2,k _ _ h3 λz=>hx _ z _ h3,k _ _ h4 λz=>hx _ z _ h4⟩
theorem wY.kb{ca:Addr}{cd:List (List (List Nat))}(h:wY H ca cd)(k:KB [] H H'):wY H' ca cd:=h.keep k (by simp) (by simp)
noncomputable def HJ(H:Hp)(v:V):Option (PV×Nat)->Prop
 |none=>v=.aG
 |some x=>∃t,v=.ref t/\H t=some (.tup [x.1.v x.2,.int (x.2:Nat)])
theorem Gj{b:Nat}(h:b<8):bX [V.str "a",.str "b",.str "c",.str "d",.str "e",.str "f",.str "g",.str "h"] (b:Int)=some (.str (dQ b)):=by
 show bX (Fv.map V.str) (b:Int)=_;exact bt (by rw[JA,(yS h).1];rfl)
noncomputable def pS(K:W.Frag):Sp:=λvs H Q _=>∃(ca:Addr) (cd:List (List (List Nat))) (z:List Nat) (p:Nat) (k:Kd),vs=[.str k.s,.ref ca,.str (wd z),.int (p:Nat)]/\wY H ca cd/\ym cd/\d8 z/\z.length<=1000000/\∀v H',KB [] H H'->HJ H' v (mj cd z p k)->Q v H'
theorem vT(T:Txt K mg)(F:HasFn K mg "part_at" iW ["kind","codes","bits","place"])(hcoded_at:aq P w K mg base aP 2 "coded_at" ["code","bits","place"] (iz K))(hnumber_at:aq P w K mg base aP 3 "number_at" ["code","bits","place"] (uq K))(hgoal_at:aq P w K mg base aP 3 "goal_at" ["bits","place"] (pV K)):aq P w K mg base aP 4 "part_at" ["kind","codes","bits","place"] (pS K):=by
 obtain⟨u1,hg_OF_CLASSES,hr_OF_CLASSES⟩:=T.ig;obtain⟨u2,hg_OF_BOXES,hr_OF_BOXES⟩:=T.kh;obtain⟨aB,hg_BOXES,sB⟩:=T.sC;have hr_BOXES:RelV (.ref aB) (.ref aB):=rfl;refine F.eX lB (λvs H Q E h=>?_) (λf cdv A outer s H vs Q E hr h=>?_)
 ·obtain⟨ca,cd,z,p,k,rfl,_⟩:=h;rfl
 ·have hu:=aK hr;obtain⟨ca,cd,z,p,k,rfl,hc,hR,hb,hz,q⟩:=h;refine⟨_,(Z.ao (Z.cJ (Z.aI bj (Z.v 0) Z.str) (Z.ax (Z.ret (Z.fc hnumber_at (Z.cons (Z.ix (Z.aA K rfl hu) (Z.v 1) (Z.glob rfl hg_OF_CLASSES hr_OF_CLASSES)) (Z.cons (Z.v 2) (Z.cons (Z.v 3) Z.nil)))))) Z.b8)
   (Z.ao (Z.cJ (Z.aI bj (Z.v 0) Z.str) (Z.ax (Z.ret (Z.fc hgoal_at (Z.cons (Z.v 2) (Z.cons (Z.v 3) Z.nil))))) Z.b8)
   (Z.ao (Z.se (i:=4) lB.nd (Z.fc hcoded_at (Z.cons (Z.ix (Z.aA K rfl hu) (Z.v 1) (Z.glob rfl hg_OF_BOXES hr_OF_BOXES)) (Z.cons (Z.v 2) (Z.cons (Z.v 3) Z.nil)))))
   (Z.ax (Z.ret (Z.Dq (Z.aI cR (Z.v 4) Z.aG) Z.aG (Z.tup (Z.cons (Z.ix (Z.gI K rfl) (Z.glob rfl hg_BOXES hr_BOXES) (Z.ix (Z.aA K rfl hu) (Z.v 4) Z.int)) (Z.cons (Z.ix (Z.aA K rfl hu) (Z.v 4) Z.int) Z.nil))))))))),?_⟩
  obtain⟨c0,c1,c2,rfl,l0,l1,l2⟩:=hR.eY.ex;have n1:=(hR.pf c1 (by simp)).ne
  have n2:=(hR.pf c2 (by simp)).ne
  obtain⟨a0,a1,a2,g,g0,g1,g2⟩:=hc;have sg:=ay g;refine au λN hN=>?_
  cases k with
  |box =>
   replace q:∀v H',KB [] H H'->HJ H' v ((kZ c2 z p).map λx=>(.box x.1,x.2))->Q v H':=q
   exists Jx (by decide +kernel:¬ Kd.s .box=Str.ofString "number")
   rw[hN];clear hN N;refine au λN hN=>?_;exists Jx (by decide +kernel:¬ Kd.s .box=Str.ofString "goal")
   rw[hN];clear hN N;refine au λN hN=>?_;exists sg;refine⟨a2,c2,z,p,rfl,bb.of g2,n2,by lia,hz,λv H1 k1 o1=>?_⟩
   rw[hN];clear hN N
   cases c:kZ c2 z p with
   |none =>
    rw[c] at q o1;obtain rfl:v=.aG:=o1;walk_at "rz";exact q _ _ k1 rfl
   |some x =>
    rw[c] at q o1;have hb:=(fz n2 c).1;obtain⟨t,rfl,ht⟩:=o1;exists Jx (show ¬ V.ref t=V.aG from V.noConfusion),aH ht;refine⟨aB,_,_,_,rfl,rfl,sB H1,Gj (show x.1<8 by lia),?_⟩
    exists aH ht;exact⟨by decide,λb2 hb2=>q _ _ (k1.trans (KB.new hb2)) ⟨b2,rfl,aa⟩⟩
  |num =>
   replace q:∀v H',KB [] H H'->HJ H' v ((zD c1 z p).map λx=>(.num x.1,x.2))->Q v H':=q
   exists J6 (show Kd.s .num=Str.ofString "number" from rfl),sg;refine⟨a1,c1,z,p,rfl,bb.of g1,n1,by lia,hb,hz,λv H1 k1 o1=>q v H1 k1 ?_⟩
   cases c:zD c1 z p with
   |none=>rw[c] at o1;exact o1
   |some x=>rw[c] at o1;exact o1
  |go =>
   replace q:∀v H',KB [] H H'->HJ H' v ((gA z p).map λx=>(.go x.1,x.2))->Q v H':=q
   exists Jx (by decide +kernel:¬ Kd.s .go=Str.ofString "number")
   rw[hN];clear hN N;refine au λN hN=>?_;exists J6 (show Kd.s .go=Str.ofString "goal" from rfl);refine⟨z,p,rfl,hb,hz,λv H1 k1 o1=>q v H1 k1 ?_⟩
   cases c:gA z p with
   |none=>rw[c] at o1;exact o1
   |some x=>rw[c] at o1;exact o1
noncomputable def IE(H:Hp)(v:V):Option (RW×Nat)->Prop
 |none=>v=.aG
 |some x=>∃t r,v=.ref t/\H t=some (.tup [.ref r,.int (x.2:Nat)])/\H r=some (.tup x.1.v)
noncomputable def uy(K:W.Frag):Sp:=λvs H Q _=>∃(ca:Addr) (cd:List (List (List Nat))) (z:List Nat) (p:Int),vs=[.ref ca,.str (wd z),.int p]/\wY H ca cd/\ym cd/\d8 z/\z.length<=1000000/\∀v H',KB [] H H'->IE H' v (HH cd z p)->Q v H'
noncomputable def bJ:=bG
theorem yb(T:Txt K mg)(F:HasFn K mg "row_at" kK ["codes","bits","place"])(hcoded_at:aq P w K mg base aP 2 "coded_at" ["code","bits","place"] (iz K))(hpart_at:aq P w K mg base aP 4 "part_at" ["kind","codes","bits","place"] (pS K)):aq P w K mg base aP 5 "row_at" ["codes","bits","place"] (uy K):=by
 obtain⟨u1,hg_OF_WORDS,hr_OF_WORDS⟩:=T.jE;obtain⟨dS,hg_SHAPES,hd0⟩:=T.lP;have hd_SHAPES:jL K dS bJ:=hd0;have hr_SHAPES:RelV (.ref dS) (.ref dS):=rfl;clear hd0;refine F.eX cw (λvs H Q E h=>?_) (λf cdv A outer s H vs Q E hr h=>?_)
 ·obtain⟨ca,cd,z,p,rfl,_⟩:=h;rfl
 ·have hu:=aK hr;obtain⟨ca,cd,z,p,rfl,hc,hR,hb,hz,q⟩:=h;refine⟨_,(Z.ao (Z.cJ (Z.aI e8 (Z.v 2) Z.int) (Z.ax (Z.ret Z.aG)) Z.b8)
   (Z.ao (Z.se (i:=3) cw.nd (Z.fc hcoded_at (Z.cons (Z.ix (Z.aA K rfl hu) (Z.v 0) (Z.glob rfl hg_OF_WORDS hr_OF_WORDS)) (Z.cons (Z.v 1) (Z.cons (Z.v 2) Z.nil)))))
   (Z.ao (Z.cJ (Z.aI cR (Z.v 3) Z.aG) (Z.ax (Z.ret Z.aG)) Z.b8)
   (Z.ao (Z.se (i:=4) cw.nd (Z.ix (Z.aA K rfl hu) (Z.ct (lC (D:=bJ) K rfl rfl) rfl T.wR (by decide +kernel) (Z.cons (Z.glob rfl hg_SHAPES hr_SHAPES) Z.nil)) (Z.ix (Z.aA K rfl hu) (Z.v 3) Z.int)))
   (Z.ao (Z.se (i:=5) cw.nd (Z.lst (Z.cons (Z.v 4) Z.nil)))
   (Z.ao (Z.se (i:=6) cw.nd (Z.ix (Z.aA K rfl hu) (Z.v 3) Z.int))
   (Z.ao (Z.iy Ke rfl (Z.seq K rfl (Z.Ib K rfl rfl hg_SHAPES hd_SHAPES (Z.v 4))) (Z.aY (i:=7) cw.nd rfl (by right)) (Z.ao (Z.se (i:=8) cw.nd (Z.fc hpart_at (Z.cons (Z.v 7) (Z.cons (Z.v 0) (Z.cons (Z.v 1) (Z.cons (Z.v 6) Z.nil))))))
   (Z.ao (Z.cJ (Z.aI cR (Z.v 8) Z.aG) (Z.ax (Z.ret Z.aG)) Z.b8)
   (Z.ao (Z.expr (Z.app K (Z.v 5) (Z.cons (Z.ix (Z.aA K rfl hu) (Z.v 8) Z.int) Z.nil)))
   (Z.ax (Z.se (i:=6) cw.nd (Z.ix (Z.aA K rfl hu) (Z.v 8) Z.int)))))))
   (Z.ax (Z.ret (Z.tup (Z.cons (Z.ct (Z.dh K rfl) rfl T.dj (by decide +kernel) (Z.cons (Z.v 5) Z.nil)) (Z.cons (Z.v 6) Z.nil)))))))))))),?_⟩
  refine au λN hN=>?_;by_cases hp:p<0
  ·unfold HH at q;rw[J6 hp] at q;exists J6 hp;exact q _ _ (KB.refl _ _) rfl
  obtain⟨p,rfl⟩:∃p':Nat,p=(p':Int):=⟨p.toNat,by lia⟩
  rw[tM] at q;exists Jx hp;rw[hN];clear hN N;refine au λN hN=>?_;obtain⟨c0,c1,c2,rfl,l0,l1,l2⟩:=hR.eY.ex;have n0:=(hR.pf c0 (by simp)).ne
  have hc':=hc;obtain⟨a0,a1,a2,g,g0,g1,g2⟩:=hc';exists ay g;refine⟨a0,c0,z,p,rfl,bb.of g0,n0,by lia,hz,λv H1 k1 o1=>?_⟩
  rw[hN];clear hN N;refine au λN hN=>?_;unfold Cu at q
  replace q:∀v H',KB [] H H'->IE H' v ((kZ c0 z p).bind λx=>(qA [c0,c1,c2] z (B2 x.1) x.2).map λy=>(⟨x.1,y.1⟩,y.2))->Q v H':=q
  cases c:kZ c0 z p with
  |none =>
   rw[c] at q o1;obtain rfl:v=.aG:=o1;walk_at "rz";exact q _ _ k1 rfl
  |some x =>
   rw[c] at q o1;obtain⟨wi,e⟩:=x;have h9:wi<9:=by have:=(fz n0 c).1;dsimp only at this;lia
   replace q:∀v H',KB [] H H'->IE H' v ((qA [c0,c1,c2] z (B2 wi) e).map λy=>(⟨wi,y.1⟩,y.2))->Q v H':=q
   obtain⟨t,rfl,ht⟩:=o1;dsimp only at ht;exists if_neg (show ¬ V.ref t=V.aG from V.noConfusion);rw[hN];clear hN N;refine au λN hN=>?_;have ak:bX (bJ.map λp=>V.str p.1) (wi:Int)=some (.str (cg.getD wi (Str.ofString ""))):=bt (by
    show (cg.map V.str)[wi]?=_;rw[JA,JF,Jr (show wi<cg.length from h9)];rfl)
   walk_at "rz";refine⟨dS,rfl,hd_SHAPES,by decide,λl hl=>?_⟩
   have k2:KB [] H1 (upd H1 l (.lst (bJ.map λp=>V.str p.1))):=KB.new hl;have s2:upd H1 l (.lst (bJ.map λp=>V.str p.1)) l=some (.lst (bJ.map λp=>V.str p.1)):=aa;generalize upd H1 l (.lst (bJ.map λp=>V.str p.1))=H2 at *;have ht2:=k2 _ _ ht (by simp)
   exists aH ht2,ay s2,ak;have h02:KB [] H H2:=k1.trans k2;clear k1 k2 s2 hl ht ak;rw[hN];clear hN N;have hlen:(B2 wi).length<=2:=by
    have:wi=0\/wi=1\/wi=2\/wi=3\/wi=4\/wi=5\/wi=6\/wi=7\/wi=8:=by lia
    rcases this with rfl|rfl|rfl|rfl|rfl|rfl|rfl|rfl|rfl<;>decide
   have e1:=BJ h9;generalize hps:B2 wi=ks0 at *;generalize hw9:cg.getD wi (Str.ofString "")=W at *;refine au λN hN=>?_;walk_at "rz";refine⟨by decide,λrl hrl=>?_⟩
   have k3:KB [] H2 (upd H2 rl (.lst [.str W])):=KB.new hrl;have s3:upd H2 rl (.lst [.str W]) rl=some (.lst [.str W]):=aa;generalize upd H2 rl (.lst [.str W])=H3 at *;have hrl0:H rl=none:=h02.free (by simp) hrl
   have h03:KB [] H H3:=h02.trans k3;have ht3:=k3 _ _ ht2 (by simp)
   rw[hN];clear hN N;refine au λN hN=>?_;exists aH ht3;rw[hN];clear hN N;refine au λN hN=>?_;walk_at "rz";refine⟨W,_,rfl,e1,λpk kt=>?_⟩;have st:∀H,bb K H pk ((ks0.map Kd.s).map V.str):=λH=>.inr kt;refine .inr ⟨⟨_,st H3⟩,?_⟩;have kL:∀{H4 H5:Hp},KB [rl] H4 H5->KB [rl] H H4->KB [] H H5:=λa b c o e _=>a _ _ (b _ _ e (by simpa using af e hrl0)) (by simpa using af e hrl0)
   refine zp (xs:=(ks0.map Kd.s).map V.str) (λi σ H'=>∃(acc:List (PV×Nat)) (a:Nat) (o7 o8:Option V),i<=ks0.length/\(qA [c0,c1,c2] z ks0 e=(qA [c0,c1,c2] z (ks0.drop i) a).map λy=>(acc++y.1,y.2))/\acc.length=i/\H' rl=some (.lst (.str W::acc.map λx=>x.1.v x.2))/\KB [] H H'/\σ=[some (.ref ca),some (.str (wd z)),some (.int (p:Nat)),some (.ref t),some (.str W),some (.ref rl),some (.int (a:Nat)),o7,o8]) ⟨[],e,none,none,JL _,by rw[KA];cases qA [c0,c1,c2] z ks0 e<;>rfl,rfl,s3,h03,rfl⟩ (λi σ H' _ _=>st H') ?_ ?_
   ·rintro i x σ H' hx ⟨acc,a,o7,o8,hi,ep,hacc,hrl',h0',rfl⟩;have hi2:i<ks0.length:=by have:=(Jv.mp hx).1;rw[Jt,Jt] at this;exact this
    obtain rfl:x=.str (ks0[i]).s:=by
     rw[JA,JA,Jr hi2] at hx;exact (Option.some.inj hx).symm
    rw[KI hi2,qA] at ep;generalize ks0[i]=k at *;unfold aZ;refine au λM hM=>?_;walk_at "rz";refine⟨ca,[c0,c1,c2],z,a,k,rfl,hc.kb h0',hR,hb,hz,λv H5 k5 o5=>?_⟩;rw[hM];clear hM M;have h05:=h0'.trans k5
    cases c3:mj [c0,c1,c2] z a k with
    |none =>
     rw[c3] at ep o5;obtain rfl:v=.aG:=o5;have ep':qA [c0,c1,c2] z ks0 e=none:=ep;rw[ep'] at q;refine au λM hM=>?_;walk_at "rz";exact q _ _ h05 rfl
    |some x =>
     rw[c3] at ep o5;obtain⟨t5,rfl,ht5⟩:=o5;refine au λM hM=>?_;exists Jx (show ¬ V.ref t5=V.aG from V.noConfusion);rw[hM];clear hM M;refine au λM hM=>?_;exists aH ht5;have hr5:=k5 _ _ hrl' (by simp)
     refine⟨.inl ⟨rfl,_,bB.of hr5⟩,rl,_,_,rfl,rfl,hr5,JQ (show _<4 by rw[JD,Jt];lia) (by decide),?_⟩
     rw[hM];clear hM M;have nt:t5≠rl:=λz=>by rw[z,hr5] at ht5;cases ht5
     have e6:(V.str W::acc.map λx=>x.1.v x.2)++[x.1.v x.2]=.str W::(acc++[x]).map λx=>x.1.v x.2:=by rw[JN];rfl
     rw[e6];have s6:upd H5 rl (.lst (.str W::(acc++[x]).map λx=>x.1.v x.2)) rl=_:=aa;have ht6:=(ar (o:=HO.lst (.str W::(acc++[x]).map λx=>x.1.v x.2)) (H:=H5) nt).trans ht5;have h06:KB [] H (upd H5 rl (.lst (.str W::(acc++[x]).map λx=>x.1.v x.2))):=λc o e _=>by rw[ar (af e hrl0)];exact h05 _ _ e (by simp)
     generalize upd H5 rl (.lst (.str W::(acc++[x]).map λx=>x.1.v x.2))=H6 at *;dsimp only;refine qC λM hM=>?_;exists aH ht6;rw[hM];refine⟨acc++[x],x.2,some _,some _,hi2,?_,by rw[List.length_append,hacc];rfl,s6,h06,rfl⟩
     rw[ep,Le]
     cases qA [c0,c1,c2] z (ks0.drop (i+1)) x.2 with
     |none=>rfl
     |some y=>show some (acc++(x::y.1),y.2)=some ((acc++[x])++y.1,y.2);rw[JT];rfl
   ·rintro σ H' ⟨acc,a,o7,o8,_,ep,_,hrl',h0',rfl⟩;rw[Jt,Jt,Mh] at ep;have ep':qA [c0,c1,c2] z ks0 e=some (acc,a):=by rw[ep];show some (acc++[],a)=_;rw[Kq]
    rw[ep'] at q;show N _ _;rw[hN];clear hN N;exists ay hrl';intro rt hrt;have k7:KB [] H' (upd H' rt (.tup (.str W::acc.map λx=>x.1.v x.2))):=KB.new hrt;have s7:upd H' rt (.tup (.str W::acc.map λx=>x.1.v x.2)) rt=_:=aa;generalize upd H' rt (.tup (.str W::acc.map λx=>x.1.v x.2))=H7 at *;refine⟨by decide,λtt htt=>q _ _ ((h0'.trans k7).trans (KB.new htt)) ⟨tt,rt,rfl,aa,?_⟩⟩
    rw[ar (af s7 htt),s7];show some (HO.tup (V.str W::_))=some (.tup (RW.v ⟨wi,acc⟩));unfold RW.v;rw[hw9]
noncomputable def NT(ex:List Addr)(H:Hp):Prop:=∀b∈ex,∀xs,H b≠some (.tup xs)
theorem NT.nil(H:Hp):NT [] H:=λb hb=>nomatch hb
theorem aS.nt{p:Addr}{n:Nat}(h:aS H p dq n):NT [p,dq] H:=λb hb xs e=>by
 obtain⟨ys,e'⟩:=h.lst b hb;rw[e] at e';cases e'
noncomputable def uQ(H:Hp)(b:Addr)(bk:List (List Int)):Prop:=∃as:List Addr,H b=some (.tup (as.map V.ref))/\as.length=bk.length/\∀(i:Nat) (a:Addr),as[i]?=some a->H a=some (.tup (iV (bk.getD i [])))
theorem uQ.keep{bk:List (List Int)}(h:uQ H b bk)(k:KB ex H H')(hx:NT ex H):uQ H' b bk:=by
 obtain⟨as,h1,h2,h3⟩:=h;exact⟨as,k _ _ h1 λz=>hx _ z _ h1,h2,λi a e=>k _ _ (h3 i a e) λz=>hx _ z _ (h3 i a e)⟩
theorem uQ.kb{bk:List (List Int)}(h:uQ H b bk)(k:KB [] H H'):uQ H' b bk:=h.keep k (NT.nil _)
theorem vy{l:List α}(h:l.length=3):∃a b c,l=[a,b,c]:=by
 rcases l with _|⟨a,_|⟨b,_|⟨c,_|⟨d,l⟩⟩⟩⟩<;>first|exact⟨_,_,_,rfl⟩ | (exfalso;revert h;simp)
noncomputable def n8(K:W.Frag):Sp:=λvs H Q _=>∃(b:Addr) (bk:List (List Int)),vs=[.ref b]/\uQ H b bk/\Bk bk/\∀ca H',H ca=none->KB [] H H'->wY H' ca (gw bk)->Q (.ref ca) H'
theorem za(T:Txt K mg)(F:HasFn K mg "codes_of" fk ["book"])(hcode_of:aq P w K mg base aP 4 "code_of" ["lengths"] (x6 K)):aq P w K mg base aP 6 "codes_of" ["book"] (n8 K):=by
 refine F.eX qg (λvs H Q E h=>?_) (λf cdv A outer s H vs Q E hr h=>?_)
 ·obtain⟨b,bk,rfl,_⟩:=h;rfl
 ·have hu:=aK hr;obtain⟨b,bk,rfl,hb,hB,q⟩:=h;obtain⟨as,hb1,hb2,hb3⟩:=hb;obtain⟨l0,l1,l2,rfl,_,_,_,hl⟩:=hB;refine⟨_,(Z.ax (Z.ret (Z.C4 (osc:=ae fk) (ON:=["book"]) (own:=["lengths"]) (N:=["lengths","book"]) (aF.of rfl (by decide +kernel)) (Z.any K rfl (Z.v 0)) (λnd _ _ _ _=>(Z.aY (i:=0) nd rfl (by right))) (λ_ _ _ _=>Z.wj) (λ_ _ _ _=>(Z.fc hcode_of (Z.cons (Z.v 0) Z.nil)))))),?_⟩
  exists aH hb1;refine dw (xs:=as.map V.ref) (JC (show _<=3 by rw[Jt,hb2];exact J7 3) (by decide)) (λD i ys H'=>H D=none/\H' D=some (.lst ys)/\KB [] H H'/\∃cs:List Addr,ys=cs.map V.ref/\cs.length=i/\∀(j:Nat) (c:Addr),cs[j]?=some c->H' c=some (.tup (wV (wordsOf Cw.fS (List.getD [l0,l1,l2] j []))))) (λD hD=>⟨hD,aa,KB.new hD,[],rfl,rfl,λj c e=>nomatch e⟩) (λD i ys H' h=>⟨h.2.1,by obtain⟨_,_,_,cs,rfl,e,_⟩:=h;rw[Jt,e]⟩) (λD i ys H' h=>bb.of (h.2.2.1 _ _ hb1 (by simp))) ?_ ?_
  ·rintro D i ys H' x R hx ⟨g0,g1,g2,cs,rfl,g4,g5⟩ kk;obtain⟨a,ea,rfl⟩:∃a,as[i]?=some a/\x=.ref a:=by
    rw[JA] at hx;obtain⟨a,e,rfl⟩:=JR.mp hx;exact⟨a,e,rfl⟩
   have hi:i<3:=by have:=(Jv.mp ea).1;rw[hb2] at this;exact this
   have hm:List.getD [l0,l1,l2] i []∈[l0,l1,l2]:=by
    rcases lY hi with rfl|rfl|rfl<;>simp
   walk_at "rz";refine⟨a,_,rfl,g2 _ _ (hb3 i a ea) (by simp),(hl _ hm).1,(hl _ hm).2,λc H5 k5 e5=>?_⟩
   have gD:=k5 _ _ g1 (by simp)
   have cD:c≠D:=λz=>by rw[z,gD] at e5;cases e5
   refine kk _ _ gD ⟨g0,aa,λu o e _=>by rw[ar (af e g0)];exact k5 _ _ (g2 _ _ e (by simp)) (by simp),cs++[c],by rw[JN];rfl,by rw[Ju,g4];rfl,λj d e=>?_⟩
   rcases K8 j cs.length with hj|hj
   ·rw[JU hj] at e;have e6:=k5 _ _ (g5 j d e) (by simp)
    rw[ar (λz=>by rw[z,gD] at e6;cases e6)];exact e6
   ·rw[JO hj] at e;obtain⟨hj2,rfl⟩:=Jv.mp e;have:j=i:=by simp at hj2;lia
    subst this;rw[ar (show _≠D by simpa using cD)]
    simpa using e5
  ·rintro D ys H' ⟨g0,g1,g2,cs,rfl,g4,g5⟩;rw[Jt,hb2] at g4;obtain⟨c0,c1,c2,rfl⟩:=vy g4;exact q D H' g0 g2 ⟨c0,c1,c2,g1,g5 0 c0 rfl,g5 1 c1 rfl,g5 2 c2 rfl⟩
noncomputable def xJ(K:W.Frag):Sp:=λvs H Q _=>∃(p dq:Addr) (n:Nat),vs=[.ref p]/\aS H p dq n/\n<2^38/\∀(bk:List (List Int)) (b:Addr) H',aS H' p dq (n+200)->KB [p,dq] H H'->uQ H' b bk->Bk bk->Q (.ref b) H'
theorem BM(T:Txt K mg)(F:HasFn K mg "_law_book" d_ ["deck"])(h_law_draw:aq P w K mg base aP 2 "_law_draw" ["deck","most"] eE)(h_law_lengths:aq P w K mg base aP 3 "_law_lengths" ["deck","many"] (rV K)):aq P w K mg base aP 4 "_law_book" ["deck"] (xJ K):=by
 refine F.eX nH (λvs H Q E h=>?_) (λf cdv A outer s H vs Q E hr h=>?_)
 ·obtain⟨p,dq,n,rfl,_⟩:=h;rfl
 ·have hu:=aK hr;obtain⟨p,dq,n,rfl,hd,hn,q⟩:=h;refine⟨_,(Z.ao (Z.cJ (Z.aI bj (Z.fc h_law_draw (Z.cons (Z.v 0) (Z.cons Z.int Z.nil))) Z.int) (Z.ax (Z.ret (Z.tup (Z.cons (Z.op (Y.nG K rfl) (Z.tup (Z.cons Z.int Z.nil)) Z.int) (Z.cons (Z.op (Y.nG K rfl) (Z.tup (Z.cons Z.int Z.nil)) Z.int) (Z.cons (Z.op (Y.nG K rfl) (Z.tup (Z.cons Z.int Z.nil)) Z.int) Z.nil)))))) Z.b8)
   (Z.ax (Z.ret (Z.ct (Z.dh K rfl) rfl T.dj (by decide +kernel) (Z.cons (Z.C4 (osc:=ae d_) (ON:=["deck"]) (own:=["many"]) (N:=["many","deck"]) (aF.of rfl (by decide +kernel)) (Z.any K rfl (Z.tup (Z.consts rfl))) (λnd _ _ _ _=>(Z.aY (i:=0) nd rfl (by right))) (λ_ _ _ _=>Z.wj) (λ_ _ _ _=>(Z.fc h_law_lengths (Z.cons (Z.v 1) (Z.cons (Z.v 0) Z.nil))))) Z.nil))))),?_⟩
  refine au λN hN=>?_;walk_at "rz";refine⟨p,dq,4,_,rfl,hd,by lia,by decide,by decide,λv H1 hv D1 k1=>?_⟩
  by_cases c:(v:Int)=0
  ·exists J6 c;have rep:∀(G:Hp) (j k:Int) (Q:VK),1<k->k<=20->(∀t u G',KB [] G G'->G t=none->u≠t->G' u=some (.tup (iV (List.replicate k.toNat j)))->Q (.ref u) G')->(0+1<=sizeLine/\∀t,G t=none->Y.C8 K (.ref t) (.int k) (upd G t (.tup [.int j])) Q):=λG j k Q h1 h2 q=>by
    refine⟨by decide,λt ht=>.inr ⟨t,k,_,rfl,rfl,bb.of aa,by simp,(show 1<=1000 by decide),h1,by lia,λu hu=>?_⟩⟩
    have e:(List.replicate k.toNat [V.int j]).flatten=iV (List.replicate k.toNat j):=by
     unfold iV;rw[List.map_replicate];generalize k.toNat=m
     induction m with
     |zero=>rfl
     |succ m ih=>rw[Ki,LQ,ih];rfl
    rw[e];have ut:u≠t:=λz=>by rw[z,aa] at hu;cases hu
    exact q t u _ ((KB.new ht).trans (KB.new hu)) ht ut aa
   refine rep H1 4 9 _ (by decide) (by decide) λt1 u1 G1 g1 _ _ e1=>?_
   refine rep G1 5 17 _ (by decide) (by decide) λt2 u2 G2 g2 _ _ e2=>?_
   refine rep G2 3 8 _ (by decide) (by decide) λt3 u3 G3 g3 _ _ e3=>⟨by decide,λb hb=>?_⟩
   have kk:KB [] H1 (upd G3 b (.tup [.ref u1,.ref u2,.ref u3])):=((g1.trans g2).trans g3).trans (KB.new hb);have up:∀{x:Addr} {o:HO},G3 x=some o->upd G3 b (.tup [.ref u1,.ref u2,.ref u3]) x=some o:=λe=>by rw[ar (af e hb)];exact e
   refine q [List.replicate 9 4,List.replicate 17 5,List.replicate 8 3] b _ ((D1.kb kk).mono (by lia)) (k1.trans kk.all) ⟨[u1,u2,u3],aa,rfl,λi a e=>?_⟩ ⟨_,_,_,rfl,rfl,rfl,rfl,λl hl=>?_⟩
   ·have hi:i<3:=(Jv.mp e).1;rcases lY hi with rfl|rfl|rfl
    ·cases e;exact up (g3 _ _ (g2 _ _ e1 (by simp)) (by simp))
    ·cases e;exact up (g3 _ _ e2 (by simp))
    ·cases e;exact up e3
   have rr:∀(n:Nat) (k:Int),0<n->n<=20->1<=k->k<=20->lW (List.replicate n k):=λn k a b c d=>⟨by rw[JJ];exact a,by rw[JJ];exact b,λx hx=>by rw[(K1.mp hx).2];lia⟩
   rcases J5.mp hl with rfl|hl
   ·exact⟨rr 9 4 (by decide) (by decide) (by decide) (by decide),by decide +kernel⟩
   ·rcases J5.mp hl with rfl|hl
    ·exact⟨rr 17 5 (by decide) (by decide) (by decide) (by decide),by decide +kernel⟩
    ·rw[JG.mp hl];exact⟨rr 8 3 (by decide) (by decide) (by decide) (by decide),by decide +kernel⟩
  ·exists Jx c;rw[hN];clear hN N;walk_at "rz";refine⟨by decide,λt ht=>?_⟩
   have k2:KB [] H1 (upd H1 t (.tup [.int 9,.int 17,.int 8])):=KB.new ht;have s2:upd H1 t (.tup [.int 9,.int 17,.int 8]) t=some (.tup (iV [9,17,8])):=aa;generalize upd H1 t (.tup [.int 9,.int 17,.int 8])=H2 at *;have D2:=D1.kb k2;refine dw (xs:=iV [9,17,8]) (by decide) (λD i ys H'=>H2 D=none/\H' D=some (.lst ys)/\aS H' p dq (n+1+60*i)/\KB [p,dq] H2 H'/\∃(as:List Addr) (done:List (List Int)),ys=as.map V.ref/\as.length=i/\done.map List.length=[9,17,8].take i/\(∀l∈done,lW l/\pT l=true)/\∀(j:Nat) (a:Addr),as[j]?=some a->H' a=some (.tup (iV (done.getD j [])))) (λD hD=>⟨hD,aa,D2.kb (KB.new hD),KB.new hD,[],[],rfl,rfl,rfl,(λl h=>nomatch h),λj a e=>nomatch e⟩) (λD i ys H' h=>⟨h.2.1,by obtain⟨_,_,_,_,as,_,rfl,e,_⟩:=h;rw[Jt,e]⟩) (λD i ys H' h=>bb.of (h.2.2.2.1 _ _ s2 λz=>D2.nt _ z _ s2)) ?_ ?_
   ·rintro D i ys H' x R hx ⟨g0,g1,gd,gk,as,done,rfl,ga,gl,gok,gat⟩ kk;obtain⟨hi,rfl⟩:=rS hx;have nD:=D2.new g0;have dl:done.length=i:=by
     have:=Kk List.length gl;rw[Jt,JK] at this;have h3:([9,17,8]:List Nat).length=3:=rfl;have hi3:i<3:=hi;lia
    have key:∀m:Nat,2<=m->m<=17->([9,17,8]:List Nat).take (i+1)=([9,17,8]:List Nat).take i++[m]->rV K [.ref p,.int (m:Nat)] H' R E0:=λm m2 m17 em=>by
     refine⟨p,dq,m,_,rfl,gd,by have:i<3:=hi;lia,m2,m17,λls a H5 D5 k5 e5 l1 l2 l3=>?_⟩
     have gD:=k5 _ _ g1 nD;have aD:a≠D:=λz=>by rw[z,gD] at e5;cases e5
     have pD:p≠D:=λz=>nD (by simp[z])
     have qD:dq≠D:=λz=>nD (by simp[z])
     refine kk _ _ gD ⟨g0,aa,(D5.keep (KB.set (ex:=[D]) (by simp)) (by simpa using pD) (by simpa using qD)).mono (by lia),λu o e z=>by rw[ar (af e g0)];exact k5 _ _ (gk _ _ e z) z,as++[a],done++[ls],by rw[JN];rfl,by rw[Ju,ga];rfl,by rw[JN,gl,em];rw[JY,l1];rfl,λl hl=>?_,λj b e=>?_⟩
     ·rcases Kj.mp hl with hl|hl
      ·exact gok l hl
      ·rw[JG.mp hl];exact⟨l2,l3⟩
     ·rcases K8 j as.length with hj|hj
      ·rw[JU hj] at e;have e6:=gd.tup k5 (gat j b e);rw[ar (λz=>by rw[z,gD] at e6;cases e6),e6,JF,JF,JU (by lia)]
      ·rw[JO hj] at e;obtain⟨hj2,rfl⟩:=Jv.mp e;have hj3:j=as.length:=by simp at hj2;lia
       subst hj3;simp only[Lb,LP];rw[ar aD,e5,JF,JO (by lia),show as.length-done.length=0 by lia]
       rfl
    walk_at "rz";rcases lY (show i<3 from hi) with rfl|rfl|rfl
    ·exact key 9 (by decide) (by decide) rfl
    ·exact key 17 (by decide) (by decide) rfl
    ·exact key 8 (by decide) (by decide) rfl
   ·rintro D ys H' ⟨g0,g1,gd,gk,as,done,rfl,ga,gl,gok,gat⟩;exists ay g1;intro b hb;have gl':done.map List.length=[9,17,8]:=gl;have h3:done.length=3:=by have:=Kk List.length gl';rw[Jt] at this;exact this
    obtain⟨x,y,z,rfl⟩:=vy h3;simp only[JY,LS,List.cons.injEq] at gl';refine q [x,y,z] b _ ((gd.kb (KB.new hb)).mono (by show n+1+60*3<=_;lia)) (k1.trans (k2.all.trans (gk.trans (KB.new hb)))) ⟨as,aa,by rw[ga];rfl,λj a e=>?_⟩ ⟨x,y,z,rfl,gl'.1,gl'.2.1,gl'.2.2.1,gok⟩
    have:=gat j a e;rw[ar (af this hb)];exact this
noncomputable def o_:Sp:=λvs H Q _=>∃(p dq:Addr) (n:Nat),vs=[.ref p]/\aS H p dq n/\n<2^40/\∀(v:Nat) H',aS H' p dq (n+2)->KB [p,dq] H H'->v<65536->Q (.int (v:Nat)) H'
theorem vK(T:Txt K mg)(F:HasFn K mg "_law_number" eB ["deck"])(h_law_draw:aq P w K mg base aP 2 "_law_draw" ["deck","most"] eE):aq P w K mg base aP 3 "_law_number" ["deck"] o_:=by
 refine F.eX dN (λvs H Q E h=>?_) (λf cdv A outer s H vs Q E hr h=>?_)
 ·obtain⟨p,dq,n,rfl,_⟩:=h;rfl
 ·have hu:=aK hr;obtain⟨p,dq,n,rfl,hd,hn,q⟩:=h;refine⟨_,(Z.ao (Z.se (i:=1) dN.nd (Z.fc h_law_draw (Z.cons (Z.v 0) (Z.cons Z.int Z.nil))))
   (Z.ao (Z.cJ (Z.aI bj (Z.v 1) Z.int) (Z.ax (Z.ret Z.int)) Z.b8)
   (Z.ao (Z.se (i:=2) dN.nd (Z.op EV Z.int (Z.op cO (Z.v 1) Z.int)))
   (Z.ax (Z.ret (Z.op (Z.aC K rfl) (Z.v 2) (Z.fc h_law_draw (Z.cons (Z.v 0) (Z.cons (Z.v 2) Z.nil))))))))),?_⟩
  refine au λN hN=>?_;walk_at "rz";refine⟨p,dq,17,n,rfl,hd,by lia,by decide,by decide,λz H1 hz D1 k1=>?_⟩
  rw[hN];clear hN N;refine au λN hN=>?_;by_cases a0:(z:Int)=0
  ·exists J6 a0;exact q 0 H1 (D1.mono (by lia)) k1 (by decide)
  ·exists Jx a0;rw[hN];clear hN N;refine au λN hN=>?_;walk_at "rz";refine⟨⟨by lia,by lia,by decide⟩,?_⟩
   rw[hN];clear hN N;obtain⟨j,ej,hj⟩:∃j:Nat,((z:Int)-1).toNat=j/\j<=15:=⟨_,rfl,by lia⟩
   rw[ej,Int.one_mul];have p1:(0:Int)<2^j:=Ob (by decide)
   have p2:(2:Int)^j<=2^15:=by
    have:2^j<=2^15:=Lk (by decide) hj
    exact_mod_cast this
   generalize (2:Int)^j=t at p1 p2;walk_at "rz";refine⟨p,dq,t,n+1,rfl,D1,by lia,p1,by lia,λv H2 hv D2 k2=>?_⟩
   walk_at "rz";obtain⟨k,ek⟩:∃k:Nat,t+(v:Int)=k:=⟨(t+(v:Int)).toNat,by lia⟩
   rw[ek];exact q k H2 D2 (k1.trans k2) (by lia)
theorem two8{c:Nat}(h1:(c:Int)<2):∃m:Int,bX [V.int 2,.int 8] (c:Int)=some (.int m)/\0<m/\m<=8:=by
 have:c=0\/c=1:=by lia
 rcases this with rfl|rfl
 ·exact⟨2,rfl,by decide,by decide⟩
 ·exact⟨8,rfl,by decide,by decide⟩
theorem oP{p:Addr}{n:Nat}(D:aS H p dq n)(hn:n<2^49)(q:∀b H',b<8->aS H' p dq (n+2)->KB [p,dq] H H'->Q (.str (dQ b)) H'):
  0+1+1<=sizeLine/\∀m,H m=none->eE [.ref p,.int 2] (upd H m (.lst [.int 2,.int 8])) (λy H2=>Ak K (.ref m) y H2 λx H1=>eE [.ref p,x] H1 (λy H2=>Ak K (.str (Str.ofString "abcdefgh")) y H2 Q) E0) E0:=by
 refine⟨by decide,λm hm=>⟨p,dq,2,n,rfl,D.kb (KB.new hm),by lia,by decide,by decide,λd H2 hd D2 k2=>?_⟩⟩
 have s2:=ay (k2 m _ aa (D.new hm));have kk:KB [p,dq] H H2:=(KB.new hm).trans k2;obtain⟨x,ha,x0,x8⟩:=two8 hd;exists s2,ha;refine⟨p,dq,x,n+1,rfl,D2,by lia,x0,by lia,λy H3 hy D3 k3=>?_⟩
 have hb:=EO (show 0<=(y:Int) by lia) (show (y:Int)<8 by lia)
 exists hb;exact⟨by decide +kernel,q y H3 (by lia) D3 (kk.trans k3)⟩
noncomputable def sR(K:W.Frag):Sp:=λvs H Q _=>∃(p dq:Addr) (many n:Nat),vs=[.ref p,.int (many:Nat)]/\aS H p dq n/\n<2^38/\many<1000/\∀(r:Row) (a:Addr) H',r.Ok many->H' a=some (.tup r.vs)->aS H' p dq (n+5)->KB [p,dq] H H'->Q (.ref a) H'
theorem Es(T:Txt K mg)(F:HasFn K mg "_law_row" gT ["deck","goals"])(h_law_draw:aq P w K mg base aP 2 "_law_draw" ["deck","most"] eE)(h_law_number:aq P w K mg base aP 3 "_law_number" ["deck"] o_):aq P w K mg base aP 4 "_law_row" ["deck","goals"] (sR K):=by
 refine F.eX dU (λvs H Q E h=>?_) (λf cdv A outer s H vs Q E hr h=>?_)
 ·obtain⟨p,dq,many,n,rfl,_⟩:=h;rfl
 ·have hu:=aK hr;obtain⟨p,dq,many,n,rfl,hd,hn,hmy,q⟩:=h;refine⟨_,(Z.ao (Z.se (i:=2) dU.nd (Z.lst (Z.consts rfl)))
   (Z.ao (Z.se (i:=3) dU.nd (Z.ix (Z.aA K rfl hu) (Z.v 2) (Z.fc h_law_draw (Z.cons (Z.v 0) (Z.cons Z.int Z.nil)))))
   (Z.ao (Z.se (i:=4) dU.nd (Z.ix (Z.aA K rfl hu) Z.str (Z.fc h_law_draw (Z.cons (Z.v 0) (Z.cons (Z.ix (Z.aA K rfl hu) (Z.lst (Z.consts rfl)) (Z.fc h_law_draw (Z.cons (Z.v 0) (Z.cons Z.int Z.nil)))) Z.nil)))))
   (Z.ao (Z.cJ (Z.aI bj (Z.v 3) Z.str) (Z.ax (Z.ret (Z.tup (Z.cons (Z.v 3) (Z.cons (Z.v 4) (Z.cons (Z.fc h_law_number (Z.cons (Z.v 0) Z.nil)) Z.nil)))))) Z.b8)
   (Z.ao (Z.cJ (Z.aI (Z.FN K rfl hu) (Z.v 3) (Z.tup (Z.consts rfl))) (Z.ax (Z.ret (Z.tup (Z.cons (Z.v 3) (Z.cons (Z.v 4) (Z.cons (Z.ix (Z.aA K rfl hu) Z.str (Z.fc h_law_draw (Z.cons (Z.v 0) (Z.cons (Z.ix (Z.aA K rfl hu) (Z.lst (Z.consts rfl)) (Z.fc h_law_draw (Z.cons (Z.v 0) (Z.cons Z.int Z.nil)))) Z.nil)))) Z.nil)))))) Z.b8)
   (Z.ao (Z.cJ (Z.aI (Z.FN K rfl hu) (Z.v 3) (Z.tup (Z.consts rfl))) (Z.ax (Z.ret (Z.tup (Z.cons (Z.v 3) (Z.cons (Z.v 4) Z.nil))))) Z.b8)
   (Z.ao (Z.cJ (Z.aI bj (Z.v 3) Z.str) (Z.ax (Z.ret (Z.tup (Z.cons (Z.v 3) (Z.cons (Z.fc h_law_draw (Z.cons (Z.v 0) (Z.cons (Z.op (Z.aC K rfl) (Z.v 1) Z.int) Z.nil))) Z.nil))))) Z.b8)
   (Z.ao (Z.cJ (Z.aI bj (Z.v 3) Z.str) (Z.ax (Z.ret (Z.tup (Z.cons (Z.v 3) (Z.cons (Z.v 4) (Z.cons (Z.fc h_law_draw (Z.cons (Z.v 0) (Z.cons (Z.op (Z.aC K rfl) (Z.v 1) Z.int) Z.nil))) Z.nil)))))) Z.b8)
   (Z.ax (Z.ret (Z.tup (Z.cons (Z.v 3) Z.nil)))))))))))),?_⟩
  refine au λN hN=>?_;walk_at "rz";refine⟨by decide,λl hl=>?_⟩
  have k1:KB [] H (upd H l (.lst [.str (Str.ofString "put"),.str (Str.ofString "put"),.str (Str.ofString "add"),.str (Str.ofString "sub"),.str (Str.ofString "copy"),.str (Str.ofString "tell"),.str (Str.ofString "tell"),.str (Str.ofString "hear"),.str (Str.ofString "jump"),.str (Str.ofString "zero"),.str (Str.ofString "zero"),.str (Str.ofString "halt")])):=KB.new hl;have s1:upd H l (.lst [.str (Str.ofString "put"),.str (Str.ofString "put"),.str (Str.ofString "add"),.str (Str.ofString "sub"),.str (Str.ofString "copy"),.str (Str.ofString "tell"),.str (Str.ofString "tell"),.str (Str.ofString "hear"),.str (Str.ofString "jump"),.str (Str.ofString "zero"),.str (Str.ofString "zero"),.str (Str.ofString "halt")]) l=_:=aa;generalize upd H l _=H1 at *;have D1:=hd.kb k1;have nl:=hd.new hl;rw[hN];clear hN N;refine au λN hN=>?_;walk_at "rz";refine⟨p,dq,12,n,rfl,D1,by lia,by decide,by decide,λc H2 hc D2 k2=>?_⟩
  have s2:=k2 _ _ s1 nl;obtain⟨v,hv,ha⟩:=Dc (xs:=[V.str (Str.ofString "put"),.str (Str.ofString "put"),.str (Str.ofString "add"),.str (Str.ofString "sub"),.str (Str.ofString "copy"),.str (Str.ofString "tell"),.str (Str.ofString "tell"),.str (Str.ofString "hear"),.str (Str.ofString "jump"),.str (Str.ofString "zero"),.str (Str.ofString "zero"),.str (Str.ofString "halt")]) (i:=c) hc;exists ay s2,ha;have kk2:KB [p,dq] H H2:=k1.all.trans k2;clear ha hc k1 k2 s1 s2 nl hl;rw[hN];clear hN N;refine au λN hN=>?_;walk_at "rz";refine oP D2 (by lia) λbn H3 hb8 D3 k3=>?_
  have kk3:=kk2.trans k3;clear k3 D2 kk2 D1;rw[hN];clear hN N;have hv6:v=.str "put"\/(∃w,v=.str (w2 w))\/(∃w,v=.str (w1 w))\/v=.str "jump"\/v=.str "zero"\/v=.str "halt":=by
   simp only[J5,Ka,KU] at hv;rcases hv with h|h|h|h|h|h|h|h|h|h|h|h<;>subst h<;>first|exact .inl rfl|exact .inr (.inl ⟨0,rfl⟩)|exact .inr (.inl ⟨1,rfl⟩)|exact .inr (.inl ⟨2,rfl⟩)|exact .inr (.inr (.inl ⟨0,rfl⟩))|exact .inr (.inr (.inl ⟨1,rfl⟩))|exact .inr (.inr (.inr (.inl rfl)))|exact .inr (.inr (.inr (.inr (.inl rfl))))|exact .inr (.inr (.inr (.inr (.inr rfl))))
  clear hv;have tell:∀(r:Row) (G:Hp) (m:Nat),r.Ok many->aS G p dq m->m<=n+5->KB [p,dq] H G->∀t,G t=none->Q (.ref t) (upd G t (.tup r.vs)):=λr G m ok D hm k t ht=>q r t _ ok aa ((D.kb (KB.new ht)).mono hm) (k.trans (KB.new ht));refine au λN hN=>?_;rcases hv6 with rfl|⟨u,rfl⟩|⟨u,rfl⟩|hv
  ·exists (show (Str.ofString "put"=Str.ofString "put")=True from eq_true rfl),LU;refine⟨p,dq,n+3,rfl,D3,by lia,λk H4 D4 k4 hk=>⟨by decide,λt ht=>?_⟩⟩
   exact tell (.put bn k) H4 _ ⟨hb8,hk⟩ D4 (by lia) (kk3.trans k4) t ht
  ·have n1:∀u,w2 u≠"put":=by decide +kernel
   have i1:∀u,qd (.str (w2 u)) [.str "add",.str "sub",.str "copy"]=true:=by decide +kernel
   exists Jx (n1 u);rw[hN];clear hN N;refine au λN hN=>?_;exists i1 u;refine⟨by decide,λt0 ht0=>⟨rfl,rfl,?_⟩⟩
   refine oP (D3.kb (KB.new ht0)) (by lia) λb2 H4 hb2 D4 k4=>⟨by decide,λt ht=>?_⟩
   exact tell (.two u bn b2) H4 _ ⟨hb8,hb2⟩ D4 (by lia) ((kk3.trans (KB.new ht0)).trans k4) t ht
  ·have n1:∀u,w1 u≠"put":=by decide +kernel
   have i1:∀u,qd (.str (w1 u)) [.str "add",.str "sub",.str "copy"]=false:=by decide +kernel
   have i2:∀u,qd (.str (w1 u)) [.str "tell",.str "hear"]=true:=by decide +kernel
   exists Jx (n1 u);rw[hN];clear hN N;refine au λN hN=>?_;exists i1 u;refine⟨by decide,λt0 ht0=>⟨rfl,rfl,?_⟩⟩
   rw[hN];clear hN N;refine au λN hN=>?_;exists i2 u;refine⟨by decide,λt1 ht1=>⟨rfl,rfl,by decide,λt ht=>?_⟩⟩
   exact tell (.one u bn) _ _ hb8 ((D3.kb (KB.new ht0)).kb (KB.new ht1)) (by lia) ((kk3.trans (KB.new ht0)).trans (KB.new ht1)) t ht
  ·have n1:∀z∈([("jump"),("zero"),("halt")]:List Str),z≠"put"/\qd (.str z) [.str "add",.str "sub",.str "copy"]=false/\qd (.str z) [.str "tell",.str "hear"]=false:=by decide +kernel
   obtain⟨z,hz,rfl⟩:∃z∈([("jump"),("zero"),("halt")]:List Str),v=.str z:=by rcases hv with rfl|rfl|rfl<;>exact⟨_,by simp,rfl⟩
   obtain⟨e1,e2,e3⟩:=n1 z hz;exists Jx e1;rw[hN];clear hN N;refine au λN hN=>?_;exists e2;refine⟨by decide,λt0 ht0=>⟨rfl,rfl,?_⟩⟩
   rw[hN];clear hN N;refine au λN hN=>?_;exists e3;refine⟨by decide,λt1 ht1=>⟨rfl,rfl,?_⟩⟩
   have D4:=(D3.kb (KB.new (o:=.tup [.str "add",.str "sub",.str "copy"]) ht0)).kb (KB.new (o:=.tup [.str "tell",.str "hear"]) ht1);have kk4:=(kk3.trans (KB.new (o:=.tup [.str "add",.str "sub",.str "copy"]) ht0)).trans (KB.new (o:=.tup [.str "tell",.str "hear"]) ht1);rw[hN];clear hN N;generalize upd (upd H3 t0 _) t1 _=H4 at *;refine au λN hN=>?_;rcases hv with hv|hv
   ·cases hv;exists J6 (rfl:Str.ofString "jump"=Str.ofString "jump");refine⟨p,dq,(many:Int)+1,n+3,rfl,D4,by lia,by lia,by lia,λg H5 hg D5 k5=>⟨by decide,λt ht=>?_⟩⟩
    exact tell (.jump g) H5 _ (show g<=many by lia) D5 (by lia) (kk4.trans k5) t ht
   ·have nh:z≠"jump":=by rcases hv with hv|hv<;>cases hv<;>decide +kernel
    exists Jx nh;rw[hN];clear hN N;refine au λN hN=>?_;rcases hv with hv|hv
    ·cases hv;exists J6 (rfl:Str.ofString "zero"=Str.ofString "zero");refine⟨p,dq,(many:Int)+1,n+3,rfl,D4,by lia,by lia,by lia,λg H5 hg D5 k5=>⟨by decide,λt ht=>?_⟩⟩
     exact tell (.zero bn g) H5 _ ⟨hb8,(show g<=many by lia)⟩ D5 (by lia) (kk4.trans k5) t ht
    ·cases hv;have nz:Str.ofString "halt"≠Str.ofString "zero":=by decide +kernel
     exists Jx nz;rw[hN];clear hN N;walk_at "rz";exact⟨by decide,λt ht=>tell .halt H4 _ trivial D4 (by lia) kk4 t ht⟩
noncomputable def PA(H:Hp)(as:List Addr)(rs:List Row):Prop:=as.length=rs.length/\∀(i:Nat) (q:Addr) (r:Row),as[i]?=some q->rs[i]?=some r->H q=some (.tup r.vs)
theorem PA.snoc{rs:List Row}{r:Row}(h:PA H as rs)(e:H q=some (.tup r.vs)):PA H (as++[q]) (rs++[r]):=by
 refine⟨by rw[Ju,Ju,h.1];rfl,λi q' r' e1 e2=>?_⟩
 rcases K8 i as.length with hi|hi
 ·rw[JU hi] at e1;rw[JU (by rw[<- h.1];exact hi)] at e2
  exact h.2 i q' r' e1 e2
 ·have h1:=h.1;rw[JO hi] at e1;rw[JO (by lia),<- h1] at e2
  obtain⟨hj,rfl⟩:=Jv.mp e1;obtain⟨hj2,rfl⟩:=Jv.mp e2;have:i-as.length=0:=by simp at hj;lia
  simp only[this,LP];exact e
theorem PA.keep{rs:List Row}(h:PA H as rs)(k:KB ex H H')(hx:NT ex H):PA H' as rs:=⟨h.1,λi q r e1 e2=>k _ _ (h.2 i q r e1 e2) λz=>hx q z _ (h.2 i q r e1 e2)⟩
theorem kX{D:Addr}(h:H D=some (.lst ys)):NT [D] H:=λb hb xs e=>by
 rw[JG.mp hb,h] at e;cases e
noncomputable def gO(H:Hp)(a:Addr)(rs:List Row):Prop:=∃as:List Addr,H a=some (.tup (as.map V.ref))/\PA H as rs
theorem gO.keep{rs:List Row}(h:gO H a rs)(k:KB ex H H')(hx:NT ex H):gO H' a rs:=by
 obtain⟨as,h1,h2⟩:=h;exact⟨as,k _ _ h1 λz=>hx a z _ h1,h2.keep k hx⟩
theorem gO.kb{rs:List Row}(h:gO H a rs)(k:KB [] H H'):gO H' a rs:=h.keep k (NT.nil _)
noncomputable def bK:Option Nat->V
 |none=>.aG
 |some t=>.int (t:Nat)
noncomputable def xR:Sp:=λvs H Q _=>∃(n m:Int),vs=[.int n,.int m]/\-1<=m/\m<=40/\Q (.str (wd (bF n m.toNat []))) H
theorem Fp(T:Txt K mg)(F:HasFn K mg "last_figures" d9 ["number","many"]):aq P w K mg base aP 1 "last_figures" ["number","many"] xR:=by
 refine F.eX bC (λvs H Q E h=>?_) (λf cdv A outer s H vs Q E hr h=>?_)
 ·obtain⟨n,m,rfl,_⟩:=h;rfl
 ·have hu:=aK hr;obtain⟨n,m,rfl,hm0,hm,q⟩:=h;refine⟨_,(Z.ao (Z.se (i:=2) bC.nd Z.str)
   (Z.ao (Z.se (i:=3) bC.nd (Z.v 0))
   (Z.ao (Z.iy Ke rfl (Z.Am rfl T.iw (Z.cons (Z.v 1) Z.nil)) (Z.aY (i:=4) bC.nd rfl (by right)) (Z.ao (Z.se (i:=2) bC.nd (Z.op (Z.aC K rfl) (Z.ct va rfl T.FQ (by decide +kernel) (Z.cons (Z.op eI (Z.v 3) Z.int) Z.nil)) (Z.v 2)))
   (Z.ax (Z.se (i:=3) bC.nd (Z.op n9 (Z.v 3) Z.int)))))
   (Z.ax (Z.ret (Z.v 2)))))),?_⟩
  refine au λN hN=>?_;walk_at "rz";rw[hN];clear hN N;refine au λN hN=>?_;walk_at "rz";rw[hN];clear hN N;refine au λN hN=>?_;walk_at "rz";refine⟨by lia,by lia,?_⟩
  have hk:m.toNat<=40:=by lia
  generalize m.toNat=k at *;refine fv (λi σ H'=>∃(l:Int) (acc:List Nat) (o:Option V),H'=H/\i<=k/\bF l (k-i) acc=bF n k []/\acc.length=i/\σ=[some (.int n),some (.int m),some (.str (wd acc)),some (.int l),o]) ⟨n,[],none,rfl,JL _,rfl,rfl,by rw[xW]⟩ ?_ ?_
  ·rintro i σ H' hi ⟨l,acc,o,rfl,_,e,hl,rfl⟩;unfold aZ;refine au λM hM=>?_;exists DL;rw[ki,bw,bw];refine⟨by decide,by rcases Int.emod_two_eq l with h|h<;>rw[h]<;>decide,JC (show _<=50 by simp;lia) (by decide),?_⟩
   rw[hM];clear hM M;refine qC λM hM=>?_;walk_at "rz";refine⟨⟨by decide,by decide⟩,?_⟩
   rw[hM];refine⟨l / 2,dg l::acc,some _,rfl,hi,?_,by rw[JD,hl],rfl⟩
   rw[<- e,show k-i=(k-(i+1))+1 by lia]
   rfl
  ·rintro σ H' ⟨l,acc,o,rfl,_,e,_,rfl⟩;show N _ _;rw[hN];clear hN N;walk_at "rz";rw[Lb] at e;rw[<- e] at q;exact q
theorem rB(n:Nat):bF (n:Int) (((bz n:Nat):Int)-1).toNat []=(eA n).tail:=by
 unfold eA
 cases e:bz n with
 |zero=>rfl
 |succ b =>
  obtain⟨d,ed⟩:=lp b (n:Int) [];rw[ed,show (((b+1:Nat):Int)-1).toNat=b by lia];rfl
noncomputable def mK:Sp:=λvs H Q _=>∃(n:Nat),vs=[.int (n:Nat)]/\n<65536/\Q (.str (wd (eA n).tail)) H
theorem qE(T:Txt K mg)(F:HasFn K mg "figures_behind_first" bQ ["number"])(hlast_figures:aq P w K mg base aP 1 "last_figures" ["number","many"] xR):aq P w K mg base aP 2 "figures_behind_first" ["number"] mK:=by
 refine F.eX eN (λvs H Q E h=>?_) (λf cdv A outer s H vs Q E hr h=>?_)
 ·obtain⟨n,rfl,_⟩:=h;rfl
 ·have hu:=aK hr;obtain⟨n,rfl,hn,q⟩:=h;have hb:=jz hn;refine⟨_,(Z.ax (Z.ret (Z.fc hlast_figures (Z.cons (Z.v 0) (Z.cons (Z.op cO (Z.IX K rfl PySem.F.plainAttrs_int PySem.F.slot_int_bit_length PySem.F.type_int_bit_length Y.t6 (Z.v 0)) Z.int) Z.nil))))),?_⟩;walk_at "rz";refine⟨rfl,?_⟩;refine⟨_,rfl,rfl,?_⟩;walk_at "rz";refine⟨_,_,rfl,?_,?_,?_⟩
  ·show (-1:Int)<=((bz n:Nat):Int)-1;lia
  ·show ((bz n:Nat):Int)-1<=40;lia
  ·show Q (.str (wd (bF (n:Int) (((bz n:Nat):Int)-1).toNat []))) H;rw[rB];exact q
noncomputable def sG:Sp:=λvs H Q _=>∃(k:Nat) (d:Int),vs=[.int (k:Nat),.int d]/\k<3/\Q (.str (wd (cX k d))) H
theorem xO(T:Txt K mg)(F:HasFn K mg "jump_written" d7 ["width","distance"])(hlast_figures:aq P w K mg base aP 1 "last_figures" ["number","many"] xR):aq P w K mg base aP 2 "jump_written" ["width","distance"] sG:=by
 obtain⟨ah,hg_HEADS,kt_HEADS⟩:=T.oE;obtain⟨aw,hg_WIDTHS,kt_WIDTHS⟩:=T.lK;have hr_HEADS:RelV (.ref ah) (.ref ah):=rfl;have hr_WIDTHS:RelV (.ref aw) (.ref aw):=rfl;refine F.eX jv (λvs H Q E h=>?_) (λf cdv A outer s H vs Q E hr h=>?_)
 ·obtain⟨k,d,rfl,_⟩:=h;rfl
 ·have hu:=aK hr;obtain⟨k,d,rfl,hk,q⟩:=h;refine⟨_,(Z.ax (Z.ret (Z.op (Z.aC K rfl) (Z.ix (Z.gI K rfl) (Z.glob rfl hg_HEADS hr_HEADS) (Z.v 0)) (Z.fc hlast_figures (Z.cons (Z.v 1) (Z.cons (Z.ix (Z.gI K rfl) (Z.glob rfl hg_WIDTHS hr_WIDTHS) (Z.v 0)) Z.nil)))))),?_⟩;walk_at "rz";have p2:bX [V.str (Str.ofString "0"),.str (Str.ofString "10"),.str (Str.ofString "11")] (k:Int)=some (.str (wd (cQ k))):=by
   rcases lY hk with rfl|rfl|rfl
   ·exact Kk (λz=>some (V.str z)) (by decide +kernel)
   ·exact Kk (λz=>some (V.str z)) (by decide +kernel)
   ·exact Kk (λz=>some (V.str z)) (by decide +kernel)
  have p3:bX [V.int 4,.int 8,.int 16] (k:Int)=some (.int ((bq k:Nat):Int)):=by rcases lY hk with rfl|rfl|rfl<;>rfl
  have p4:bq k<=16/\(cQ k).length<=2:=by rcases lY hk with rfl|rfl|rfl<;>decide
  refine⟨ah,_,_,_,rfl,rfl,kt_HEADS H,p2,aw,_,_,_,rfl,rfl,kt_WIDTHS H,p3,_,_,rfl,by lia,by lia,?_⟩
  rw[Kg];walk_at "rz";rw[ki,bw,bw,dz];exact⟨JC (show _<=30 by simp;lia) (by decide),q⟩
theorem wN{X:Cx}{es:List Expr}{tk:Nat}{tp:Pos}{e1 e2:Expr}{ta:TA}{p pos:Pos}(K:W.Frag)(hK:X.K=K)(hg:Gl X "zip")(hm:X.mg "zip"=none)(ha:QA X [e1,e2] ta)(h1:autoParam (eZ e1=true) ℜ0)(h2:autoParam (eZ e2=true) ℜ0):QI X (.Tuple es tk tp) (.Call (.Name "zip" p) [e1,e2] [] pos) (zy K ta):=by
 subst hK;exact⟨Bw hg hm ha.h h1 h2⟩
theorem jW(K:W.Frag)(ta:TA)(σ:L2.St)(H:Hp)(R:It->Hp->Prop):L2.zy K ta σ H R=ta σ H λvs H1=>∃p q:Bool×Addr,vs=[V.ref p.2,V.ref q.2]/\(∃xs,my K p.1 H1 p.2 xs)/\(∃ys,my K q.1 H1 q.2 ys)/\∀n,R (Fy K (gx n [p,q])) H1:=rfl
theorem m8{g:TG}{tb:TS}{D:Ends}{k1 k2:Bool}{n:Nat}(hxy:xs.length=ys.length)(Pv:Nat->L2.St->Hp->Prop)(h0:Pv 0 σ H)(hl:∀i σ H,Pv i σ H->my K k1 H a xs/\my K k2 H b ys)
  (hs:∀i x y σ H p,xs[i]?=some x->ys[i]?=some y->Pv i σ H->H p=none->g (.ref p) σ (upd H p (.tup [x,y])) λσ2 H2=>tb {D with nx:=Pv (i+1),ct:=Pv (i+1),bk:=D.nx} σ2 H2) (hd:∀σ H,Pv xs.length σ H->D.nx σ H):qG (Fy K (gx n [(k1,a),(k2,b)])) g tb D σ H:=by
 refine⟨λi m σ H=>m=xs.length-i/\i<=xs.length/\Pv i σ H,⟨xs.length,by simp,JL _,h0⟩,?_⟩
 rintro i m σ H ⟨rfl,hi,p⟩;obtain⟨q1,q2⟩:=hl i σ H p;by_cases hlt:i<xs.length
 ·have hl2:i<ys.length:=by lia
  refine .inr ⟨⟨[xs[i],ys[i]],.cons ⟨xs,q1,by simp[hlt]⟩ (.cons ⟨ys,q2,by simp[hl2]⟩ .nil)⟩,Pv (i+1),λσ' H' p'=>⟨xs.length-(i+1),by lia,rfl,hlt,p'⟩,λx H' z=>?_⟩
  obtain⟨c',vs,pr,fr,rfl,rfl⟩:=z;obtain⟨v1,vs,rfl,e1,pr⟩:=Paired.gz pr;obtain⟨v2,vs,rfl,e2,pr⟩:=Paired.gz pr;cases pr;exact hs i v1 v2 σ H c' (e1 xs q1) (e2 ys q2) p fr
 ·have e:i=xs.length:=by lia
  subst e;exact .inl ⟨⟨[],(k1,n,a),_,[],rfl,.nil,xs,q1,rfl⟩,hd σ H p⟩
noncomputable def Ai(H:Hp)(ps:List Addr)(l:List (Nat×Nat)):Prop:=ps.length=l.length/\∀(j:Nat) (q:Addr) (x:Nat×Nat),ps[j]?=some q->l[j]?=some x->H q=some (.tup [.int (x.1:Nat),.int (x.2:Nat)])
theorem Ai.snoc{ps:List Addr}{l:List (Nat×Nat)}{x:Nat×Nat}(h:Ai H ps l)(e:H q=some (.tup [.int (x.1:Nat),.int (x.2:Nat)])):Ai H (ps++[q]) (l++[x]):=by
 refine⟨by rw[Ju,Ju,h.1];rfl,λi q' r' e1 e2=>?_⟩
 rcases K8 i ps.length with hi|hi
 ·rw[JU hi] at e1;rw[JU (by rw[<- h.1];exact hi)] at e2
  exact h.2 i q' r' e1 e2
 ·have h1:=h.1;rw[JO hi] at e1;rw[JO (by lia),<- h1] at e2
  obtain⟨hj,rfl⟩:=Jv.mp e1;obtain⟨hj2,rfl⟩:=Jv.mp e2;have:i-ps.length=0:=by simp at hj;lia
  simp only[this,LP];exact e
theorem Bf{D:Addr}(h:H D=some (.lst ys)):NT [D] H:=λb hb xs e=>by
 rw[JG.mp hb,h] at e;cases e
theorem Ai.keep{ps:List Addr}{l:List (Nat×Nat)}(h:Ai H ps l)(k:KB ex H H')(hx:NT ex H):Ai H' ps l:=⟨h.1,λi q r e1 e2=>k _ _ (h.2 i q r e1 e2) λz=>hx q z _ (h.2 i q r e1 e2)⟩
theorem Iy(x:V)(xs:List V):d5 (x::xs) (some 1) none=xs:=by
 unfold d5;rw[HT.dH,show (some (1:Int))=some ((1:Nat):Int) from rfl,HT.fo];simp
theorem CY{x:V}(h:H a=some (.tup (x::xs)))(q:∀p,H p=none->Q (.ref p) (upd H p (.tup xs))):qH K (.ref a) (some 1) none H Q:=⟨a,x::xs,rfl,bb.of h,λz=>by
 have:=z.1;rw[show (some (1:Int))=some ((1:Nat):Int) from rfl,HT.fo] at this;simp at this,by rw[Iy];exact q⟩
noncomputable def qw:Sp:=λvs H Q _=>∃(ra:Addr) (r:Row) (k:Nat),vs=[.ref ra]/\H ra=some (.tup r.vs)/\r.Ok k/\∀D ps H',H D=none->KB [] H H'->H' D=some (.lst (ps.map V.ref))->Ai H' ps (cF r)->Q (.ref D) H'
theorem v3(T:Txt K mg)(F:HasFn K mg "coded_things" dB ["row"]):aq P w K mg base aP 1 "coded_things" ["row"] qw:=by
 obtain⟨u0,hg_OF_WORDS,hr_OF_WORDS⟩:=T.jE;obtain⟨u1,hg_OF_CLASSES,hr_OF_CLASSES⟩:=T.ig;obtain⟨u2,hg_OF_BOXES,hr_OF_BOXES⟩:=T.kh;obtain⟨aB,hg_BOXES,sB⟩:=T.sC;have hr_BOXES:RelV (.ref aB) (.ref aB):=rfl;obtain⟨_,oB,hmB,hoB,hdB⟩:=T.BQ;rw[hg_BOXES] at hmB;cases hmB;have tyB:∀H,Ft K "tuple" (.ref aB) H:=λH=>.inr (.inl ⟨rfl,oB,hoB,by
  rcases sB (λ_=>none) with h|⟨o,_,_,h1,h2,_⟩
  ·rcases h with h|⟨_,h⟩
   ·cases h
   ·cases h
  ·rw[hoB] at h1;cases h1;exact h2,hdB⟩)
 obtain⟨dS,hg_SHAPES,hd0⟩:=T.lP;have hd_SHAPES:jL K dS bJ:=hd0;have hr_SHAPES:RelV (.ref dS) (.ref dS):=rfl;refine F.eX cf (λvs H Q E h=>?_) (λf cdv A outer s H vs Q E hr h=>?_)
 ·obtain⟨ra,r,k,rfl,_⟩:=h;rfl
 ·have hu:=aK hr;obtain⟨ra,r,k,rfl,hra,aN,q⟩:=h;refine⟨_,(Z.ao (Z.se (i:=1) cf.nd (Z.lst (Z.cons (Z.tup (Z.cons (Z.glob rfl hg_OF_WORDS hr_OF_WORDS) (Z.cons (Z.bm K rfl PySem.F.plainAttrs_list PySem.F.slot_list_index PySem.F.type_list_index Y.Ci (Z.ct (lC (D:=bJ) K rfl rfl) rfl T.wR (by decide +kernel) (Z.cons (Z.glob rfl hg_SHAPES hr_SHAPES) Z.nil)) (Z.cons (Z.ix (Z.aA K rfl hu) (Z.v 0) Z.int) Z.nil)) Z.nil))) Z.nil)))
   (Z.ao (Z.iy Ke rfl (wN K rfl rfl T.yz (Z.cons (Z.Ib K rfl rfl hg_SHAPES hd_SHAPES (Z.ix (Z.aA K rfl hu) (Z.v 0) Z.int)) (Z.cons (Z.slice (Z.E8 K rfl) (Z.v 0) (Z.oH Z.int) Z.rR) Z.nil))) (Z.ot (n:=2) K rfl rfl (Z.bP (Z.aY (i:=2) cf.nd rfl (by right)) (Z.bP (Z.aY (i:=3) cf.nd rfl (by right)) Z.hV))) (Z.ax (Z.cJ (Z.aI bj (Z.v 2) Z.str) (Z.ax (Z.expr (Z.app K (Z.v 1) (Z.cons (Z.tup (Z.cons (Z.glob rfl hg_OF_BOXES hr_OF_BOXES) (Z.cons (Z.bm K rfl PySem.F.plainAttrs_tuple PySem.F.slot_tuple_index PySem.F.type_tuple_index (El (X:=_)) (Z.glob rfl hg_BOXES hr_BOXES) (Z.cons (Z.v 3) Z.nil)) Z.nil))) Z.nil)))) (Z.ax (Z.cJ (Z.aI bj (Z.v 2) Z.str) (Z.ax (Z.expr (Z.app K (Z.v 1) (Z.cons (Z.tup (Z.cons (Z.glob rfl hg_OF_CLASSES hr_OF_CLASSES) (Z.cons (Z.IX K rfl PySem.F.plainAttrs_int PySem.F.slot_int_bit_length PySem.F.type_int_bit_length Y.t6 (Z.v 3)) Z.nil))) Z.nil)))) Z.b8)))))
   (Z.ax (Z.ret (Z.v 1))))),?_⟩
  have a0:bX r.vs 0=some (.str r.wd):=by cases r<;>rfl
  refine au λN hN=>?_;exists aH hra,a0;refine⟨dS,rfl,hd_SHAPES,by decide,λl hl=>?_⟩
  have k1:=KB.new (ex:=[]) (o:=.lst (bJ.map λp=>V.str p.1)) hl;have s1:upd H l (.lst (bJ.map λp=>V.str p.1)) l=some (.lst (bJ.map λp=>V.str p.1)):=aa;generalize upd H l (.lst (bJ.map λp=>V.str p.1))=H1 at *;refine⟨.inl ⟨rfl,_,bB.of s1⟩,?_⟩;have hra1:=k1 _ _ hra (by simp)
  exists aH hra1,a0;refine⟨l,cg,r.wd,r.wi,rfl,s1,rfl,(CO r).1,(CO r).2,⟨by decide,λp1 hp1=>⟨by decide,λD hD=>?_⟩⟩⟩
  have kp1:=KB.new (ex:=[]) (o:=.tup [.int 0,.int (r.wi:Nat)]) hp1;have sp1:upd H1 p1 (.tup [.int 0,.int (r.wi:Nat)]) p1=_:=aa;generalize upd H1 p1 (.tup [.int 0,.int (r.wi:Nat)])=H2 at *;have kD:=KB.new (ex:=[]) (o:=.lst [.ref p1]) hD;have sD:upd H2 D (.lst [.ref p1]) D=some (.lst ([p1].map V.ref)):=aa;generalize upd H2 D (.lst [.ref p1])=H3 at *;have hDH:H D=none:=(k1.trans kp1).free (by simp) hD
  have th3:Ai H3 [p1] [(0,r.wi)]:=⟨rfl,λj q x e1 e2=>by
   have hj:j<1:=(Jv.mp e1).1;obtain rfl:j=0:=by lia
   cases e1;cases e2
   exact kD _ _ sp1 (by simp)⟩
  have k03:=(k1.trans kp1).trans kD;rw[hN];clear hN N;clear sp1 hp1 s1 hl hD hra1;refine au λN hN=>?_;have hra3:=k03 _ _ hra (by simp)
  exists jW,aH hra3,a0;refine⟨_,_,rfl,uM r,λpk kt=>?_⟩;rw[Row.FO] at hra3;refine CY hra3 λtl htl=>?_;have kt3:=KB.new (ex:=[]) (o:=.tup (r.fF.map Pk.v)) htl;have st3:upd H3 tl (.tup (r.fF.map Pk.v)) tl=_:=aa;generalize upd H3 tl (.tup (r.fF.map Pk.v))=H4 at *;have k04:=k03.trans kt3;have ktq:∀G:Hp,bb K G pk ((r.fF.map Pk.kd).map V.str):=λG=>.inr kt;refine⟨(false,pk),(false,tl),⟨rfl,rfl⟩,⟨_,ktq _⟩,⟨_,bb.of st3⟩,λn=>?_⟩;refine m8 (xs:=(r.fF.map Pk.kd).map V.str) (ys:=r.fF.map Pk.v) (by rw[Jt,Jt,Jt]) (λi σ H'=>∃(ps:List Addr) (o2 o3:Option V),i<=r.fF.length/\KB [] H H'/\H' tl=some (.tup (r.fF.map Pk.v))/\H' D=some (.lst (ps.map V.ref))/\Ai H' ps ((0,r.wi)::(r.fF.take i).flatMap Pk.qB)/\σ=[some (.ref ra),some (.ref D),o2,o3]) ⟨[p1],none,none,JL _,k04,st3,kt3 _ _ sD (by simp),th3.keep kt3 (NT.nil _),rfl⟩ (λi σ H' h=>by obtain⟨_,_,_,_,_,h1,_⟩:=h;exact⟨ktq _,bb.of h1⟩) ?_ ?_
  ·rintro i x y σ H' z hx hy ⟨ps,o2,o3,hi,hk,h1,h2,h3,rfl⟩ hz;have hlt:i<r.fF.length:=by have:=(Jv.mp hy).1;rw[Jt] at this;exact this
   have ep:=Jr hlt;have pok:=Row.zb aN _ (JM hlt);have et:(r.fF.take (i+1)).flatMap Pk.qB=(r.fF.take i).flatMap Pk.qB++(r.fF[i]).qB:=by rw[K0,ep,List.flatMap_append];simp
   rw[JA,JA,ep] at hx;rw[JA,ep] at hy;generalize r.fF[i]=pt at *
   cases hx;cases hy
   unfold aZ;refine⟨z,_,rfl,bb.of aa,rfl,_,_,rfl,_,_,rfl,rfl,?_⟩;have kz:=KB.new (ex:=[]) (o:=.tup [.str pt.kd,pt.v]) hz;generalize upd H' z (.tup [.str pt.kd,pt.v])=H5 at *;have hk5:=hk.trans kz;have h15:=kz _ _ h1 (by simp)
   have h25:=kz _ _ h2 (by simp)
   have h35:=h3.keep kz (NT.nil _);dsimp only;refine qC λM hM=>?_;have psl:ps.length<=4:=by
    have e:=h3.1;rw[e];have c:=ny r;unfold cF at c;rw[JD] at c ⊢;have:((r.fF.take i).flatMap Pk.qB).length<=(r.fF.flatMap Pk.qB).length:=by
     rw[<- KJ i r.fF,List.flatMap_append,Ju,KJ];exact Nat.le_add_right _ _
    lia
   have fin:∀(u v:Nat) (G:Hp) (t:Addr),pt.qB=[(u,v)]->KB [] H5 G->G t=none->M [some (.ref ra),some (.ref D),some (.str pt.kd),some pt.v] (upd (upd G t (.tup [.int (u:Nat),.int (v:Nat)])) D (.lst (ps.map V.ref++[.ref t]))):=λu v G t ec kG ht=>by
    rw[hM];have kt':=KB.new (ex:=[]) (o:=.tup [.int (u:Nat),.int (v:Nat)]) ht;have st':upd G t (.tup [.int (u:Nat),.int (v:Nat)]) t=some (.tup [.int (u:Nat),.int (v:Nat)]):=aa;generalize upd G t (.tup [.int (u:Nat),.int (v:Nat)])=G2 at *;have k52:=kG.trans kt';have hD2:=k52 _ _ h25 (by simp)
    have nt:=Bf hD2;refine⟨ps++[t],_,_,hlt,λb o e _=>by rw[ar (af e hDH)];exact k52 _ _ (hk5 _ _ e (by simp)) (by simp),by rw[ar (λz=>by rw[z] at h15;rw[h25] at h15;cases h15)];exact k52 _ _ h15 (by simp),by rw[aa,JN];rfl,?_,rfl⟩
    rw[et,ec,<- KO];exact ((h35.keep k52 (NT.nil _)).snoc (q:=t) (x:=(u,v)) st').keep (KB.set (ex:=[D]) (by simp)) nt
   cases pt with
   |box b =>
    obtain⟨e1,e2⟩:=yS (b:=b) pok;walk_at "rz";rw[J6 (show (Pk.box b).kd=Str.ofString "box" from rfl)];refine⟨.inl ⟨rfl,_,bB.of h25⟩,tyB _,aB,Fv,dQ b,b,rfl,sB _,rfl,e1,e2,by decide,λt ht=>?_⟩
    have h26:upd H5 t (.tup [.int 2,.int (b:Nat)]) D=some (.lst (ps.map V.ref)):=by rw[ar (af h25 ht)];exact h25
    exact⟨D,_,_,rfl,rfl,h26,Kt (show _<=10 by rw[Jt];lia) (by decide),fin 2 b H5 t rfl (KB.refl _ _) ht⟩
   |num n =>
    walk_at "rz";rw[Jx (show ¬ (Pk.num n).kd=Str.ofString "box" from (by decide +kernel:¬ Str.ofString "number"=Str.ofString "box")),J6 (show (Pk.num n).kd=Str.ofString "number" from rfl)]
    refine⟨.inl ⟨rfl,_,bB.of h25⟩,rfl,(n:Int),rfl,rfl,by decide,λt ht=>?_⟩
    have h26:upd H5 t (.tup [.int 1,.int (bz n:Nat)]) D=some (.lst (ps.map V.ref)):=by rw[ar (af h25 ht)];exact h25
    exact⟨D,_,_,rfl,rfl,h26,Kt (show _<=10 by rw[Jt];lia) (by decide),fin 1 (bz n) H5 t rfl (KB.refl _ _) ht⟩
   |goal g =>
    walk_at "rz";rw[Jx (show ¬ (Pk.goal g).kd=Str.ofString "box" from (by decide +kernel:¬ Str.ofString "goal"=Str.ofString "box")),Jx (show ¬ (Pk.goal g).kd=Str.ofString "number" from (by decide +kernel:¬ Str.ofString "goal"=Str.ofString "number"))]
    rw[hM];exact⟨ps,_,_,hlt,hk5,h15,h25,by rw[et];show Ai H5 ps ((0,r.wi)::((r.fF.take i).flatMap Pk.qB++[]));rw[Kq];exact h35,rfl⟩
  ·rintro σ H' ⟨ps,o2,o3,hi,hk,h1,h2,h3,rfl⟩;show N _ _;rw[hN];clear hN N;walk_at "rz";refine q D ps H' hDH hk h2 ?_;rw[Jt,Jt,Kl] at h3;exact h3
theorem oQ(hn:xs.length<=sizeLine)(Pv:Addr->Nat->List V->Hp->Prop)(h0:∀D,H D=none->Pv D 0 [] (upd H D (.lst [])))(hD:∀D i ys H',Pv D i ys H'->H' D=some (.lst ys)/\ys.length=i)
  (hl:∀D i ys H',Pv D i ys H'->bB K H' a xs)
  (hs:∀D i ys H' x,xs[i]?=some x->Pv D i ys H'->∃q u v,x=.ref q/\H' q=some (.tup [u,v])/\∀R:VK,(∀v H5,H5 D=some (.lst ys)->Pv D (i+1) (ys++[v]) (upd H5 D (.lst (ys++[v])))->R v H5)->te (some u::some v::σ) H' R) (hd:∀D ys H',Pv D xs.length ys H'->Q (.ref D) H') :
  mS (we K a) 2 (og K 2 (eV (aZ 0) (eV (aZ 1) n5))) f9 te Q σ H:=by
 intro D hD0;refine⟨λi m ys σ' H'=>m=xs.length-i/\i<=xs.length/\Pv D i ys H'/\∃o1 o2,σ'=o1::o2::σ,⟨xs.length,by simp,JL _,h0 D hD0,none,none,rfl⟩,?_⟩
 rintro i m ys σ' H' ⟨rfl,hi,p,o1,o2,rfl⟩;obtain⟨hDi,hly⟩:=hD _ _ _ _ p;have q:=hl _ _ _ _ p;refine⟨hDi,?_⟩;by_cases hlt:i<xs.length
 ·refine .inr ⟨⟨xs,xs[i],q,by simp[hlt]⟩,by lia,λx H2 y=>?_⟩
  obtain⟨rfl,y⟩:=y;obtain⟨t,u,v,rfl,ht,h⟩:=hs D i ys H2 x (y xs q) p;refine⟨t,[u,v],rfl,bb.of ht,rfl,u,[v],rfl,v,[],rfl,rfl,?_⟩;unfold f9;dsimp only;rw[if_pos rfl];exact h _ λv H5 q1 q2=>⟨q1,xs.length-(i+1),by lia,rfl,hlt,q2,_,_,rfl⟩
 ·have e:i=xs.length:=by lia
  subst e;exact .inl ⟨⟨xs,q,J7 _⟩,hd D ys H' p⟩
noncomputable def sO(K:W.Frag):Sp:=λvs H Q _=>∃(ra ca:Addr) (r:Row) (k:Nat) (cd:List (List (List Nat))),vs=[.ref ra,.ref ca]/\H ra=some (.tup r.vs)/\r.Ok k/\wY H ca cd/\Cd cd/\∀H',KB [] H H'->Q (.str (wd (b7 cd r))) H'
theorem xm(T:Txt K mg)(F:HasFn K mg "bits_ahead_of_goal" bE ["row","codes"])(hcoded_things:aq P w K mg base aP 1 "coded_things" ["row"] qw)(hfigures_behind_first:aq P w K mg base aP 2 "figures_behind_first" ["number"] mK):aq P w K mg base aP 3 "bits_ahead_of_goal" ["row","codes"] (sO K):=by
 refine F.eX cI (λvs H Q E h=>?_) (λf cdv A outer s H vs Q E hr h=>?_)
 ·obtain⟨ra,ca,r,k,cd,rfl,_⟩:=h;rfl
 ·have hu:=aK hr;obtain⟨ra,ca,r,k,cd,rfl,hra,aN,eY,hC,q⟩:=h;refine⟨_,(Z.ao (Z.se (i:=2) cI.nd (Z.bm K rfl PySem.F.plainAttrs_str PySem.F.slot_str_join PySem.F.type_str_join (Z.yc K rfl) Z.str (Z.cons (Z.C4 (osc:=ae bE) (ON:=["row","codes","bits"]) (own:=["which","thing"]) (N:=["which","thing","row","codes","bits"]) (aF.of rfl (by decide +kernel)) (Z.any K rfl (Z.fc hcoded_things (Z.cons (Z.v 0) Z.nil))) (λnd _ _ _ _=>(Z.ot (n:=2) K rfl rfl (Z.bP (Z.aY (i:=0) nd rfl (by right)) (Z.bP (Z.aY (i:=1) nd rfl (by right)) Z.hV)))) (λ_ _ _ _=>Z.wj) (λ_ _ _ _=>(Z.ix (Z.aA K rfl hu) (Z.ix (Z.aA K rfl hu) (Z.v 3) (Z.v 0)) (Z.v 1)))) Z.nil)))
   (Z.ax (Z.ret (Z.Dq (Z.aI bj (Z.ix (Z.aA K rfl hu) (Z.v 0) Z.int) Z.str) (Z.op (Z.aC K rfl) (Z.v 2) (Z.fc hfigures_behind_first (Z.cons (Z.ix (Z.aA K rfl hu) (Z.v 0) (Z.un dc Z.int)) Z.nil))) (Z.v 2))))),?_⟩
  have a0:bX r.vs 0=some (.str r.wd):=by cases r<;>rfl
  refine au λN hN=>?_;walk_at "rz";refine⟨rfl,ra,r,k,rfl,hra,aN,λD ps H1 hD k1 hD1 th=>?_⟩;exists ay hD1;have hcd1:wY H1 ca cd:=eY.keep k1 (by simp) (λb hb=>nomatch hb)
  have thl:=th.1;have cl:=ny r;refine oQ (xs:=ps.map V.ref) (JC (show _<=3 by rw[Jt];lia) (by decide)) (λL i ys H'=>H1 L=none/\H' L=some (.lst ys)/\KB [] H1 H'/\i<=(cF r).length/\ys=(((cF r).take i).map λp=>wd (aL cd p)).map V.str) (λL hL=>⟨hL,aa,KB.new hL,JL _,rfl⟩) (λL i ys H' h=>⟨h.2.1,by rw[h.2.2.2.2,Jt,Jt,JK];have:=h.2.2.2.1;lia⟩) (λL i ys H' h=>bB.of (h.2.2.1 _ _ hD1 (by simp))) ?_ ?_
  ·rintro L i ys H' x hx ⟨g0,g1,gk,hi,rfl⟩;obtain⟨c,ec,rfl⟩:∃c,ps[i]?=some c/\x=.ref c:=by
    rw[JA] at hx;obtain⟨c,e,rfl⟩:=JR.mp hx;exact⟨c,e,rfl⟩
   have hlt:i<(cF r).length:=by have:=(Jv.mp ec).1;lia
   have er:=Jr hlt;have et:(cF r).take (i+1)=(cF r).take i++[(cF r)[i]]:=by rw[K0,er];rfl
   have hc:=gk _ _ (th.2 i c _ ec er) (by simp)
   have ck:=yT aN _ (JM hlt);generalize (cF r)[i]=pr at *;refine⟨c,_,_,rfl,hc,λR kk=>?_⟩;have g:=hC.at ck;obtain⟨a0',a1',a2',y1,y2,y3,y4⟩:=hcd1;have y1':=gk _ _ y1 (by simp)
   obtain⟨ai,e1,e2⟩:∃ai,bX [V.ref a0',.ref a1',.ref a2'] (pr.1:Int)=some (.ref ai)/\H' ai=some (.tup (wV (cd.getD pr.1 []))):=by
    rcases ck with ⟨h,_⟩|⟨h,_⟩|⟨h,_⟩<;>rw[h]
    ·exact⟨a0',rfl,gk _ _ y2 (by simp)⟩
    ·exact⟨a1',rfl,gk _ _ y3 (by simp)⟩
    ·exact⟨a2',rfl,gk _ _ y4 (by simp)⟩
   have e3:bX (wV (cd.getD pr.1 [])) (pr.2:Int)=some (.str (wd (aL cd pr))):=bt (by unfold wV;rw[JA,g.2.1];rfl)
   exists ay y1',e1,aH e2,e3;exact kk _ _ g1 ⟨g0,aa,λu o e _=>by rw[ar (af e g0)];exact gk _ _ e (by simp),hlt,by rw[et,JN,JN];rfl⟩
  rintro L ys H2 ⟨_,gL,k2,_,rfl⟩;rw[Jt,thl,Kl] at gL;have k02:=k1.trans k2;have hl:=oZ hC aN;have e1:((cF r).map λp=>wd (aL cd p))=((cF r).map (aL cd)).map wd:=by rw[Lj];rfl
  have e2:(((cF r).map λp=>wd (aL cd p)).map λx=>x.length).sum=((cF r).flatMap (aL cd)).length:=by
   rw[List.length_flatMap,Lj];rfl
  refine⟨_,L,_,rfl,rfl,bB.of gL,?_,?_⟩
  ·rw[e2,show (Str.ofString "").length=0 from by decide +kernel];lia
  rw[e1,nW,<- List.flatMap_def];rw[hN];clear hN N;have hra2:=k02 _ _ hra (by simp)
  exists aH hra2,a0;have hh:b7 cd r=(cF r).flatMap (aL cd)++fG r:=rfl;have qq:=q H2 k02;rw[hh] at qq;generalize (cF r).flatMap (aL cd)=y at *;by_cases hp:r.wd=Str.ofString "put"
  ·obtain⟨b,n,rfl⟩:∃b n,r=.put b n:=by
    cases r with
    |put b n=>exact⟨b,n,rfl⟩
    |two u b c=>exact absurd hp ((by decide +kernel:∀u,¬ w2 u=Str.ofString "put") u)
    |one u b=>exact absurd hp ((by decide +kernel:∀u,¬ w1 u=Str.ofString "put") u)
    |jump g=>exact absurd hp (show ¬ Str.ofString "jump"=Str.ofString "put" from by decide +kernel)
    |zero b g=>exact absurd hp (show ¬ Str.ofString "zero"=Str.ofString "put" from by decide +kernel)
    |halt=>exact absurd hp (show ¬ Str.ofString "halt"=Str.ofString "put" from by decide +kernel)
   rw[J6 hp];refine⟨n,rfl,aN.2,?_⟩;walk_at "rz";rw[ki,bw,bw];exact⟨JC (show _<=200 by have:=hl.2;show y.length+(fG (.put b n)).length<=200;lia) (by decide),qq⟩
  ·rw[Jx hp];have et:fG r=[]:=by cases r<;>first|rfl|exact absurd rfl hp
   rw[et,Kq] at qq;exact qq
noncomputable def vS:Option Nat->Nat->V
 |none,_=>.aG
 |some _,w=>.int (w:Nat)
noncomputable def gQ(gs:List (Option Nat))(ws:List Nat):List V:=List.zipWith vS gs ws
theorem wD{ws:List Nat}(h:ws.length=gs.length):(gQ gs ws).length=gs.length:=by unfold gQ;rw[List.length_zipWith];lia
theorem nY{ws:List Nat}{g:Option Nat}{w:Nat}(h1:gs[i]?=some g)(h2:ws[i]?=some w):(gQ gs ws)[i]?=some (vS g w):=by
 unfold gQ;rw[List.getElem?_zipWith,h1,h2]
noncomputable def CJ:Sp:=λvs H Q _=>∃(g:Option Nat) (w:Nat),vs=[vS g w]/\w<3/\Q (.int (addW g w:Nat)) H
theorem E3(T:Txt K mg)(F:HasFn K mg "own_part" gR ["width"]):aq P w K mg base aP 1 "own_part" ["width"] CJ:=by
 obtain⟨ah,hg_HEADS,kt_HEADS⟩:=T.oE;obtain⟨aw,hg_WIDTHS,kt_WIDTHS⟩:=T.lK;have hr_HEADS:RelV (.ref ah) (.ref ah):=rfl;have hr_WIDTHS:RelV (.ref aw) (.ref aw):=rfl;refine F.eX p6 (λvs H Q E h=>?_) (λf cdv A outer s H vs Q E hr h=>?_)
 ·obtain⟨g,w,rfl,_⟩:=h;rfl
 ·have hu:=aK hr;obtain⟨g,k,rfl,hk,q⟩:=h;refine⟨_,(Z.ax (Z.ret (Z.Dq (Z.aI cR (Z.v 0) Z.aG) Z.int (Z.op (Z.aC K rfl) (Z.cb (Z.cH K rfl) rfl T.cy (by decide +kernel) (Z.cons (Z.ix (Z.gI K rfl) (Z.glob rfl hg_HEADS hr_HEADS) (Z.v 0)) Z.nil)) (Z.ix (Z.gI K rfl) (Z.glob rfl hg_WIDTHS hr_WIDTHS) (Z.v 0)))))),?_⟩
  cases g with
  |none =>
   unfold vS;walk_at "rz";exact q
  |some t =>
   have p2:bX [V.str (Str.ofString "0"),.str (Str.ofString "10"),.str (Str.ofString "11")] (k:Int)=some (.str (wd (cQ k))):=by
    rcases lY hk with rfl|rfl|rfl
    ·exact Kk (λz=>some (V.str z)) (by decide +kernel)
    ·exact Kk (λz=>some (V.str z)) (by decide +kernel)
    ·exact Kk (λz=>some (V.str z)) (by decide +kernel)
   have p3:bX [V.int 4,.int 8,.int 16] (k:Int)=some (.int ((bq k:Nat):Int)):=by rcases lY hk with rfl|rfl|rfl<;>rfl
   unfold vS;walk_at "rz";rw[Jx (show ¬ V.int (k:Nat)=V.aG from λz=>nomatch z)];refine⟨ah,_,_,_,rfl,rfl,kt_HEADS H,p2,?_⟩;walk_at "rz";rw[bw];refine⟨JC (show (cQ k).length<=2 by rcases lY hk with rfl|rfl|rfl<;>decide) (by decide),aw,_,_,_,rfl,rfl,kt_WIDTHS H,p3,?_⟩
   walk_at "rz";rw[show ((cQ k).length:Int)+(bq k:Nat)=((addW (some t) k:Nat):Int) by rcases lY hk with rfl|rfl|rfl<;>rfl]
   exact q
theorem A_{l:List Nat}{v:V}(h:(iV (nZ l))[i]?=some v):∃x:Nat,l[i]?=some x/\v=.int (x:Nat):=by
 unfold iV nZ at h;rw[Lj,JA] at h;obtain⟨x,e,rfl⟩:=JR.mp h;exact⟨x,e,rfl⟩
theorem fw(l:List Nat):(iV (nZ l)).length=l.length:=by rw[c_,jR]
theorem yF{l:List Nat}(h:i<l.length):bX (iV (nZ l)) (i:Int)=some (.int ((l.getD i 0:Nat):Int)):=bt (by unfold iV nZ;rw[Lj,JA,Jr h,JF,Jr h];rfl)
theorem Bo{l:List Nat}(h:i<l.length):bX (iV (nZ (l.take (i+1)))) (-1)=some (.int ((l.getD i 0:Nat):Int)):=by
 have hi2:(l.take (i+1)).length=i+1:=by rw[JK];lia
 unfold bX lJ;rw[Jx (by decide),J6 (by rw[fw,hi2];lia),fw,hi2,show -1+((i+1:Nat):Int)=(i:Int) by lia]
 show (iV (nZ (l.take (i+1))))[((i:Nat):Int).toNat]?=_;rw[Kg];unfold iV nZ;rw[Lj,JA,NC (L_ i),Jr h,JF,Jr h];rfl
noncomputable def jX(K:W.Frag):Sp:=λvs H Q _=>∃(a b:Addr) (k:Bool) (ss:List Nat) (gs:List (Option Nat)) (ws:List Nat),vs=[.ref a,.ref b]/\H a=some (.lst (iV (nZ ss)))/\my K k H b (gQ gs ws)/\(∀H',KB [] H H'->my K k H' b (gQ gs ws))/\gs.length=ss.length/\ws.length=ss.length/\ss.length<=64/\(∀w∈ws,w<3)/\∀d H',H d=none->KB [] H H'->H' d=some (.lst (iV (nZ (iO 0 ss gs ws))))->Q (.ref d) H'
theorem vJ(T:Txt K mg)(F:HasFn K mg "row_starts" fu ["sizes","widths"])(hown_part:aq P w K mg base aP 1 "own_part" ["width"] CJ):aq P w K mg base aP 2 "row_starts" ["sizes","widths"] (jX K):=by
 refine F.eX cV (λvs H Q E h=>?_) (λf cdv A outer s H vs Q E hr h=>?_)
 ·obtain⟨a,b,k,ss,gs,ws,rfl,_⟩:=h;rfl
 ·have hu:=aK hr;obtain⟨a,b,k,ss,gs,ws,rfl,ha,hb,hbk,h1,h2,h3,h4,q⟩:=h;have hl:=jC ss gs ws 0 h1 h2;have hat:=rA ss gs ws 0;obtain⟨l0,e0⟩:=o6 0 ss gs ws;refine⟨_,(Z.ao (Z.se (i:=2) cV.nd (Z.lst (Z.cons Z.int Z.nil)))
   (Z.ao (Z.iy Ke rfl (wN K rfl rfl T.yz (Z.cons (Z.v 0) (Z.cons (Z.v 1) Z.nil))) (Z.ot (n:=2) K rfl rfl (Z.bP (Z.aY (i:=3) cV.nd rfl (by right)) (Z.bP (Z.aY (i:=4) cV.nd rfl (by right)) Z.hV))) (Z.ax (Z.expr (Z.app K (Z.v 2) (Z.cons (Z.op (Z.aC K rfl) (Z.op (Z.aC K rfl) (Z.ix (Z.aA K rfl hu) (Z.v 2) (Z.un dc Z.int)) (Z.v 3)) (Z.fc hown_part (Z.cons (Z.v 4) Z.nil))) Z.nil)))))
   (Z.ax (Z.ret (Z.v 2))))),?_⟩
  generalize lS:iO 0 ss gs ws=sp at *;refine au λN hN=>?_;walk_at "rz";refine⟨by decide,λfd hfd=>?_⟩
  have k1:=KB.new (ex:=[]) (o:=.lst [.int 0]) hfd;have s1:upd H fd (.lst [.int 0]) fd=some (.lst (iV (nZ (sp.take 1)))):=by rw[aa,e0];rfl
  generalize upd H fd (.lst [.int 0])=H1 at *;rw[hN];clear hN N;refine au λN hN=>?_;exists jW;refine⟨(true,a),(k,b),⟨rfl,rfl⟩,⟨_,bB.of (k1 _ _ ha (by simp))⟩,⟨_,hbk _ k1⟩,λn=>?_⟩
  refine m8 (xs:=iV (nZ ss)) (ys:=gQ gs ws) (by rw[fw,wD (by lia),h1]) (λi σ H'=>∃o3 o4:Option V,i<=ss.length/\KB [] H H'/\H' fd=some (.lst (iV (nZ (sp.take (i+1)))))/\σ=[some (.ref a),some (.ref b),some (.ref fd),o3,o4]) ⟨none,none,JL _,k1,s1,rfl⟩ (λi σ H' ⟨_,_,_,k,_⟩=>⟨bB.of (k _ _ ha (by simp)),hbk _ k⟩) ?_ ?_
  ·rintro i x y σ H' p hx hy ⟨o3,o4,hi,hk,gf,rfl⟩ hp;obtain⟨s0,es,rfl⟩:=A_ hx;have hlt:i<ss.length:=(Jv.mp es).1;have eg:=Jr (show i<gs.length by lia)
   have ew:=Jr (show i<ws.length by lia)
   have lw:=h4 _ (JM (show i<ws.length by lia))
   generalize gs[i]'_=g at eg;generalize ws[i]'_=w0 at ew lw;have en:=hat i s0 g w0 es eg ew;rw[nY eg ew] at hy;cases hy;unfold aZ;refine⟨p,_,rfl,bb.of aa,rfl,_,_,rfl,_,_,rfl,rfl,?_⟩;have k2:=hk.trans (KB.new (o:=.tup [.int (s0:Nat),vS g w0]) hp);have gf2:upd H' p (.tup [.int (s0:Nat),vS g w0]) fd=some (.lst (iV (nZ (sp.take (i+1))))):=by rw[ar (af gf hp)];exact gf
   generalize upd H' p (.tup [.int (s0:Nat),vS g w0])=H2 at *;have et:sp.take (i+1+1)=sp.take (i+1)++[sp.getD (i+1) 0]:=by
    rw[K0,JF,Jr (show i+1<sp.length by lia)];rfl
   have lst:=Bo (l:=sp) (i:=i) (by lia)
   dsimp only;refine qC λM hM=>?_;exists ay gf2,lst;refine⟨.inl ⟨rfl,_,bB.of gf2⟩,g,w0,rfl,lw,?_⟩;walk_at "rz";refine⟨fd,_,_,rfl,rfl,gf2,Nat.lt_of_le_of_lt (show _<=1000 by rw[fw,List.length_take];lia) (by decide),?_⟩
   rw[hM];refine⟨_,_,hlt,λu o e _=>by rw[ar (af e hfd)];exact k2 _ _ e (by simp),?_,rfl⟩
   rw[aa,et,en];unfold nZ;rw[JN,oa];rfl
  ·rintro σ H' ⟨o3,o4,hi,hk,gf,rfl⟩;show N _ _;rw[hN];clear hN N;walk_at "rz";rw[Kn (by rw[hl,fw];exact J7 _)] at gf
   exact q fd H' hfd hk gf
noncomputable def qK:Sp:=λvs H Q _=>∃(a b:Addr) (sp:List Nat) (gs:List (Option Nat)) (k t:Nat),vs=[.ref a,.ref b,.int (k:Nat)]/\H a=some (.lst (iV (nZ sp)))/\H b=some (.lst (gs.map bK))/\gs[k]?=some (some t)/\t<sp.length/\k+1<sp.length/\Q (.int (fC sp t k)) H
theorem Cr(T:Txt K mg)(F:HasFn K mg "distance_of" eF ["starts","goals","row"]):aq P w K mg base aP 1 "distance_of" ["starts","goals","row"] qK:=by
 refine F.eX lh (λvs H Q E h=>?_) (λf cdv A outer s H vs Q E hr h=>?_)
 ·obtain⟨a,b,sp,gs,k,t,rfl,_⟩:=h;rfl
 ·have hu:=aK hr;obtain⟨a,b,sp,gs,k,t,rfl,ha,hb,hg,ht,hk,q⟩:=h;refine⟨_,(Z.ax (Z.ret (Z.op cO (Z.ix (Z.aA K rfl hu) (Z.v 0) (Z.ix (Z.aA K rfl hu) (Z.v 1) (Z.v 2))) (Z.ix (Z.aA K rfl hu) (Z.v 0) (Z.op (Z.aC K rfl) (Z.v 2) Z.int))))),?_⟩;have ag:bX (gs.map bK) (k:Int)=some (.int (t:Nat)):=bt (by rw[JA,hg];rfl)
  have as1:=yF ht;have as2:bX (iV (nZ sp)) ((k:Int)+1)=some (.int ((sp.getD (k+1) 0:Nat):Int)):=yF hk;exists ay hb,ag,ay ha,as1,as2;exact q
noncomputable def wX:Sp:=λvs H Q _=>∃(a b c:Addr) (sp:List Nat) (gs:List (Option Nat)) (ws:List Nat) (k t w:Nat),vs=[.ref a,.ref b,.ref c,.int (k:Nat)]/\H a=some (.lst (iV (nZ sp)))/\H b=some (.lst (gs.map bK))/\H c=some (.lst (gQ gs ws))/\gs[k]?=some (some t)/\ws[k]?=some w/\w<3/\t<sp.length/\k+1<sp.length/\Q (.bl (Ah w (fC sp t k))) H
theorem BX(T:Txt K mg)(F:HasFn K mg "fits" rm ["starts","goals","widths","row"])(hdistance_of:aq P w K mg base aP 1 "distance_of" ["starts","goals","row"] qK):aq P w K mg base aP 2 "fits" ["starts","goals","widths","row"] wX:=by
 obtain⟨ah,hg_HALVES,kt_HALVES⟩:=T.pj;have hr_HALVES:RelV (.ref ah) (.ref ah):=rfl;refine F.eX su (λvs H Q E h=>?_) (λf cdv A outer s H vs Q E hr h=>?_)
 ·obtain⟨a,b,c,sp,gs,ws,k,t,w,rfl,_⟩:=h;rfl
 ·have hu:=aK hr;obtain⟨a,b,c,sp,gs,ws,k,t,w0,rfl,ha,hb,hc,hg,hw,lw,ht,hk,q⟩:=h;refine⟨_,(Z.ao (Z.se (i:=4) su.nd (Z.ix (Z.gI K rfl) (Z.glob rfl hg_HALVES hr_HALVES) (Z.ix (Z.aA K rfl hu) (Z.v 2) (Z.v 3))))
   (Z.ax (Z.ret (Z.chain (HB) (e8) (Z.un dc (Z.v 4)) (Z.fc hdistance_of (Z.cons (Z.v 0) (Z.cons (Z.v 1) (Z.cons (Z.v 3) Z.nil)))) (Z.v 4))))),?_⟩
  have aw:bX (gQ gs ws) (k:Int)=some (.int (w0:Nat)):=bt (nY hg hw);have ah':bX [V.int 8,.int 128,.int 32768] (w0:Int)=some (.int (bY w0)):=by rcases lY lw with rfl|rfl|rfl<;>rfl
  refine au λN hN=>?_;exists ay hc,aw;refine⟨ah,_,_,_,rfl,rfl,kt_HALVES H,ah',?_⟩;rw[hN];clear hN N;walk_at "rz";refine⟨a,b,sp,gs,k,t,rfl,ha,hb,hg,ht,hk,?_⟩;walk_at "rz";unfold Ah at q;by_cases c1:-bY w0<=fC sp t k
  ·rw[J6 c1];rw[JX c1,Ow] at q;exact q
  ·rw[Jx c1];rw[JV c1,M_] at q;exact q
noncomputable def kJ(sp:List Nat)(gs:List (Option Nat))(ws:List Nat)(k:Nat):Bool:=match gs[k]?,ws[k]? with
 |some (some t),some w=>!Ah w (fC sp t k)
 |_,_=>false
noncomputable def dA(ss:List Nat)(gs:List (Option Nat))(ws:List Nat):Option Nat:=(List.range' 0 gs.length).find? (kJ (iO 0 ss gs ws) gs ws)
noncomputable def tX(K:W.Frag):Sp:=λvs H Q _=>∃(a b c:Addr) (ss:List Nat) (gs:List (Option Nat)) (ws:List Nat),vs=[.ref a,.ref b,.ref c]/\H a=some (.lst (iV (nZ ss)))/\H b=some (.lst (gs.map bK))/\H c=some (.lst (gQ gs ws))/\gs.length=ss.length/\ws.length=ss.length/\ss.length<=64/\(∀t,some t∈gs->t<=ss.length)/\(∀w∈ws,w<3)/\∀H',KB [] H H'->Q (wq (dA ss gs ws)) H'
theorem xH(T:Txt K mg)(F:HasFn K mg "first_too_narrow" cq ["sizes","goals","widths"])(hrow_starts:aq P w K mg base aP 2 "row_starts" ["sizes","widths"] (jX K))(hfits:aq P w K mg base aP 2 "fits" ["starts","goals","widths","row"] wX):aq P w K mg base aP 3 "first_too_narrow" ["sizes","goals","widths"] (tX K):=by
 refine F.eX bI (λvs H Q E h=>?_) (λf cdv A outer s H vs Q E hr h=>?_)
 ·obtain⟨a,b,c,ss,gs,ws,rfl,_⟩:=h;rfl
 ·have hu:=aK hr;obtain⟨a,b,c,ss,gs,ws,rfl,ha,hb,hc,h1,h2,h3,h5,h4,q⟩:=h;refine⟨_,(Z.ao (Z.se (i:=3) bI.nd (Z.fc hrow_starts (Z.cons (Z.v 0) (Z.cons (Z.v 2) Z.nil))))
   (Z.ao (Z.iy Ke rfl (Z.ya K rfl rfl T.dZ (Z.cons (Z.v 1) Z.nil)) (Z.ot (n:=2) K rfl rfl (Z.bP (Z.aY (i:=4) bI.nd rfl (by right)) (Z.bP (Z.aY (i:=5) bI.nd rfl (by right)) Z.hV))) (Z.ax (Z.cJ (Z.tw (Z.uP (Z.aI gY (Z.v 5) Z.aG) (Z.mV (Z.zj (Z.qN K rfl (Z.fc hfits (Z.cons (Z.v 3) (Z.cons (Z.v 1) (Z.cons (Z.v 2) (Z.cons (Z.v 4) Z.nil)))))))))) (Z.ax (Z.ret (Z.v 4))) Z.b8)))
   (Z.ax (Z.ret Z.aG)))),?_⟩
  refine au λN hN=>?_;walk_at "rz";refine⟨a,c,true,ss,gs,ws,rfl,ha,bB.of hc,λH' k=>bB.of (k _ _ hc (by simp)),h1,h2,h3,h4,λd H1 hd k1 g1=>?_⟩
  rw[hN];clear hN N;have sl:=jC ss gs ws 0 h1 h2;unfold dA at q;generalize iO 0 ss gs ws=sp at *;refine au λN hN=>?_;walk_at "rz";refine⟨⟨_,bB.of (k1 _ _ hb (by simp))⟩,?_⟩
  refine lA (xs:=gs.map bK) (λi σ H'=>∃o4 o5:Option V,KB [] H H'/\H' d=some (.lst (iV (nZ sp)))/\i<=gs.length/\(List.range' i (gs.length-i)).find? (kJ sp gs ws)=(List.range' 0 gs.length).find? (kJ sp gs ws)/\σ=[some (.ref a),some (.ref b),some (.ref c),some (.ref d),o4,o5]) ⟨none,none,k1,g1,JL _,rfl,rfl⟩ (λi σ H' _ h=>by obtain⟨_,_,k,_⟩:=h;exact bB.of (k _ _ hb (by simp))) ?_ ?_
  ·rintro i x σ H' p hx ⟨o4,o5,hk,gd,hi,ef,rfl⟩ hp;have hlt:i<gs.length:=by have:=(Jv.mp hx).1;rw[Jt] at this;exact this
   have eg:=Jr hlt;have gm:=JM hlt;have ew:=Jr (show i<ws.length by lia)
   have lw:=h4 _ (JM (show i<ws.length by lia))
   generalize gs[i]'_=g at eg gm;generalize ws[i]'_=w0 at ew lw;rw[JA,eg] at hx;cases hx;rw[show gs.length-i=(gs.length-(i+1))+1 by lia,Ld,Li] at ef
   unfold aZ;refine⟨p,_,rfl,bb.of aa,rfl,_,_,rfl,_,_,rfl,rfl,?_⟩;have kz:=KB.new (ex:=[]) (o:=.tup [.int i,bK g]) hp;generalize upd H' p (.tup [.int i,bK g])=H2 at *;have hk2:=hk.trans kz;have gd2:=kz _ _ gd (by simp)
   dsimp only;refine qC λM hM=>?_;refine j0 λA B hA hB=>?_;walk_at "rz";have go:kJ sp gs ws i=false->∀G:Hp,KB [] H G->G d=some (.lst (iV (nZ sp)))->B [some (.ref a),some (.ref b),some (.ref c),some (.ref d),some (.int (i:Int)),some (bK g)] G:=λhf G kG gG=>by
    rw[hB];show M _ _;rw[hM];rw[hf] at ef;exact⟨_,_,kG,gG,hlt,ef,rfl⟩
   cases g with
   |none =>
    rw[Jx (show ¬ ¬ bK none=V.aG from λz=>z rfl)];exact go (by unfold kJ;rw[eg]) _ hk2 gd2
   |some t =>
    rw[J6 (show ¬ bK (some t)=V.aG from λz=>nomatch z)];have ht:t<=ss.length:=h5 t gm;refine⟨d,b,c,sp,gs,ws,i,t,w0,rfl,gd2,hk2 _ _ hb (by simp),hk2 _ _ hc (by simp),eg,ew,lw,by lia,by lia,?_⟩
    have et:kJ sp gs ws i=!Ah w0 (fC sp t i):=by unfold kJ;rw[eg,ew]
    refine⟨_,rfl,?_⟩
    cases co:Ah w0 (fC sp t i) with
    |true=>
     rw[Jx (by decide)]
     exact go (by rw[et,co];rfl) _ hk2 gd2
    |false =>
     rw[J6 rfl,hA];rw[et,co] at ef;have ef':some i=(List.range' 0 gs.length).find? (kJ sp gs ws):=ef;rw[<- ef'] at q;walk_at "rz";exact q _ hk2
  ·rintro σ H' ⟨o4,o5,hk,gd,hi,ef,rfl⟩;show N _ _;rw[hN];clear hN N;rw[Jt,Lb] at ef;have ef':none=(List.range' 0 gs.length).find? (kJ sp gs ws):=ef;rw[<- ef'] at q;walk_at "rz";exact q _ hk
noncomputable def pE:Sp:=λvs H Q _=>∃(b:Addr) (gs:List (Option Nat)),vs=[.ref b]/\H b=some (.lst (gs.map bK))/\gs.length<=64/\∀d H',H d=none->KB [] H H'->H' d=some (.lst (gQ gs (List.replicate gs.length 0)))->Q (.ref d) H'
theorem BY(gs:List (Option Nat)):gQ gs (List.replicate gs.length 0)=gs.map λg=>vS g 0:=by
 induction gs with
 |nil=>rfl
 |cons g gs ih=>rw[JD,Ki,JY,<- ih];rfl
theorem v9(T:Txt K mg)(F:HasFn K mg "narrowest" e7 ["goals"]):aq P w K mg base aP 1 "narrowest" ["goals"] pE:=by
 refine F.eX nu (λvs H Q E h=>?_) (λf cdv A outer s H vs Q E hr h=>?_)
 ·obtain⟨b,gs,rfl,_⟩:=h;rfl
 ·have hu:=aK hr;obtain⟨b,gs,rfl,hb,hl,q⟩:=h;refine⟨_,(Z.ax (Z.ret (Z.C4 (osc:=ae e7) (ON:=["goals"]) (own:=["goal"]) (N:=["goal","goals"]) (aF.of rfl (by decide +kernel)) (Z.any K rfl (Z.v 0)) (λnd _ _ _ _=>(Z.aY (i:=0) nd rfl (by right))) (λ_ _ _ _=>Z.wj) (λ_ _ _ _=>(Z.Dq (Z.aI cR (Z.v 0) Z.aG) Z.aG Z.int))))),?_⟩
  exists ay hb;refine gK (xs:=gs.map bK) (JC (show _<=64 by rw[Jt];exact hl) (by decide)) (λD i ys H'=>H D=none/\H' D=some (.lst ys)/\KB [] H H'/\ys=((gs.take i).map λg=>vS g 0)/\i<=gs.length) (λD hD=>⟨hD,aa,KB.new hD,rfl,JL _⟩) (λD i ys H' h=>⟨h.2.1,by rw[h.2.2.2.1,Jt,JK];have:=h.2.2.2.2;lia⟩) (λD i ys H' h=>bB.of (h.2.2.1 _ _ hb (by simp))) ?_ ?_
  ·rintro D i ys H' x R hx ⟨g0,g1,gk,rfl,hi⟩ kk;have hlt:i<gs.length:=by have:=(Jv.mp hx).1;rw[Jt] at this;exact this
   have eg:=Jr hlt;have et:gs.take (i+1)=gs.take i++[gs[i]]:=by rw[K0,eg];rfl
   rw[JA,eg] at hx;cases hx;have fin:R (vS gs[i] 0) H':=kk _ _ g1 ⟨g0,aa,λu o e _=>by rw[ar (af e g0)];exact gk _ _ e (by simp),by rw[et,JN];rfl,hlt⟩
   walk_at "rz"
   cases hg:gs[i] with
   |none=>rw[hg] at fin;rw[J6 (show bK none=V.aG from rfl)];exact fin
   |some t=>rw[hg] at fin;rw[Jx (show ¬ bK (some t)=V.aG from λz=>nomatch z)];exact fin
  ·rintro D ys H' ⟨g0,g1,gk,rfl,hi⟩;refine q D H' g0 gk ?_;rw[g1,Jt,Kl,BY]
noncomputable def yj(ss:List Nat)(gs:List (Option Nat)):Nat->List Nat->List Nat
 |0,ws=>ws
 |m+1,ws=>match dA ss gs ws with
  |none=>ws
  |some k=>yj ss gs m (ws.set k (ws.getD k 0+1))
noncomputable def zC(ss:List Nat)(gs:List (Option Nat)):List Nat:=yj ss gs (2*ss.length+1) (List.replicate ss.length 0)
theorem EL{gs:List (Option Nat)}{ws:List Nat}(hs:∀s∈ss,s<=150)(hn:ss.length<=64)(t k:Nat):Ah 2 (fC (iO 0 ss gs ws) t k)=true:=by
 have h3:=ye (gs:=gs) (ws:=ws) hs t;have h4:=ye (gs:=gs) (ws:=ws) hs (k+1);unfold Ah fC;rw[JX (show -bY 2<=_ by show -32768<=_;lia),JX (show _<bY 2 by show _<32768;lia)]
 rfl
theorem kU{ws:List Nat}{k:Nat}(hs:∀s∈ss,s<=150)(hn:ss.length<=64)(hl:ws.length=ss.length)(hg:gs.length=ss.length)(hw:∀w∈ws,w<3)(h:dA ss gs ws=some k):∃t w,gs[k]?=some (some t)/\ws[k]?=some w/\w<2:=by
 have h1:=List.find?_some h;have h2:=N7 h;unfold kJ at h1;have hk:k<gs.length:=by have:=List.mem_range'.mp h2;obtain⟨i,hi,e⟩:=this;lia
 have eg:=Jr hk;have ew:=Jr (show k<ws.length by lia)
 have lw:=hw _ (JM (show k<ws.length by lia))
 rw[eg,ew] at h1;generalize gs[k]'_=g at *;generalize ws[k]'_=w at *
 cases g with
 |none=>cases h1
 |some t =>
  refine⟨t,w,eg,ew,?_⟩;rcases K8 w 2 with c|c
  ·exact c
  ·have:w=2:=by lia
   subst this
   replace h1:(!Ah 2 (fC (iO 0 ss gs ws) t k))=true:=h1
   rw[EL hs hn t k] at h1;cases h1
theorem rX{ws:List Nat}(h:dA ss gs ws=none):Aq ss gs ws:=λk t w h1 h2=>by
 have hk:k<gs.length:=(Jv.mp h1).1;have:=List.find?_eq_none.mp h k (List.mem_range'.mpr ⟨k,hk,by lia⟩)
 unfold kJ at this;rw[h1,h2] at this
 simpa using this
theorem AS{l:List Nat}{k w:Nat}(h:l[k]?=some w):(l.set k (l.getD k 0+1)).sum=l.sum+1:=by
 induction l generalizing k with
 |nil=>cases h
 |cons x l ih =>
  cases k with
  |zero=>show ((x+1)::l).sum=_;rw[MC,MC];lia
  |succ k=>show (x::l.set k (l.getD k 0+1)).sum=_;rw[MC,MC,ih (by simpa using h)];lia
theorem EM{ws:List Nat}{k v:Nat}(h:gs[k]?=some (some t)):(gQ gs ws).set k (.int (v:Nat))=gQ gs (ws.set k v):=by
 induction gs generalizing ws k with
 |nil=>cases h
 |cons g gs ih =>
  cases ws with
  |nil=>rfl
  |cons w ws =>
   cases k with
   |zero=>cases h;rfl
   |succ k=>show vS g w::(gQ gs ws).set k _=vS g w::gQ gs (ws.set k v);rw[ih (by simpa using h)]
structure Wy (ss:List Nat) (gs:List (Option Nat)) (ws:List Nat):Prop where
 len:ws.length=ss.length
 lt:∀w∈ws,w<3
 to:yj ss gs (2*ss.length+1-ws.sum) ws=zC ss gs
theorem Wy.zero(ss:List Nat)(gs:List (Option Nat)):Wy ss gs (List.replicate ss.length 0):=⟨JJ ..,λw hw=>by rw[(K1.mp hw).2];decide,by rw[M8,O2];rfl⟩
theorem Wy.next{ws:List Nat}{k:Nat}(h:Wy ss gs ws)(hs:∀s∈ss,s<=150)(hn:ss.length<=64)(hg:gs.length=ss.length)(hf:dA ss gs ws=some k):Wy ss gs (ws.set k (ws.getD k 0+1))/\(ws.set k (ws.getD k 0+1)).sum=ws.sum+1/\ws.sum<2*ss.length:=by
 obtain⟨t,w,e1,e2,e3⟩:=kU hs hn h.len hg h.lt hf;have es:=AS e2;have eg:ws.getD k 0=w:=by rw[JF,e2];rfl
 have hlt:∀x∈ws.set k (ws.getD k 0+1),x<3:=λx hx=>by
  rcases Kw hx with z|z
  ·exact h.lt x z
  ·rw[z,eg];lia
 have hb:=j9 hlt;rw[Lh,h.len,es] at hb;refine⟨⟨by rw[Lh,h.len],hlt,?_⟩,es,by lia⟩
 rw[es,<- h.to,show 2*ss.length+1-ws.sum=(2*ss.length+1-(ws.sum+1))+1 by lia,yj,hf]
theorem Wy.done{ws:List Nat}(h:Wy ss gs ws)(hf:dA ss gs ws=none):zC ss gs=ws:=by
 rw[<- h.to];have hb:=j9 h.lt;rw[h.len] at hb;rw[show 2*ss.length+1-ws.sum=(2*ss.length-ws.sum)+1 by lia,yj,hf]
theorem Wy.fit(hs:∀s∈ss,s<=150)(hn:ss.length<=64)(hg:gs.length=ss.length):∀(m:Nat) (ws:List Nat),Wy ss gs ws->2*ss.length+1-ws.sum<=m->Wy ss gs (zC ss gs)/\Aq ss gs (zC ss gs)
 |0,ws,h,hm=>by
  have hb:=j9 h.lt;rw[h.len] at hb;lia
 |m+1,ws,h,hm=>by
  cases hf:dA ss gs ws with
  |none=>rw[h.done hf];exact⟨h,rX hf⟩
  |some k =>
   obtain⟨h1,h2,h3⟩:=h.next hs hn hg hf;exact Wy.fit hs hn hg m _ h1 (by lia)
theorem FX(hs:∀s∈ss,s<=150)(hn:ss.length<=64)(hg:gs.length=ss.length):(zC ss gs).length=ss.length/\(∀w∈zC ss gs,w<3)/\Aq ss gs (zC ss gs):=by
 obtain⟨h1,h2⟩:=Wy.fit hs hn hg _ _ (Wy.zero ss gs) (J7 _);exact⟨h1.len,h1.lt,h2⟩
noncomputable def qu(K:W.Frag):Sp:=λvs H Q _=>∃(a b:Addr) (ss:List Nat) (gs:List (Option Nat)),vs=[.ref a,.ref b]/\H a=some (.lst (iV (nZ ss)))/\H b=some (.lst (gs.map bK))/\gs.length=ss.length/\ss.length<=64/\(∀s∈ss,s<=150)/\(∀t,some t∈gs->t<=ss.length)/\∀t u v H',KB [] H H'->H' t=some (.tup [.ref u,v])->H' u=some (.tup (gQ gs (zC ss gs)))->Q (.ref t) H'
theorem vm(T:Txt K mg)(F:HasFn K mg "raised_till_good" cm ["sizes","goals"])(hnarrowest:aq P w K mg base aP 1 "narrowest" ["goals"] pE)(hfirst_too_narrow:aq P w K mg base aP 3 "first_too_narrow" ["sizes","goals","widths"] (tX K)):aq P w K mg base aP 4 "raised_till_good" ["sizes","goals"] (qu K):=by
 obtain⟨uW,hg_WIDEST,hr_WIDEST⟩:=T.zI;refine F.eX bp (λvs H Q E h=>?_) (λf cdv A outer s H vs Q E hr h=>?_)
 ·obtain⟨a,b,ss,gs,rfl,_⟩:=h;rfl
 ·have hu:=aK hr;obtain⟨a,b,ss,gs,rfl,ha,hb,hg,hn,hs,ht,q⟩:=h;refine⟨_,(Z.ao (Z.se (i:=2) bp.nd (Z.fc hnarrowest (Z.cons (Z.v 1) Z.nil)))
   (Z.ao (Z.se (i:=3) bp.nd (Z.lst Z.nil))
   (Z.ao (Z.se (i:=4) bp.nd (Z.fc hfirst_too_narrow (Z.cons (Z.v 0) (Z.cons (Z.v 1) (Z.cons (Z.v 2) Z.nil)))))
   (Z.ao (Z.rg Ke (Z.aI gY (Z.v 4) Z.aG) (Z.ao (Z.cJ (Z.aI bj (Z.ix (Z.aA K rfl hu) (Z.v 2) (Z.v 4)) (Z.glob rfl hg_WIDEST hr_WIDEST)) (Z.ax Z.HW) Z.b8)
   (Z.ao (Z.asg (Z.op (Z.aC K rfl) (Z.ix (Z.aA K rfl hu) (Z.v 2) (Z.v 4)) Z.int) (Z.vg (Z.v 2) (Z.v 4)))
   (Z.ao (Z.expr (Z.app K (Z.v 3) (Z.cons (Z.v 4) Z.nil)))
   (Z.ax (Z.se (i:=4) bp.nd (Z.fc hfirst_too_narrow (Z.cons (Z.v 0) (Z.cons (Z.v 1) (Z.cons (Z.v 2) Z.nil))))))))))
   (Z.ax (Z.ret (Z.tup (Z.cons (Z.ct (Z.dh K rfl) rfl T.dj (by decide +kernel) (Z.cons (Z.v 2) Z.nil)) (Z.cons (Z.ct (Z.dh K rfl) rfl T.dj (by decide +kernel) (Z.cons (Z.v 3) Z.nil)) Z.nil))))))))),?_⟩
  refine au λN hN=>?_;walk_at "rz";refine⟨b,gs,rfl,hb,by lia,λd H1 hd k1 g1=>?_⟩
  rw[hg] at g1;rw[hN];clear hN N;refine au λN hN=>?_;walk_at "rz";refine⟨JL _,λpp hpp=>?_⟩;have k2:=KB.new (ex:=[]) (o:=.lst []) hpp;have s2:upd H1 pp (.lst []) pp=some (.lst (iV (nZ []))):=aa;generalize upd H1 pp (.lst [])=H2 at *;have g2:=k2 _ _ g1 (by simp)
  have k02:=k1.trans k2;have hppH:H pp=none:=k1.free (by simp) hpp
  have dpp:d≠pp:=λz=>by rw[z,hpp] at g1;cases g1
  rw[hN];clear hN N;refine au λN hN=>?_;walk_at "rz";have wy0:=Wy.zero ss gs;refine⟨a,b,d,ss,gs,_,rfl,k02 _ _ ha (by simp),k02 _ _ hb (by simp),g2,hg,wy0.len,hn,ht,wy0.lt,λH3 k3=>?_⟩
  rw[hN];clear hN N;have k03:=k02.trans k3;have g3:=k3 _ _ g2 (by simp)
  have s3:=k3 _ _ s2 (by simp)
  refine au λN hN=>?_;refine⟨λm σ H'=>∃(ws pa:List Nat),m=2*ss.length-ws.sum/\Wy ss gs ws/\pa.length=ws.sum/\KB [] H H'/\H' d=some (.lst (gQ gs ws))/\H' pp=some (.lst (iV (nZ pa)))/\σ=[some (.ref a),some (.ref b),some (.ref d),some (.ref pp),some (wq (dA ss gs ws))],⟨2*ss.length,_,[],by rw[M8,O2];rfl,wy0,by rw[M8,O2];rfl,k03,g3,s3,rfl⟩,?_⟩
  rintro m σ H' ⟨ws,pa,rfl,wy,hpa,hk,gd,gp,rfl⟩;walk_at "rz"
  cases hf:dA ss gs ws with
  |none =>
   rw[Jx (show ¬ ¬ wq none=V.aG from λz=>z rfl)];show N _ _;rw[hN];clear hN N;rw[wy.done hf] at q;exists ay gd;intro u hu';have k5:=KB.new (ex:=[]) (o:=.tup (gQ gs ws)) hu';have s5:upd H' u (.tup (gQ gs ws)) u=_:=aa;have gp5:=k5 _ _ gp (by simp)
   generalize upd H' u (.tup (gQ gs ws))=H5 at *;exists ay gp5;intro u2 hu2;have k6:=KB.new (ex:=[]) (o:=.tup (iV (nZ pa))) hu2;have s6:=k6 _ _ s5 (by simp)
   generalize upd H5 u2 (.tup (iV (nZ pa)))=H6 at *;refine⟨by decide,λt ht=>?_⟩
   have k7:=KB.new (ex:=[]) (o:=.tup [.ref u,.ref u2]) ht;exact q t u _ _ (hk.trans (k5.trans (k6.trans k7))) aa (k7 _ _ s6 (by simp))
  |some k =>
   rw[J6 (show ¬ wq (some k)=V.aG from λz=>nomatch z)];obtain⟨t,w0,e1,e2,e3⟩:=kU hs hn wy.len hg wy.lt hf;obtain⟨wn,ws1,ws2⟩:=wy.next hs hn hg hf;refine⟨λσ' H'=>∃m',m'<2*ss.length-ws.sum/\∃(ws pa:List Nat),m'=2*ss.length-ws.sum/\Wy ss gs ws/\pa.length=ws.sum/\KB [] H H'/\H' d=some (.lst (gQ gs ws))/\H' pp=some (.lst (iV (nZ pa)))/\σ'=[some (.ref a),some (.ref b),some (.ref d),some (.ref pp),some (wq (dA ss gs ws))],λ_ _ h=>h,?_⟩;have aw:bX (gQ gs ws) (k:Int)=some (.int (w0:Nat)):=bt (nY e1 e2);have eg:ws.getD k 0=w0:=by rw[JF,e2];rfl
   rw[eg] at wn ws1;show Ak K (V.ref d) (.int (k:Nat)) H' _;exists ay gd,aw;have c2:¬ (w0:Int)=2:=by lia
   have c3:lJ (gQ gs ws).length (k:Int)=some k:=by
    have hkl:=(Jv.mp e2).1;have:=wy.len;rw[wD (by lia)]
    unfold lJ;rw[J6 (by lia),J6 (by lia),Kg]
   rw[Jx c2];show Ak K (V.ref d) (.int (k:Nat)) H' _;exists ay gd,aw;show xE (V.ref d) (.int (k:Nat)) (.int ((w0:Int)+1)) H' _;exists gd,c3;rw[show ((w0:Int)+1)=((w0+1:Nat):Int) from rfl,EM e1];have hdd:H d=none:=hd;have kd:KB [] H (upd H' d (.lst (gQ gs (ws.set k (w0+1))))):=λu o e z=>by rw[ar (af e hdd)];exact hk _ _ e z
   have gd5:upd H' d (.lst (gQ gs (ws.set k (w0+1)))) d=_:=aa;have gp5:upd H' d (.lst (gQ gs (ws.set k (w0+1)))) pp=some (.lst (iV (nZ pa))):=by rw[ar dpp.symm];exact gp
   generalize upd H' d (.lst (gQ gs (ws.set k (w0+1))))=H5 at *;refine⟨.inl ⟨rfl,_,bB.of gp5⟩,pp,_,_,rfl,rfl,gp5,Kt (show _<=1000 by rw[fw,hpa];lia) (by decide),?_⟩
   have kp:KB [] H (upd H5 pp (.lst (iV (nZ pa)++[wq (some k)]))):=λu o e z=>by rw[ar (af e hppH)];exact kd _ _ e z
   have gd6:upd H5 pp (.lst (iV (nZ pa)++[wq (some k)])) d=some (.lst (gQ gs (ws.set k (w0+1)))):=by rw[ar dpp];exact gd5
   have gp6:upd H5 pp (.lst (iV (nZ pa)++[wq (some k)])) pp=some (.lst (iV (nZ (pa++[k])))):=by rw[aa];unfold nZ;rw[JN,oa];rfl
   generalize upd H5 pp (.lst (iV (nZ pa)++[wq (some k)]))=H6 at *;refine⟨a,b,d,ss,gs,_,rfl,kp _ _ ha (by simp),kp _ _ hb (by simp),gd6,hg,wn.len,hn,ht,wn.lt,λH7 k7=>?_⟩
   exact⟨2*ss.length-(ws.sum+1),by lia,ws.set k (w0+1),pa++[k],by rw[ws1],wn,by rw[Ju,ws1,hpa];rfl,kp.trans k7,k7 _ _ gd6 (by simp),k7 _ _ gp6 (by simp),rfl⟩
noncomputable def oW(K:W.Frag):Sp:=λvs H Q _=>∃(a b:Addr) (ss:List Nat) (gs:List (Option Nat)),vs=[.ref a,.ref b]/\H a=some (.lst (iV (nZ ss)))/\H b=some (.lst (gs.map bK))/\gs.length=ss.length/\ss.length<=64/\(∀s∈ss,s<=150)/\(∀t,some t∈gs->t<=ss.length)/\∀u H',KB [] H H'->H' u=some (.tup (gQ gs (zC ss gs)))->Q (.ref u) H'
theorem uX(T:Txt K mg)(F:HasFn K mg "least_widths" d6 ["sizes","goals"])(hraised_till_good:aq P w K mg base aP 4 "raised_till_good" ["sizes","goals"] (qu K)):aq P w K mg base aP 5 "least_widths" ["sizes","goals"] (oW K):=by
 refine F.eX jy (λvs H Q E h=>?_) (λf cdv A outer s H vs Q E hr h=>?_)
 ·obtain⟨a,b,ss,gs,rfl,_⟩:=h;rfl
 ·have hu:=aK hr;obtain⟨a,b,ss,gs,rfl,ha,hb,hg,hn,hs,ht,q⟩:=h;refine⟨_,(Z.ax (Z.ret (Z.ix (Z.aA K rfl hu) (Z.fc hraised_till_good (Z.cons (Z.v 0) (Z.cons (Z.v 1) Z.nil))) Z.int))),?_⟩;walk_at "rz";refine⟨a,b,ss,gs,rfl,ha,hb,hg,hn,hs,ht,λt u v H' k h1 h2=>?_⟩;exists aH h1,nO;exact q u H' k h2
noncomputable def pF:gu->Option Int
 |.jump g=>some g
 |.zero _ g=>some g
 |_=>none
noncomputable def gU(r:gu):V:=match pF r with
 |some g=>.int g
 |none=>.aG
noncomputable def gj:Sp:=λvs H Q _=>∃(p:Addr) (r:gu),vs=[.ref p]/\H p=some (.tup r.vs)/\Q (gU r) H
theorem wK(T:Txt K mg)(F:HasFn K mg "goal_of" iB ["row"]):aq P w K mg base aP 1 "goal_of" ["row"] gj:=by
 obtain⟨dS,hg_SHAPES,hd0⟩:=T.lP;have hd_SHAPES:jL K dS bG:=hd0;refine F.eX qU (λvs H Q E h=>?_) (λf cdv A outer s H vs Q E hr h=>?_)
 ·obtain⟨p,r,rfl,_⟩:=h;rfl
 ·have hu:=aK hr;obtain⟨p,r,rfl,hp,q⟩:=h;refine⟨_,(Z.ax (Z.ret (Z.Dq (Z.aI (Z.Hd K rfl) Z.str (Z.Ib K rfl rfl hg_SHAPES hd_SHAPES (Z.ix (Z.aA K rfl hu) (Z.v 0) Z.int))) (Z.ix (Z.aA K rfl hu) (Z.v 0) (Z.un dc Z.int)) Z.aG))),?_⟩;have sp:=aH hp;have kt1:∀{pk:Addr} {xs:List V},GH K pk xs->bB K H pk xs\/bb K H pk xs:=λh=>.inr (.inr h);obtain⟨w,ws,e0,ed,ef,h⟩:∃(w:Str) (ws:List Str),bX r.vs 0=some (.str w)/\KTD.datumAt w bG=some ws/\(ws.map V.str).all b_=true/\(qd (.str "goal") (ws.map V.str)=true/\bX r.vs (-1)=some (gU r)\/qd (.str "goal") (ws.map V.str)=false/\gU r=.aG):=by
   cases r with
   |jump g=>exact⟨_,_,rfl,(by decide +kernel:KTD.datumAt ("jump":Str) bG=some [("goal":Str)]),rfl,.inl ⟨by decide +kernel,rfl⟩⟩
   |zero b g=>exact⟨_,_,rfl,(by decide +kernel:KTD.datumAt ("zero":Str) bG=some [("box":Str),"goal"]),rfl,.inl ⟨by decide +kernel,rfl⟩⟩
   |put b n=>exact⟨_,_,rfl,(by decide +kernel:KTD.datumAt ("put":Str) bG=some [("box":Str),"number"]),rfl,.inr ⟨by decide +kernel,rfl⟩⟩
   |two u b c=>exact⟨_,_,rfl,(by decide +kernel:∀u:_root_.Fin 3,KTD.datumAt (w2 u) bG=some [("box":Str),"box"]) u,rfl,.inr ⟨by decide +kernel,rfl⟩⟩
   |one u b=>exact⟨_,_,rfl,(by decide +kernel:∀u:_root_.Fin 2,KTD.datumAt (w1 u) bG=some [("box":Str)]) u,rfl,.inr ⟨by decide +kernel,rfl⟩⟩
   |halt=>exact⟨_,_,rfl,(by decide +kernel:KTD.datumAt ("halt":Str) bG=some ([]:List Str)),rfl,.inr ⟨by decide +kernel,rfl⟩⟩
  exists sp,e0;refine⟨_,_,rfl,ed,λpk kt=>⟨pk,_,rfl,kt1 kt,rfl,ef,?_⟩⟩;refine⟨_,rfl,?_⟩;rcases h with ⟨h1,h2⟩|⟨h1,h2⟩
  ·rw[Jx JE,h1,J6 rfl];simp only[sp,h2];exact q
  ·rw[Jx JE,h1,Jx JE];rw[h2] at q;exact q
theorem zU{B:mR}(l:List Int):cG K H B (iV l) (l.map T.int):=by
 induction l with
 |nil=>exact .nil
 |cons x l ih=>exact .cons (.int x) ih
theorem B4(x:Int):Y.CV (.int x) (.int x)=true:=by unfold Y.CV;exact JX rfl
theorem uk(n:Nat)(x:Int):lR n (.int x) (.int x) true:=by
 have:=lR.flat (n:=n) (t:=.int x) (u:=.int x) rfl rfl
 rwa [B4] at this
theorem nJ(n:Nat)(x:Str):lR n (.str x) (.str x) true:=by
 have:=lR.flat (n:=n) (t:=.str x) (u:=.str x) rfl rfl
 rwa [show Y.CV (.str x) (.str x)=true from by unfold Y.CV;exact JX rfl] at this
theorem all_true(n:Nat):oA n n (λ_=>true)=true:=ja rfl λ_ _=>rfl
theorem qc(n:Nat)(l:List Int):lR (n+1) (.tup (l.map T.int)) (.tup (l.map T.int)) true:=by
 have:=lR.tup (n:=n) (xs:=l.map T.int) (ys:=l.map T.int) (λ_=>true) λj x y h1 h2=>by
  rw[h1] at h2;cases h2;rw[JA] at h1;obtain⟨k,_,rfl⟩:=JR.mp h1;exact uk n k
 rwa [all_true] at this
noncomputable def no:mR:=λ_=>False
theorem i8{neg:Bool}{vs ws:List V}{xs:List T}(ha:H a=some (.tup vs))(hb:H b=some (.tup ws))(r1:cG K H no vs xs)(r2:cG K H no ws xs)(he:∀x∈xs,lR 4 x x true)(q:Q (.bl (!neg)) H):Y.yy K 4 neg (.ref a) (.ref b) H Q:=by
 refine⟨no,a,b,vs,ws,xs,xs,λ_=>true,rfl,rfl,.inl ⟨bb.of ha,bb.of hb⟩,r1,r2,λj x y h1 h2=>?_,?_⟩
 ·rw[h1] at h2;cases h2;exact he x (K2 h1)
 ·rw[all_true]
  cases neg<;>exact q
theorem j3{p:Addr}{l:List Int}(h:H p=some (.tup (iV l))):Rep K H no (.ref p) (.tup (l.map T.int)):=.tup (λz=>z) h (zU l)
theorem tm{lo hi:Option Int}(h:H a=some (.tup xs))(q1:d5 xs lo hi=xs->Q (.ref a) H)(q2:∀p,H p=none->Q (.ref p) (upd H p (.tup (d5 xs lo hi)))):Y.Bt K (.ref a) lo hi H Q:=by
 by_cases z:HT.bD xs.length 0 lo=0/\HT.bD xs.length xs.length hi=xs.length
 ·exact .inr (.inr ⟨a,xs,rfl,bb.of h,z.1,z.2,q1 (by unfold d5;rw[z.1,z.2,LX,KA,Kl])⟩)
 ·exact .inr (.inl ⟨a,xs,rfl,bb.of h,z,q2⟩)
theorem pG(xs:List V)(n:Nat):d5 xs none (some (n:Int))=xs.take n:=by
 unfold d5;rw[HT.dH,HT.fo,KA,LX];rcases Nat.le_total n xs.length with c|c
 ·rw[MT c]
 ·rw[Nat.min_eq_right c,Kl,Kn c]
theorem pC(xs:List V)(v:V):bX (xs++[v]) (-1)=some v:=by
 have hl:(xs++[v]).length=xs.length+1:=by rw[Ju];rfl
 unfold bX lJ;rw[Jx (by decide),hl,J6 (by lia),show (-1+((xs.length+1:Nat):Int)).toNat=xs.length by lia]
 show (xs++[v])[xs.length]?=_;rw[JO (J7 _),Lb];rfl
noncomputable def wk(cd:List (List (List Nat)))(rs:List Row):List V:=rs.map λr=>.str (wd (b7 cd r))
theorem AM(r:Row):r.vs=(r.m (((az r).getD 0:Nat):Int)).vs:=by cases r<;>rfl
theorem sj(r:Row):gU (r.m (((az r).getD 0:Nat):Int))=bK (az r):=by cases r<;>rfl
noncomputable def qI(bk:List (List Int))(rs:List Row):List Nat:=zC (jw (gw bk) rs) (rs.map az)
noncomputable def mf(bk:List (List Int))(rs:List Row):List Nat:=iO 0 (jw (gw bk) rs) (rs.map az) (qI bk rs)
noncomputable def cS(bk:List (List Int))(rs:List Row):List Nat:=nE (gw bk) (mf bk rs) 0 rs (qI bk rs)
theorem so{bk:List (List Int)}{rs:List Row}(hB:Bk bk)(h2:rs.length<=64)(h3:∀r∈rs,r.Ok rs.length):Laid (gw bk) rs (qI bk rs) (mf bk rs) (cS bk rs):=by
 have sl:(jw (gw bk) rs).length=rs.length:=Jt ..;have gl:(rs.map az).length=rs.length:=Jt ..;obtain⟨l1,l2,l3⟩:=FX (ss:=jw (gw bk) rs) (gs:=rs.map az) (λs hs=>by
  obtain⟨r,hr,rfl⟩:=J_.mp hs;have:=fT hB.cd (h3 r hr)
  lia) (by rw[sl];exact h2) (by rw[gl,sl])
 exact⟨(Ac hB).1,by unfold qI;rw[l1,sl],h2,h3,l2,rfl,l3,rfl⟩
theorem BS(xs:List V):d5 xs none (some (-1))=xs.dropLast:=by
 unfold d5;rw[HT.dH,KA,LX,Oo];congr 1;unfold HT.bD;simp only[show ((-1:Int)<0)=True from eq_true (by decide),LU]
 lia
noncomputable def gX:Sp:=λvs H Q _=>∃(a b:Addr) (bk:List (List Int)) (rs:List Row),vs=[.ref a,.ref b]/\gO H a rs/\uQ H b bk/\Bk bk/\rs.length<=64/\(∀r∈rs,r.Ok rs.length)/\∀t u H',KB [] H H'->H' t=some (.tup [.str (wd (cS bk rs)),.ref u])->H' u=some (.tup (iV (nZ (mf bk rs)).dropLast))->Q (.ref t) H'
theorem BU(T:Txt K mg)(F:HasFn K mg "pack_rows" cA ["program","book"])(hcodes_of:aq P w K mg base aP 6 "codes_of" ["book"] (n8 K))(hbits_ahead_of_goal:aq P w K mg base aP 3 "bits_ahead_of_goal" ["row","codes"] (sO K))(hgoal_of:aq P w K mg base aP 1 "goal_of" ["row"] gj)(hleast_widths:aq P w K mg base aP 5 "least_widths" ["sizes","goals"] (oW K))(hrow_starts:aq P w K mg base aP 2 "row_starts" ["sizes","widths"] (jX K))(hjump_written:aq P w K mg base aP 2 "jump_written" ["width","distance"] sG)(hdistance_of:aq P w K mg base aP 1 "distance_of" ["starts","goals","row"] qK):aq P w K mg base aP 7 "pack_rows" ["program","book"] gX:=by
 refine F.eX bc (λvs H Q E h=>?_) (λf cdv A outer s H vs Q E hr h=>?_)
 ·obtain⟨a,b,bk,rs,rfl,_⟩:=h;rfl
 ·have hu:=aK hr;obtain⟨a,b,bk,rs,rfl,hp,hb,hB,h2,h3,q⟩:=h;have hC:=hB.cd;have L:=so hB h2 h3;unfold cS at q L;have ew:qI bk rs=zC (jw (gw bk) rs) (rs.map az):=rfl;have es:mf bk rs=iO 0 (jw (gw bk) rs) (rs.map az) (qI bk rs):=rfl;refine⟨_,(Z.ao (Z.se (i:=2) bc.nd (Z.fc hcodes_of (Z.cons (Z.v 1) Z.nil)))
   (Z.ao (Z.sec (j:=3) bc.nd (osc:=ae cA) (ON:=["program","book","codes","firsts","sizes","goals","widths","starts","bits","row","first"]) (own:=["row"]) (N:=["row","program","book","codes","firsts","sizes","goals","widths","starts","bits",".row","first"]) (aF.of rfl (by decide +kernel)) (Z.any K rfl (Z.v 0)) (λnd _ _ _ _=>(Z.aY (i:=0) nd rfl (by right))) (λ_ _ _ _=>Z.wj) (λ_ _ _ _=>(Z.fc hbits_ahead_of_goal (Z.cons (Z.v 0) (Z.cons (Z.v 3) Z.nil)))))
   (Z.ao (Z.sec (j:=4) bc.nd (osc:=ae cA) (ON:=["program","book","codes","firsts","sizes","goals","widths","starts","bits","row","first"]) (own:=["first"]) (N:=["first","program","book","codes","firsts","sizes","goals","widths","starts","bits","row",".first"]) (aF.of rfl (by decide +kernel)) (Z.any K rfl (Z.v 3)) (λnd _ _ _ _=>(Z.aY (i:=0) nd rfl (by right))) (λ_ _ _ _=>Z.wj) (λ_ _ _ _=>(Z.cb (Z.cH K rfl) rfl T.cy (by decide +kernel) (Z.cons (Z.v 0) Z.nil))))
   (Z.ao (Z.sec (j:=5) bc.nd (osc:=ae cA) (ON:=["program","book","codes","firsts","sizes","goals","widths","starts","bits","row","first"]) (own:=["row"]) (N:=["row","program","book","codes","firsts","sizes","goals","widths","starts","bits",".row","first"]) (aF.of rfl (by decide +kernel)) (Z.any K rfl (Z.v 0)) (λnd _ _ _ _=>(Z.aY (i:=0) nd rfl (by right))) (λ_ _ _ _=>Z.wj) (λ_ _ _ _=>(Z.fc hgoal_of (Z.cons (Z.v 0) Z.nil))))
   (Z.ao (Z.se (i:=6) bc.nd (Z.fc hleast_widths (Z.cons (Z.v 4) (Z.cons (Z.v 5) Z.nil))))
   (Z.ao (Z.se (i:=7) bc.nd (Z.fc hrow_starts (Z.cons (Z.v 4) (Z.cons (Z.v 6) Z.nil))))
   (Z.ao (Z.se (i:=8) bc.nd (Z.lst Z.nil))
   (Z.ao (Z.iy Ke rfl (Z.ya K rfl rfl T.dZ (Z.cons (Z.v 3) Z.nil)) (Z.ot (n:=2) K rfl rfl (Z.bP (Z.aY (i:=9) bc.nd rfl (by right)) (Z.bP (Z.aY (i:=10) bc.nd rfl (by right)) Z.hV))) (Z.ao (Z.expr (Z.app K (Z.v 8) (Z.cons (Z.v 10) Z.nil)))
   (Z.ax (Z.cJ (Z.aI gY (Z.ix (Z.aA K rfl hu) (Z.v 5) (Z.v 9)) Z.aG) (Z.ax (Z.expr (Z.app K (Z.v 8) (Z.cons (Z.fc hjump_written (Z.cons (Z.ix (Z.aA K rfl hu) (Z.v 6) (Z.v 9)) (Z.cons (Z.fc hdistance_of (Z.cons (Z.v 7) (Z.cons (Z.v 5) (Z.cons (Z.v 9) Z.nil)))) Z.nil))) Z.nil)))) Z.b8))))
   (Z.ax (Z.ret (Z.tup (Z.cons (Z.bm K rfl PySem.F.plainAttrs_str PySem.F.slot_str_join PySem.F.type_str_join (Z.yc K rfl) Z.str (Z.cons (Z.v 8) Z.nil)) (Z.cons (Z.ct (Z.dh K rfl) rfl T.dj (by decide +kernel) (Z.cons (Z.slice (Z.E8 K rfl) (Z.v 7) Z.rR (Z.oH (Z.un dc Z.int))) Z.nil)) Z.nil))))))))))))),?_⟩
  refine au λN hN=>?_;walk_at "rz";refine⟨b,bk,rfl,hb,hB,λca H1 hca k1 cdl=>?_⟩;rw[hN];clear hN N;generalize gw bk=cd at *;generalize qI bk rs=ws at *;generalize mf bk rs=sp at *;have hp1:=hp.kb k1;refine au λN hN=>?_;obtain⟨ps,hps,hpa⟩:=hp1;have hpl:=hpa.1;exists aH hps;refine dw (xs:=ps.map V.ref) (JC (show _<=64 by rw[Jt];lia) (by decide)) (λD i ys H'=>H1 D=none/\H' D=some (.lst ys)/\KB [] H1 H'/\ys=wk cd (rs.take i)/\i<=rs.length) (λD hD=>⟨hD,aa,KB.new hD,rfl,JL _⟩) (λD i ys H' h=>⟨h.2.1,by rw[h.2.2.2.1,wk,Jt,JK];have:=h.2.2.2.2;lia⟩) (λD i ys H' h=>bb.of (h.2.2.1 _ _ hps (by simp))) ?_ ?_
  ·rintro D i ys H' x R hx ⟨g0,g1,gk,rfl,hi⟩ kk;obtain⟨u,eu,rfl⟩:∃u,ps[i]?=some u/\x=.ref u:=by
    rw[JA] at hx;obtain⟨u,e,rfl⟩:=JR.mp hx;exact⟨u,e,rfl⟩
   have hlt:i<rs.length:=by have:=(Jv.mp eu).1;lia
   have er:=Jr hlt;have et:rs.take (i+1)=rs.take i++[rs[i]]:=by rw[K0,er];rfl
   walk_at "rz";refine⟨u,ca,rs[i],rs.length,cd,rfl,gk _ _ (hpa.2 i u _ eu er) (by simp),h3 _ (JM hlt),cdl.kb gk,hC,λH5 k5=>?_⟩
   exact kk _ _ (k5 _ _ g1 (by simp)) ⟨g0,aa,λu o e _=>by rw[ar (af e g0)];exact k5 _ _ (gk _ _ e (by simp)) (by simp),by rw[et];unfold wk;rw[JN];rfl,hlt⟩
  rintro pl ys H2 ⟨_,gp,k2,rfl,_⟩;rw[Jt,hpl,Kl] at gp;show N _ _;rw[hN];clear hN N;have k02:=k1.trans k2;clear cdl hps hpa hpl k2 k1 hca;refine au λN hN=>?_;exists ay gp;refine gK (xs:=wk cd rs) (JC (show _<=64 by rw[wk,Jt];exact h2) (by decide)) (λD i ys H'=>H2 D=none/\H' D=some (.lst ys)/\KB [] H2 H'/\ys=iV (nZ (jw cd (rs.take i)))/\i<=rs.length) (λD hD=>⟨hD,aa,KB.new hD,rfl,JL _⟩) (λD i ys H' h=>⟨h.2.1,by rw[h.2.2.2.1,fw,jw,Jt,JK];have:=h.2.2.2.2;lia⟩) (λD i ys H' h=>bB.of (h.2.2.1 _ _ gp (by simp))) ?_ ?_
  ·rintro D i ys H' x R hx ⟨g0,g1,gk,rfl,hi⟩ kk;have hlt:i<rs.length:=by have:=(Jv.mp hx).1;rw[wk,Jt] at this;exact this
   have er:=Jr hlt;have et:rs.take (i+1)=rs.take i++[rs[i]]:=by rw[K0,er];rfl
   have ex:x=.str (wd (b7 cd rs[i])):=by
    unfold wk at hx;rw[JA,er] at hx;exact (Option.some.inj hx).symm
   subst ex;have h136:=fT hC (h3 _ (JM hlt));exists bw;exact⟨JC h136 (by decide),kk _ _ g1 ⟨g0,aa,λu o e _=>by rw[ar (af e g0)];exact gk _ _ e (by simp),by rw[et];unfold jw nZ iV;rw[JN,JN,JN];rfl,hlt⟩⟩
  rintro sa ys H3 ⟨_,gsz,k3,rfl,_⟩;rw[show (wk cd rs).length=rs.length from Jt ..,Kl] at gsz;show N _ _;rw[hN];clear hN N;have k03:=k02.trans k3;have gp3:=k3 _ _ gp (by simp)
  refine au λN hN=>?_;obtain⟨ps,hps,hpa⟩:=hp.kb k03;have hpl:=hpa.1;exists aH hps;refine dw (xs:=ps.map V.ref) (JC (show _<=64 by rw[Jt];lia) (by decide)) (λD i ys H'=>H3 D=none/\H' D=some (.lst ys)/\KB [] H3 H'/\ys=((rs.take i).map az).map bK/\i<=rs.length) (λD hD=>⟨hD,aa,KB.new hD,rfl,JL _⟩) (λD i ys H' h=>⟨h.2.1,by rw[h.2.2.2.1,Jt,Jt,JK];have:=h.2.2.2.2;lia⟩) (λD i ys H' h=>bb.of (h.2.2.1 _ _ hps (by simp))) ?_ ?_
  ·rintro D i ys H' x R hx ⟨g0,g1,gk,rfl,hi⟩ kk;obtain⟨u,eu,rfl⟩:∃u,ps[i]?=some u/\x=.ref u:=by
    rw[JA] at hx;obtain⟨u,e,rfl⟩:=JR.mp hx;exact⟨u,e,rfl⟩
   have hlt:i<rs.length:=by have:=(Jv.mp eu).1;lia
   have er:=Jr hlt;have et:rs.take (i+1)=rs.take i++[rs[i]]:=by rw[K0,er];rfl
   have hu':=gk _ _ (hpa.2 i u _ eu er) (by simp)
   rw[AM] at hu';walk_at "rz";refine⟨u,_,rfl,hu',?_⟩;rw[sj];exact kk _ _ g1 ⟨g0,aa,λu o e _=>by rw[ar (af e g0)];exact gk _ _ e (by simp),by rw[et,JN,JN];rfl,hlt⟩
  rintro ga ys H4 ⟨_,gg,k4,rfl,_⟩;rw[Jt,hpl,Kl] at gg;show N _ _;rw[hN];clear hN N;clear hps hpa hpl;have k04:=k03.trans k4;have gp4:=k4 _ _ gp3 (by simp)
  have gsz4:=k4 _ _ gsz (by simp)
  have CY:(jw cd rs).length=rs.length:=Jt ..;have gl1:(rs.map az).length=rs.length:=Jt ..;have sb:∀s∈jw cd rs,s<=150:=λs hs=>by
   obtain⟨r,hr',rfl⟩:=J_.mp hs;have:=fT hC (h3 r hr');lia
  have gb:∀t,some t∈rs.map az->t<=(jw cd rs).length:=λt ht=>by
   obtain⟨r,hr',e⟩:=J_.mp ht;rw[CY];exact fY (h3 r hr') e
  clear gp gp3 gsz k02 k03 k3 k4;refine au λN hN=>?_;walk_at "rz";refine⟨sa,ga,jw cd rs,rs.map az,rfl,gsz4,gg,by rw[gl1,CY],by rw[CY];exact h2,sb,gb,λwa H5 k5 g5=>?_⟩
  rw[<- ew] at g5;rw[hN];clear hN N;have wl:=L.len;have wt:=L.lt;refine au λN hN=>?_;walk_at "rz";refine⟨sa,wa,false,jw cd rs,rs.map az,ws,rfl,k5 _ _ gsz4 (by simp),bb.of g5,λH' k=>bb.of (k _ _ g5 (by simp)),by rw[gl1,CY],by rw[wl,CY],by rw[CY];exact h2,wt,λpa H6 _ k6 g6=>?_⟩
  rw[<- es] at g6;rw[hN];clear hN N;have spl:=L.sl;have k56:=k5.trans k6;have k06:=k04.trans k56;have gp6:=k56 _ _ gp4 (by simp)
  have gg6:=k56 _ _ gg (by simp)
  have gw6:=k6 _ _ g5 (by simp)
  clear k56 gp4 gg g5 k5 k6 gsz4 k04 sb gb;refine au λN hN=>?_;walk_at "rz";refine⟨JL _,λbl hbl=>?_⟩;have k7:=KB.new (ex:=[]) (o:=.lst []) hbl;have s7:upd H6 bl (.lst []) bl=some (.lst []):=aa;generalize upd H6 bl (.lst [])=H7 at *;have hblH:H bl=none:=k06.free (by simp) hbl
  rw[hN];clear hN N;refine au λN hN=>?_;walk_at "rz";have gp7:=k7 _ _ gp6 (by simp)
  refine⟨⟨_,bB.of gp7⟩,?_⟩;have keepB:∀{G:Hp} {o:HO},KB [] H6 G->KB [] H6 (upd G bl o):=λk u o' e z=>by rw[ar (af e hbl)];exact k u o' e z
  refine lA (xs:=wk cd rs) (λi σ H'=>∃(acc:List (List Nat)) (o9 o10:Option V),i<=rs.length/\KB [] H6 H'/\H' bl=some (.lst ((acc.map wd).map V.str))/\acc.flatten++nE cd sp i (rs.drop i) (ws.drop i)=nE cd sp 0 rs ws/\acc.length<=2*i/\acc.flatten.length<=200*i/\σ=[some (.ref a),some (.ref b),some (.ref ca),some (.ref pl),some (.ref sa),some (.ref ga),some (.ref wa),some (.ref pa),some (.ref bl),o9,o10]) ⟨[],none,none,JL _,k7,s7,rfl,JL _,JL _,rfl⟩ (λi σ H' _ h=>by obtain⟨_,_,_,_,k,_⟩:=h;exact bB.of (k _ _ gp6 (by simp))) ?_ ?_
  ·rintro i x σ H' p hx ⟨acc,o9,o10,hi,hk,gb,ex,hx1,hx2,rfl⟩ hp';have hlt:i<rs.length:=by have:=(Jv.mp hx).1;rw[wk,Jt] at this;exact this
   have er:=Jr hlt;have ewi:=Jr (show i<ws.length by lia)
   have lw:=wt _ (JM (show i<ws.length by lia))
   have okr:=h3 _ (JM hlt);rw[KI hlt,KI (show i<ws.length by lia),nE] at ex
   unfold wk at hx;rw[JA,er] at hx;generalize rs[i]'_=r at *;generalize ws[i]'_=w0 at *;cases hx;have h136:=fT hC okr;have ag:bX ((rs.map az).map bK) (i:Int)=some (bK (az r)):=bt (by rw[JA,JA,er];rfl)
   unfold aZ;refine⟨p,_,rfl,bb.of aa,rfl,_,_,rfl,_,_,rfl,rfl,?_⟩;have kz:=KB.new (ex:=[]) (o:=.tup [.int i,.str (wd (b7 cd r))]) hp';generalize upd H' p (.tup [.int i,.str (wd (b7 cd r))])=G1 at *;have hk1:=hk.trans kz;have gb1:=kz _ _ gb (by simp)
   dsimp only;refine au λM hM=>?_;walk_at "rz";refine⟨.inl ⟨rfl,_,bB.of gb1⟩,bl,_,_,rfl,rfl,gb1,Nat.lt_of_le_of_lt (show _<=1000 by rw[List.length_map,List.length_map];lia) (by decide),?_⟩
   have gb2:upd G1 bl (.lst ((acc.map wd).map V.str++[.str (wd (b7 cd r))])) bl=some (.lst (((acc++[b7 cd r]).map wd).map V.str)):=by rw[aa,JN,JN];rfl
   have hk2:=keepB (o:=.lst ((acc.map wd).map V.str++[.str (wd (b7 cd r))])) hk1;generalize upd G1 bl (.lst ((acc.map wd).map V.str++[.str (wd (b7 cd r))]))=G2 at *;rw[hM];clear hM M;dsimp only;refine qC λM hM=>?_;refine j0 λA B hA hB'=>?_;exists ay (hk2 _ _ gg6 (by simp)),ag
   have f1:(acc++[b7 cd r]).flatten=acc.flatten++b7 cd r:=by simp
   cases eg:az r with
   |none =>
    rw[Jx (show ¬ ¬ bK none=V.aG from λz=>z rfl),hB'];show M _ _;rw[hM];refine⟨acc++[b7 cd r],_,_,hlt,hk2,gb2,?_,by rw[Ju];simp;lia,by rw[f1,Ju];lia,rfl⟩
    rw[<- ex,eg,f1];simp[BV]
   |some g =>
    rw[eg] at ag;rw[J6 (show ¬ bK (some g)=V.aG from λz=>nomatch z),hA];clear hA hB';have hg:g<=rs.length:=fY okr eg;have egs:(rs.map az)[i]?=some (some g):=by rw[JA,er];exact Kk some eg
    have aw:bX (gQ (rs.map az) ws) (i:Int)=some (.int (w0:Nat)):=bt (nY egs ewi);exists aH (hk2 _ _ gw6 (by simp)),aw
    refine⟨.inl ⟨rfl,_,bB.of gb2⟩,pa,ga,sp,rs.map az,i,g,rfl,hk2 _ _ g6 (by simp),hk2 _ _ gg6 (by simp),egs,by lia,by lia,w0,fC sp g i,rfl,lw,?_⟩
    refine⟨bl,_,_,rfl,rfl,gb2,Kt (show _<=1000 by rw[Jt,Jt,Ju];simp;lia) (by decide),?_⟩
    rw[hM];have jl:=sM lw (fC sp g i);have f2:(acc++[b7 cd r]++[cX w0 (fC sp g i)]).flatten=acc.flatten++b7 cd r++cX w0 (fC sp g i):=by simp
    have jl2:HS w0<=18:=by rcases lY lw with rfl|rfl|rfl<;>decide
    refine⟨acc++[b7 cd r]++[cX w0 (fC sp g i)],_,_,hlt,keepB hk2,by rw[aa];simp only[JN,JY,LS],?_,by rw[Ju,Ju];simp;lia,by rw[f2,Ju,Ju,jl];lia,rfl⟩
    rw[<- ex,eg,f2];simp[BV]
  ·rintro σ H' ⟨acc,o9,o10,hi,hk,gb,ex,hx1,hx2,rfl⟩;show N _ _;rw[hN];clear hN N;rw[show (wk cd rs).length=rs.length from Jt ..] at *;rw[Mh] at ex;have ex':acc.flatten=nE cd sp 0 rs ws:=by rw[<- ex];unfold nE;exact (Kq _).symm
   walk_at "rz";have e2:((acc.map wd).map λx=>x.length).sum=acc.flatten.length:=by
    rw[List.length_flatten,Lj];rfl
   refine⟨rfl,_,bl,_,rfl,rfl,bB.of gb,?_,?_⟩
   ·rw[e2,show (Str.ofString "").length=0 from by decide +kernel];lia
   rw[nW,ex'];exists ay (hk _ _ g6 (by simp))
   rw[BS];intro q1 hq1 l2 hl2;have k8:=KB.new (ex:=[]) (o:=.lst (iV (nZ sp)).dropLast) hq1;generalize upd H' q1 (.lst (iV (nZ sp)).dropLast)=G1 at *;have k9:=KB.new (ex:=[]) (o:=.tup (iV (nZ sp)).dropLast) hl2;have s9:upd G1 l2 (.tup (iV (nZ sp)).dropLast) l2=_:=aa;generalize upd G1 l2 (.tup (iV (nZ sp)).dropLast)=G2 at *;refine⟨by decide,λt ht=>?_⟩
   have k10:=KB.new (ex:=[]) (o:=.tup [.str (wd (nE cd sp 0 rs ws)),.ref l2]) ht;refine q t l2 _ (k06.trans (hk.trans (k8.trans (k9.trans k10)))) aa ?_;rw[k10 _ _ s9 (by simp)]
   unfold iV;rw[List.map_dropLast]
theorem zG{cd:List (List (List Nat))}(h:∀ws∈cd,∀w∈ws,d8 w)(sp:List Nat):∀(rs:List Row) (ws:List Nat) (k:Nat),d8 (nE cd sp k rs ws)
 |[],_,_=>λc hc=>by unfold nE at hc;cases hc
 |_::_,[],_=>λc hc=>by unfold nE at hc;cases hc
 |r::rs,w::ws,k=>by
  rw[nE];refine d8.app (d8.app (xD h r) ?_) (zG h sp rs ws (k+1))
  cases az r with
  |none=>exactλc hc=>by cases hc
  |some t =>
   refine d8.app ?_ (gS _ _ _ λc hc=>by cases hc)
   match w with
   |0=>exactλc hc=>.inl (JG.mp hc)
   |1=>exactλc hc=>by simp[cQ] at hc;exact hc.symm
   |_+2=>exactλc hc=>by simp[cQ] at hc;exact .inr hc
theorem xT(xs:List V)(v:V):d5 (xs++[v]) none (some (-1))=xs:=by
 unfold d5;rw[HT.dH,KA,LX];have:HT.bD (xs++[v]).length (xs++[v]).length (some (-1))=xs.length:=by
  unfold HT.bD;simp only[show ((-1:Int)<0)=True from eq_true (by decide),LU,Ju,JD,Ks]
  lia
 rw[this,My]
noncomputable def qO:Sp:=λvs H Q _=>∃(a:Addr) (xs:List V) (v:V) (g:Int),vs=[.ref a,.int g]/\H a=some (.tup (xs++[v]))/\xs≠[]/\xs.length<=2/\∀p H',KB [] H H'->H' p=some (.tup (xs++[.int g]))->Q (.ref p) H'
theorem B7(T:Txt K mg)(F:HasFn K mg "with_goal" fU ["row","goal"]):aq P w K mg base aP 1 "with_goal" ["row","goal"] qO:=by
 refine F.eX nU (λvs H Q E h=>?_) (λf cdv A outer s H vs Q E hr h=>?_)
 ·obtain⟨a,xs,v,g,rfl,_⟩:=h;rfl
 ·have hu:=aK hr;obtain⟨a,xs,v,g,rfl,ha,hne,hl,q⟩:=h;refine⟨_,(Z.ax (Z.ret (Z.op (Z.aC K rfl) (Z.slice (Z.E8 K rfl) (Z.v 0) Z.rR (Z.oH (Z.un dc Z.int))) (Z.tup (Z.cons (Z.v 1) Z.nil))))),?_⟩;exists aH ha;refine⟨a,_,rfl,bb.of ha,λz=>?_,λp hp=>?_⟩
  ·have h1:=z.2;have:HT.bD (xs++[v]).length (xs++[v]).length (some (-1))=xs.length:=by
    unfold HT.bD;simp only[show ((-1:Int)<0)=True from eq_true (by decide),LU,Ju,JD,Ks]
    lia
   rw[this,Ju] at h1;simp at h1
  rw[xT];have k1:=KB.new (ex:=[]) (o:=.tup xs) hp;have s1:upd H p (.tup xs) p=_:=aa;generalize upd H p (.tup xs)=H1 at *;refine⟨by decide,λp2 hp2=>?_⟩
  have k2:=KB.new (ex:=[]) (o:=.tup [.int g]) hp2;have s2:upd H1 p2 (.tup [.int g]) p2=_:=aa;have s12:=k2 _ _ s1 (by simp)
  generalize upd H1 p2 (.tup [.int g])=H2 at *;simp only[L2.Ap.addRef,s12,s2];refine⟨hne,by simp,JC (show _<=3 by simp;lia) (by decide),λp3 hp3=>?_⟩
  exact q _ _ (k1.trans (k2.trans (KB.new hp3))) aa
theorem B9(r:Row)(g:Int):gU (r.m g)=(match az r with|none=>V.aG|some _=>.int g):=by cases r<;>rfl
theorem Ez{r:Row}(g:Int)(h:az r=none):(r.m g).vs=r.vs:=by cases r<;>first|rfl|cases h
theorem Eb{r:Row}(g:Int)(h:az r=some t):∃xs:List V,xs≠[]/\xs.length<=2/\(r.m g).vs=xs++[.int g]/\r.vs=xs++[.int (t:Nat)]:=by
 cases r with
 |jump _=>cases h;exact⟨[.str "jump"],by simp,by simp,rfl,rfl⟩
 |zero b _=>cases h;exact⟨[.str "zero",.str (dQ b)],by simp,by simp,rfl,rfl⟩
 |put=>cases h
 |two=>cases h
 |one=>cases h
 |halt=>cases h
noncomputable def xv:Sp:=λvs H Q _=>∃(a d:Addr) (st:V) (r:Row) (g:Int) (kvs:List (Key×V)),vs=[.ref a,st,.ref d]/\H a=some (.tup (r.m g).vs)/\H d=some (.dK kvs)/\(∀t,az r=some t->fB kvs (.inl g)=some (.int (t:Nat)))/\∀p H',KB [] H H'->H' p=some (.tup r.vs)->Q (.ref p) H'
theorem B5(T:Txt K mg)(F:HasFn K mg "goal_numbered" cZ ["row","start","numbers"])(hgoal_of:aq P w K mg base aP 1 "goal_of" ["row"] gj)(hwith_goal:aq P w K mg base aP 1 "with_goal" ["row","goal"] qO):aq P w K mg base aP 2 "goal_numbered" ["row","start","numbers"] xv:=by
 refine F.eX eW (λvs H Q E h=>?_) (λf cdv A outer s H vs Q E hr h=>?_)
 ·obtain⟨a,d,st,r,g,kvs,rfl,_⟩:=h;rfl
 ·have hu:=aK hr;obtain⟨a,d,st,r,g,kvs,rfl,ha,hd,hv,q⟩:=h;refine⟨_,(Z.ao (Z.se (i:=3) eW.nd (Z.fc hgoal_of (Z.cons (Z.v 0) Z.nil)))
   (Z.ao (Z.cJ (Z.aI cR (Z.v 3) Z.aG) (Z.ax (Z.ret (Z.v 0))) Z.b8)
   (Z.ao (Z.cJ (Z.aI (Y.zf hu) (Z.v 3) (Z.v 2)) (Z.ax Z.HW) Z.b8)
   (Z.ax (Z.ret (Z.fc hwith_goal (Z.cons (Z.v 0) (Z.cons (Z.Io hu (Z.v 2) (Z.v 3)) Z.nil)))))))),?_⟩
  refine au λN hN=>?_;walk_at "rz";refine⟨a,_,rfl,ha,?_⟩;rw[hN];clear hN N;rw[B9]
  cases c:az r with
  |none =>
   refine au λN hN=>?_;walk_at "rz";exact q _ _ (KB.refl _ _) (by rw[ha,Ez g c])
  |some t =>
   refine au λN hN=>?_;exists Jx (show ¬ V.int g=V.aG from V.noConfusion);rw[hN];clear hN N;have hv1:=hv t c;have dg:ma H d (.int g) (some (.int (t:Nat))):=by
    have:=ma.k (k:=.inl g) hd;rw[hv1] at this;exact this
   refine au λN hN=>?_;walk_at "rz";refine⟨d,_,rfl,dg,?_⟩;walk_at "rz";rw[hN];clear hN N;walk_at "rz";refine⟨d,_,rfl,dg,?_⟩;obtain⟨xs,x1,x2,x3,x4⟩:=Eb g c;rw[x3] at ha;exact⟨a,xs,_,_,rfl,ha,x1,x2,λp H' k e=>q p H' k (by rw[e,x4])⟩
theorem oJ(hn:xs.length<=sizeLine)(Pv:Addr->Nat->List V->Hp->Prop)(h0:∀D,H D=none->Pv D 0 [] (upd H D (.lst [])))(hD:∀D i ys H',Pv D i ys H'->H' D=some (.lst ys)/\ys.length=i)
  (hl:∀D i ys H',Pv D i ys H'->bB K H' a xs)
  (hs:∀D i ys H' x p (R:VK),xs[i]?=some x->Pv D i ys H'->H' p=none->(∀v H5,H5 D=some (.lst ys)->Pv D (i+1) (ys++[v]) (upd H5 D (.lst (ys++[v])))->R v H5)->te (some (.int i)::some x::σ) (upd H' p (.tup [.int i,x])) R) (hd:∀D ys H',Pv D xs.length ys H'->Q (.ref D) H') :
  mS (wA K a) 2 (og K 2 (eV (aZ 0) (eV (aZ 1) n5))) f9 te Q σ H:=by
 intro D hD0;refine⟨λi m ys σ' H'=>m=xs.length-i/\i<=xs.length/\Pv D i ys H'/\∃o1 o2,σ'=o1::o2::σ,⟨xs.length,by simp,JL _,h0 D hD0,none,none,rfl⟩,?_⟩
 rintro i m ys σ' H' ⟨rfl,hi,p,o1,o2,rfl⟩;obtain⟨hDi,hly⟩:=hD _ _ _ _ p;have q:=hl _ _ _ _ p;refine⟨hDi,?_⟩;by_cases hlt:i<xs.length
 ·refine .inr ⟨⟨xs[i],xs,q,by simp[hlt]⟩,by lia,λx H2 y=>?_⟩
  obtain⟨c,y,hy,fr,rfl,rfl⟩:=y;refine Hh ?_;unfold f9;dsimp only;rw[if_pos rfl];exact hs D i ys H' y c _ (hy xs q) p fr λv H5 q1 q2=>⟨q1,xs.length-(i+1),by lia,rfl,hlt,q2,_,_,rfl⟩
 ·have e:i=xs.length:=by lia
  subst e;exact .inl ⟨⟨xs,q,rfl⟩,hd D ys H' p⟩
theorem rh{n:Nat}(hn:xs.length<=sizeLine)(hyx:xs.length<=ys.length)(Pv:Addr->Nat->List V->Hp->Prop)(h0:∀D,H D=none->Pv D 0 [] (upd H D (.lst [])))(hD:∀D i ws H',Pv D i ws H'->H' D=some (.lst ws)/\ws.length=i)
  (hl:∀D i ws H',Pv D i ws H'->bB K H' a xs/\bB K H' b ys)
  (hs:∀D i ws H' x y p (R:VK),xs[i]?=some x->ys[i]?=some y->Pv D i ws H'->H' p=none->(∀v H5,H5 D=some (.lst ws)->Pv D (i+1) (ws++[v]) (upd H5 D (.lst (ws++[v])))->R v H5)->te (some x::some y::σ) (upd H' p (.tup [x,y])) R) (hd:∀D ws H',Pv D (xs.length) ws H'->Q (.ref D) H') :
  mS (Fy K (gx n [(true,a),(true,b)])) 2 (og K 2 (eV (aZ 0) (eV (aZ 1) n5))) f9 te Q σ H:=by
 intro D hD0;refine⟨λi m ws σ' H'=>m=xs.length-i/\i<=xs.length/\Pv D i ws H'/\∃o1 o2,σ'=o1::o2::σ,⟨xs.length,by simp,JL _,h0 D hD0,none,none,rfl⟩,?_⟩
 rintro i m ws σ' H' ⟨rfl,hi,p,o1,o2,rfl⟩;obtain⟨hDi,hly⟩:=hD _ _ _ _ p;obtain⟨q1,q2⟩:=hl _ _ _ _ p;have q1':my K true H' a xs:=q1;have q2':my K true H' b ys:=q2;refine⟨hDi,?_⟩;by_cases hlt:i<xs.length
 ·have hl1:i<ys.length:=by lia
  refine .inr ⟨⟨[xs[i],ys[i]],.cons ⟨xs,q1',by simp[hlt]⟩ (.cons ⟨ys,q2',by simp[hl1]⟩ .nil)⟩,by lia,λx H2 z=>?_⟩
  obtain⟨c,vs,pr,fr,rfl,rfl⟩:=z;obtain⟨y1,vs,rfl,e1,pr⟩:=Paired.gz pr;obtain⟨y2,vs,rfl,e2,pr⟩:=Paired.gz pr;cases pr;refine Hh ?_;unfold f9;dsimp only;rw[if_pos rfl];exact hs D i ws H' y1 y2 c _ (e1 xs q1') (e2 ys q2') p fr λv H5 q1 q2=>⟨q1,xs.length-(i+1),by lia,rfl,hlt,q2,_,_,rfl⟩
 ·have e:i=xs.length:=by lia
  subst e;exact .inl ⟨⟨[],(true,n,a),_,[],rfl,.nil,xs,q1',rfl⟩,hd D ws H' p⟩
noncomputable def qT(sp:List Nat)(r:Row):Int:=match az r with|none=>0|some t=>(sp.getD t 0:Nat)
theorem Gy(sp:List Nat)(k:Nat)(r:Row):r.m (((sp.getD (k+1) 0:Nat):Int)+Bl sp k r)=r.m (qT sp r):=by
 unfold Bl qT fC
 cases r<;>first|rfl | (show _=_;dsimp only[az];congr 1;lia)
noncomputable def PM(sp:List Nat)(H:Hp)(as:List Addr)(rs:List Row):Prop:=as.length=rs.length/\∀(i:Nat) (q:Addr) (r:Row),as[i]?=some q->rs[i]?=some r->H q=some (.tup (r.m (qT sp r)).vs)
theorem PM.snoc{rs:List Row}{r:Row}(h:PM sp H as rs)(e:H q=some (.tup (r.m (qT sp r)).vs)):PM sp H (as++[q]) (rs++[r]):=by
 refine⟨by rw[Ju,Ju,h.1];rfl,λi q' r' e1 e2=>?_⟩
 rcases K8 i as.length with hi|hi
 ·rw[JU hi] at e1;rw[JU (by rw[<- h.1];exact hi)] at e2
  exact h.2 i q' r' e1 e2
 ·have h1:=h.1;rw[JO hi] at e1;rw[JO (by lia),<- h1] at e2
  obtain⟨hj,rfl⟩:=Jv.mp e1;obtain⟨hj2,rfl⟩:=Jv.mp e2;have:i-as.length=0:=by simp at hj;lia
  simp only[this,LP];exact e
theorem PM.keep{rs:List Row}(h:PM sp H as rs)(k:KB ex H H')(hx:NT ex H):PM sp H' as rs:=⟨h.1,λi q r e1 e2=>k _ _ (h.2 i q r e1 e2) λz=>hx q z _ (h.2 i q r e1 e2)⟩
noncomputable def v_(sp:List Nat):List (Key×V):=(List.range sp.length).map λi=>(.inl (sp.getD i 0:Int),.int (i:Nat))
theorem uh(f:α->Int)(g:α->V):∀(l:List α) (x:α),x∈l->(∀y∈l,f y=f x->y=x)->fB (l.map λy=>((.inl (f y):Key),g y)) (.inl (f x))=some (g x)
 |[],_,h,_=>nomatch h
 |y::l,x,h,u=>by
  by_cases e:f y=f x
  ·have:=u y J9 e;subst this;exact gZ rfl
  ·rw[JY,ik (λz=>e (Sum.inl.inj z))];rcases J5.mp h with rfl|h
   ·exact absurd rfl e
   ·exact uh f g l x h λz hz=>u z (J8 _ hz)
section
variable {cd:List (List (List Nat))} {rs:List Row} {ws sp z:List Nat}
theorem Laid.ne(L:Laid cd rs ws sp z){j:Nat}(hi:i<=rs.length)(hj:j<=rs.length)(h:sp.getD i 0=sp.getD j 0):i=j:=by
 rcases Nz i j with c|c|c
 ·have:=L.mono i (j-i-1) (by lia)
  rw[show i+(j-i-1)+1=j by lia] at this
  lia
 ·exact c
 ·have:=L.mono j (i-j-1) (by lia)
  rw[show j+(i-j-1)+1=i by lia] at this
  lia
theorem Laid.kv(L:Laid cd rs ws sp z)(h:t<=rs.length):fB (v_ sp) (.inl (sp.getD t 0:Int))=some (.int (t:Nat)):=by
 have sl:=L.sl;refine uh (λi=>((sp.getD i 0:Nat):Int)) (λi=>V.int (i:Nat)) (List.range sp.length) t (K9.mpr (by lia)) λy hy e=>?_
 have:=K9.mp hy;have e':((sp.getD y 0:Nat):Int)=((sp.getD t 0:Nat):Int):=e;exact L.ne (by lia) h (by lia)
theorem Laid.merge(L:Laid cd rs ws sp z):fP [] (v_ sp)=v_ sp:=by
 rw[Y.nc _ [] ?_,KH];rw[KH];unfold v_;rw[Lj];have sl:=L.sl;refine M4.mpr (Mq (λ{i j} hi hj hne e=>?_) (List.nodup_range (n:=sp.length)));have h1:=K9.mp hi;have h2:=K9.mp hj;have e':((sp.getD i 0:Nat):Int)=((sp.getD j 0:Nat):Int):=Sum.inl.inj e;exact hne (L.ne (by lia) (by lia) (by lia))
theorem Laid.rd(L:Laid cd rs ws sp z){k:Nat}(hk:k<rs.length):∃x,Cu cd z (sp.getD k 0)=some x/\x.2=sp.getD (k+1) 0/\EF x=rs[k].m (qT sp rs[k]):=by
 obtain⟨w0,_,lw,e1,e2,aN⟩:=L.row hk;obtain⟨x,h1,h2,h3⟩:=Dd (z:=z) (p:=sp.getD k 0) L.hR (L.ok _ (JM hk)) aN (by rw[(L.at k (by lia)).1,e2];exact Mw _ _)
 refine⟨x,h1,by lia,?_⟩
 rw[h3,show x.2=sp.getD (k+1) 0 by lia,Gy]
end
theorem sU{k:Nat}(h:k<sp.length):sp.take (k+1)=sp.take k++[sp.getD k 0]:=by
 rw[K0,Jr h,JF,Jr h];rfl
theorem sQ(l:List Nat)(x:Nat):iV (nZ (l++[x]))=iV (nZ l)++[.int (x:Nat)]:=by
 unfold nZ;rw[JN,oa];rfl
noncomputable def ow:Sp:=λvs H Q _=>∃(b:Addr) (bk:List (List Int)) (rs:List Row) (ws sp z:List Nat),vs=[.str (wd z),.ref b]/\uQ H b bk/\Bk bk/\Laid (gw bk) rs ws sp z/\d8 z/\∀t H',KB [] H H'->gO H' t rs->Q (.ref t) H'
theorem y0(T:Txt K mg)(F:HasFn K mg "read_rows" cY ["bits","book"])(hcodes_of:aq P w K mg base aP 6 "codes_of" ["book"] (n8 K))(hrow_at:aq P w K mg base aP 5 "row_at" ["codes","bits","place"] (uy K))(hgoal_numbered:aq P w K mg base aP 2 "goal_numbered" ["row","start","numbers"] xv):aq P w K mg base aP 7 "read_rows" ["bits","book"] ow:=by
 refine F.eX bW (λvs H Q E h=>?_) (λf cdv A outer s H vs Q E hr h=>?_)
 ·obtain⟨b,bk,rs,ws,sp,z,rfl,_⟩:=h;rfl
 ·have hu:=aK hr;obtain⟨b,bk,rs,ws,sp,z,rfl,hb,hB,L,hz,q⟩:=h;have hzl:=L.Jd;have sl:=L.sl;have rl:=L.le;refine⟨_,(Z.ao (Z.se (i:=2) bW.nd (Z.fc hcodes_of (Z.cons (Z.v 1) Z.nil)))
   (Z.ao (Z.se (i:=3) bW.nd (Z.lst Z.nil))
   (Z.ao (Z.se (i:=4) bW.nd (Z.lst (Z.cons Z.int Z.nil)))
   (Z.ao (Z.rg Ke (Z.aI e8 (Z.ix (Z.aA K rfl hu) (Z.v 4) (Z.un dc Z.int)) (Z.cb (Z.cH K rfl) rfl T.cy (by decide +kernel) (Z.cons (Z.v 0) Z.nil))) (Z.ao (Z.se (i:=5) bW.nd (Z.fc hrow_at (Z.cons (Z.v 2) (Z.cons (Z.v 0) (Z.cons (Z.ix (Z.aA K rfl hu) (Z.v 4) (Z.un dc Z.int)) Z.nil)))))
   (Z.ao (Z.cJ (Z.aI cR (Z.v 5) Z.aG) (Z.ax Z.HW) Z.b8)
   (Z.ao (Z.expr (Z.app K (Z.v 3) (Z.cons (Z.ix (Z.aA K rfl hu) (Z.v 5) Z.int) Z.nil)))
   (Z.ax (Z.expr (Z.app K (Z.v 4) (Z.cons (Z.ix (Z.aA K rfl hu) (Z.v 5) Z.int) Z.nil))))))))
   (Z.ao (Z.se (i:=6) bW.nd (Z.ct (pe K rfl) rfl T.Dw (by decide +kernel) (Z.cons (Z.C4 (osc:=ae cY) (ON:=["bits","book","codes","rows","starts","found","numbers"]) (own:=["number","start"]) (N:=["number","start","bits","book","codes","rows","starts","found","numbers"]) (aF.of rfl (by decide +kernel)) (Z.ya K rfl rfl T.dZ (Z.cons (Z.v 4) Z.nil)) (λnd _ _ _ _=>(Z.ot (n:=2) K rfl rfl (Z.bP (Z.aY (i:=0) nd rfl (by right)) (Z.bP (Z.aY (i:=1) nd rfl (by right)) Z.hV)))) (λ_ _ _ _=>Z.wj) (λ_ _ _ _=>(Z.tup (Z.cons (Z.v 1) (Z.cons (Z.v 0) Z.nil))))) Z.nil)))
   (Z.ax (Z.ret (Z.ct (Z.dh K rfl) rfl T.dj (by decide +kernel) (Z.cons (Z.C4 (osc:=ae cY) (ON:=["bits","book","codes","rows","starts","found","numbers"]) (own:=["row","start"]) (N:=["row","start","bits","book","codes","rows","starts","found","numbers"]) (aF.of rfl (by decide +kernel)) (wN K rfl rfl T.yz (Z.cons (Z.v 3) (Z.cons (Z.v 4) Z.nil))) (λnd _ _ _ _=>(Z.ot (n:=2) K rfl rfl (Z.bP (Z.aY (i:=0) nd rfl (by right)) (Z.bP (Z.aY (i:=1) nd rfl (by right)) Z.hV)))) (λ_ _ _ _=>Z.wj) (λ_ _ _ _=>(Z.fc hgoal_numbered (Z.cons (Z.v 0) (Z.cons (Z.v 1) (Z.cons (Z.v 8) Z.nil)))))) Z.nil))))))))),?_⟩
  refine au λN hN=>?_;walk_at "rz";refine⟨b,bk,rfl,hb,hB,λca H1 hca k1 cdl=>?_⟩;rw[hN];clear hN N;generalize gw bk=cd at *;refine au λN hN=>?_;walk_at "rz";refine⟨JL _,λra hra=>?_⟩;have k2:=KB.new (ex:=[]) (o:=.lst []) hra;have s2:upd H1 ra (.lst []) ra=some (.lst []):=aa;generalize upd H1 ra (.lst [])=H2 at *;rw[hN];clear hN N;refine au λN hN=>?_;walk_at "rz";refine⟨by decide,λsa hsa=>?_⟩
  have k3:=KB.new (ex:=[]) (o:=.lst [.int 0]) hsa;have s3:upd H2 sa (.lst [.int 0]) sa=some (.lst [.int 0]):=aa;have s23:=k3 _ _ s2 (by simp)
  have k13:=k2.trans k3;have hsa1:H1 sa=none:=k2.free (by simp) hsa
  have nrs:ra≠sa:=λz=>by rw[z,hsa] at s2;cases s2
  generalize upd H2 sa (.lst [.int 0])=H3 at *;rw[hN];clear hN N;have e0:iV (nZ (sp.take (0+1)))=[.int 0]:=by
   have:sp.take 1=[0]:=by
    rw[L.lS];obtain⟨l,e⟩:=o6 0 (jw cd rs) (rs.map az) ws;rw[e];rfl
   rw[LY,this];rfl
  rw[<- e0] at s3;refine au λN hN=>?_;refine⟨λm σ H'=>∃(k:Nat) (as:List Addr) (o5:Option V),k<=rs.length/\m=rs.length-k/\KB [] H1 H'/\H' ra=some (.lst (as.map V.ref))/\PM sp H' as (rs.take k)/\H' sa=some (.lst (iV (nZ (sp.take (k+1)))))/\σ=[some (.str (wd z)),some (.ref b),some (.ref ca),some (.ref ra),some (.ref sa),o5,none],⟨rs.length,0,[],none,JL _,rfl,k13,s23,⟨rfl,λi q r e=>nomatch e⟩,s3,rfl⟩,?_⟩;rintro m σ H' ⟨k,as,o5,hk,rfl,hkb,gr,pm,gs,rfl⟩;have es:bX (iV (nZ (sp.take (k+1)))) (-1)=some (.int ((sp.getD k 0:Nat):Int)):=by
   rw[sU (show k<sp.length by lia),sQ]
   exact pC _ _
  exists ay gs,es,bw;refine⟨JC hzl (by decide),?_⟩
  rcases K8 k rs.length with hlt|hge
  ·obtain⟨x,x1,x2,x3⟩:=L.rd hlt;obtain⟨m1,m2,m3,m4,m5⟩:=IG L.hR x1;have c:((sp.getD k 0:Nat):Int)<(z.length:Int):=by lia
   rw[J6 c];refine⟨λσ' H'=>∃m',m'<rs.length-k/\∃(k:Nat) (as:List Addr) (o5:Option V),k<=rs.length/\m'=rs.length-k/\KB [] H1 H'/\H' ra=some (.lst (as.map V.ref))/\PM sp H' as (rs.take k)/\H' sa=some (.lst (iV (nZ (sp.take (k+1)))))/\σ'=[some (.str (wd z)),some (.ref b),some (.ref ca),some (.ref ra),some (.ref sa),o5,none],λ_ _ h=>h,?_⟩;refine⟨ca,cd,z,_,rfl,cdl.kb hkb,L.hR,hz,by lia,λv H5 k5 o=>?_⟩
   rw[tM,x1] at o;obtain⟨t,r,rfl,ht,hr'⟩:=o;rw[m2,x3] at hr';rw[Jx (show ¬ V.ref t=V.aG from V.noConfusion)];have gr5:=k5 _ _ gr (by simp)
   have gs5:=k5 _ _ gs (by simp)
   have pm5:=pm.keep k5 (NT.nil _);have pl:=pm.1;rw[JK] at pl;refine⟨.inl ⟨rfl,_,bB.of gr5⟩,?_⟩;show Ak K (V.ref t) (.int 0) H5 _;exists aH ht;refine⟨ra,_,_,rfl,rfl,gr5,Kt (show _<=64 by rw[Jt];lia) (by decide),?_⟩
   have er:as.map V.ref++[V.ref r]=(as++[r]).map V.ref:=by rw[JN];rfl
   rw[er];have gr6:upd H5 ra (.lst ((as++[r]).map V.ref)) ra=_:=aa;have k56:KB [ra] H5 (upd H5 ra (.lst ((as++[r]).map V.ref))):=KB.set (by simp)
   generalize upd H5 ra (.lst ((as++[r]).map V.ref))=H6 at *;have ntr:=kX gr5;have hr6:=k56 _ _ hr' λz=>ntr _ z _ hr';have pm6:=(pm5.keep k56 ntr).snoc hr6;have ht6:=k56 _ _ ht λz=>ntr _ z _ ht;have gs6:=k56 _ _ gs5 (by simpa using nrs.symm)
   have kf:KB [] H1 H6:=λu o e _=>k56 _ _ (k5 _ _ (hkb _ _ e (by simp)) (by simp)) (by simpa using af e hra)
   refine⟨.inl ⟨rfl,_,bB.of gs6⟩,?_⟩;exists aH ht6;refine⟨sa,_,_,rfl,rfl,gs6,Kt (show _<=65 by rw[d4,JK];lia) (by decide),?_⟩
   rw[x2,<- sQ,<- sU (show k+1<sp.length by lia)]
   refine⟨rs.length-(k+1),by lia,k+1,as++[r],_,hlt,rfl,λu o e _=>?_,?_,?_,aa,rfl⟩
   ·rw[ar (af e hsa1)];exact kf _ _ e (by simp)
   ·rw[ar nrs];exact gr6
   ·rw[show rs.take (k+1)=rs.take k++[rs[k]] by rw[K0,Jr hlt];rfl]
    exact pm6.keep (KB.set (ex:=[sa]) (by simp)) (kX gs6)
  ·have hkn:k=rs.length:=by lia
   subst hkn;have c:¬ ((sp.getD rs.length 0:Nat):Int)<(z.length:Int):=by rw[L.last];lia
   rw[Jx c];show N _ _;rw[hN];clear hN N;rw[Kl] at pm;rw[Kn (show sp.length<=rs.length+1 by lia)] at gs
   clear es e0 s3 s23 k13 c;have szl:(iV (nZ sp)).length=rs.length+1:=by rw[d4,sl]
   refine au λN hN=>?_;exists ay gs;refine⟨⟨_,bB.of gs⟩,?_⟩;refine oJ (xs:=iV (nZ sp)) (JC (show _<=65 by rw[szl];lia) (by decide)) (λD i ys H5=>H' D=none/\H5 D=some (.lst ys)/\KB [] H' H5/\i<=sp.length/\∃ps:List Addr,ys=ps.map V.ref/\ps.length=i/\∀(j:Nat) (p:Addr),ps[j]?=some p->H5 p=some (.tup [.int ((sp.getD j 0:Nat):Int),.int (j:Nat)])) (λD hD=>⟨hD,aa,KB.new hD,JL _,[],rfl,rfl,λj p e=>nomatch e⟩) (λD i ys H5 h=>⟨h.2.1,by obtain⟨_,_,_,_,ps,rfl,e,_⟩:=h;rw[Jt,e]⟩) (λD i ys H5 h=>bB.of (h.2.2.1 _ _ gs (by simp))) ?_ ?_
   ·rintro D i ys H5 x p R hx ⟨g0,g1,gk,hi,ps,rfl,e1,e2⟩ hp kk;have hlt:i<sp.length:=by have:=(Jv.mp hx).1;lia
    have ex:x=.int ((sp.getD i 0:Nat):Int):=by
     unfold iV nZ at hx;rw[JA,JA,Jr hlt] at hx;rw[JF,Jr hlt];exact (Option.some.inj hx).symm
    subst ex;have kz:=KB.new (ex:=[]) (o:=.tup [.int i,.int ((sp.getD i 0:Nat):Int)]) hp;have g1':=kz _ _ g1 (by simp)
    generalize upd H5 p (.tup [.int i,.int ((sp.getD i 0:Nat):Int)])=G at *;walk_at "rz";refine⟨by decide,λc hc=>?_⟩
    have kc:=KB.new (ex:=[]) (o:=.tup [.int ((sp.getD i 0:Nat):Int),.int i]) hc;have sc:upd G c (.tup [.int ((sp.getD i 0:Nat):Int),.int i]) c=_:=aa;have g1'':=kc _ _ g1' (by simp)
    generalize upd G c (.tup [.int ((sp.getD i 0:Nat):Int),.int i])=G2 at *;have kzc:=kz.trans kc;have ntD:=kX g1'';refine kk _ _ g1'' ⟨g0,aa,λu o e _=>by rw[ar (af e g0)];exact kzc _ _ (gk _ _ e (by simp)) (by simp),hlt,ps++[c],by rw[JN];rfl,by rw[Ju,e1];rfl,λj p e=>?_⟩
    have key:G2 p=some (.tup [.int ((sp.getD j 0:Nat):Int),.int (j:Nat)]):=by
     rcases K8 j ps.length with hj|hj
     ·rw[JU hj] at e;exact kzc _ _ (e2 j p e) (by simp)
     ·rw[JO hj] at e;have hj0:j-ps.length=0:=by have:=(Jv.mp e).1;simp at this;lia
      rw[hj0] at e;cases e;rw[show j=i by lia]
      exact sc
    exact KB.set (ex:=[D]) (by simp) _ _ key λz=>ntD _ z _ key
   ·rintro pl ys H5 ⟨g0,g1,gk,_,ps,rfl,e1,e2⟩;have kvl:(v_ sp).length=sp.length:=by unfold v_;rw[Jt,Kx]
    rw[szl] at e1;refine⟨pl,_,v_ sp,rfl,g1,⟨by rw[Jt,kvl];lia,λj k x e=>?_⟩,by rw[kvl];lia,λd hd=>?_⟩
    ·unfold v_ at e;rw[JA] at e;obtain⟨i,ei,e⟩:=JR.mp e;obtain⟨hj,ej⟩:=Jv.mp ei;rw[List.getElem_range] at ej;subst ej;rw[Kx] at hj;cases e;have ep:=Jr (show j<ps.length by lia)
     exact⟨ps[j],by rw[JA,ep];rfl,e2 j _ ep⟩
    rw[L.merge];have kd:=KB.new (ex:=[]) (o:=.dK (v_ sp)) hd;have sd:upd H5 d (.dK (v_ sp)) d=_:=aa;generalize upd H5 d (.dK (v_ sp))=H6 at *;have kk6:=gk.trans kd;have gr6:=kk6 _ _ gr (by simp)
    have gs6:=kk6 _ _ gs (by simp)
    have pm6:=pm.keep kk6 (NT.nil _);show N _ _;rw[hN];clear hN N;clear gr gs pm g1 gk e2 kd g0;have al:=pm6.1;walk_at "rz";rw[jW];exists ay gr6;refine⟨(true,ra),(true,sa),⟨rfl,rfl⟩,⟨_,bB.of gr6⟩,⟨_,bB.of gs6⟩,λn=>?_⟩;refine rh (xs:=as.map V.ref) (ys:=iV (nZ sp)) (JC (show _<=64 by rw[Jt];lia) (by decide)) (by rw[Jt,szl];lia) (λD i ys G=>H6 D=none/\G D=some (.lst ys)/\KB [] H6 G/\i<=rs.length/\∃ps:List Addr,ys=ps.map V.ref/\PA G ps (rs.take i)) (λD hD=>⟨hD,aa,KB.new hD,JL _,[],rfl,rfl,λj p r e=>nomatch e⟩) (λD i ys G h=>⟨h.2.1,by obtain⟨_,_,_,hi,ps,rfl,e,_⟩:=h;rw[Jt,e,JK];lia⟩) (λD i ys G h=>⟨bB.of (h.2.2.1 _ _ gr6 (by simp)),bB.of (h.2.2.1 _ _ gs6 (by simp))⟩) ?_ ?_
    ·rintro D i ys G x y p R hx hy ⟨g0,g1,gk,hi,ps',rfl,pa⟩ hp kk;obtain⟨u,eu,rfl⟩:∃u,as[i]?=some u/\x=.ref u:=by
      rw[JA] at hx;obtain⟨u,e,rfl⟩:=JR.mp hx;exact⟨u,e,rfl⟩
     have hlt:i<rs.length:=by have:=(Jv.mp eu).1;lia
     have er:=Jr hlt;have kz:=KB.new (ex:=[]) (o:=.tup [.ref u,y]) hp;have g1':=kz _ _ g1 (by simp)
     generalize upd G p (.tup [.ref u,y])=G1 at *;have gk1:=gk.trans kz;walk_at "rz";refine⟨u,d,y,rs[i],qT sp rs[i],v_ sp,rfl,gk1 _ _ (pm6.2 i u _ eu er) (by simp),gk1 _ _ sd (by simp),λt et=>?_,λc G2 kc hc=>?_⟩
     ·have ht:=fY (L.ok _ (JM hlt)) et;unfold qT;rw[et];exact L.kv ht
     have g2:=kc _ _ g1' (by simp)
     refine kk _ _ g2 ⟨g0,aa,λu o e _=>by rw[ar (af e g0)];exact kc _ _ (gk1 _ _ e (by simp)) (by simp),hlt,ps'++[c],by rw[JN];rfl,?_⟩
     rw[show rs.take (i+1)=rs.take i++[rs[i]] by rw[K0,er];rfl]
     exact (((pa.keep kz (NT.nil _)).keep kc (NT.nil _)).snoc hc).keep (KB.set (ex:=[D]) (by simp)) (kX g2)
    ·rintro D ys G ⟨g0,g1,gk,_,ps',rfl,pa⟩;rw[Jt,al,Kl] at pa;exists ay g1;intro t ht;have kt:=KB.new (ex:=[]) (o:=.tup (ps'.map V.ref)) ht;exact q t _ (k1.trans (hkb.trans (kk6.trans (gk.trans kt)))) ⟨ps',aa,pa.keep kt (NT.nil _)⟩
theorem gO.cut{rs:List Row}(hp:PA H as rs)(k:Nat):PA H (as.take k) (rs.take k):=by
 refine⟨by rw[JK,JK,hp.1],λi q r e1 e2=>?_⟩
 rw[Ls] at e1 e2
 split at e1
 ·rename_i c;rw[J6 c] at e2;exact hp.2 i q r e1 e2
 ·cases e1
theorem xi{rs:List Row}{k:Nat}(h:gO H a rs)(q:∀u G,KB [] H G->gO G u (rs.take k)->Q (.ref u) G):Y.Bt K (.ref a) none (some (k:Int)) H Q:=by
 obtain⟨as,ha,hp⟩:=h;refine tm ha (λe=>q a H (KB.refl _ _) ⟨as.take k,?_,gO.cut hp k⟩) (λp hp'=>q p _ (KB.new hp') ⟨as.take k,?_,(gO.cut hp k).keep (KB.new hp') (NT.nil _)⟩)
 ·rw[pG] at e;rw[ha,MD,e]
 ·rw[aa,pG,MD]
noncomputable def Cn.tr:Cn->L2.T
 |.s z=>.str z
 |.n k=>.int (k:Nat)
noncomputable def lV(r:Row):L2.T:=.tup (r.ps.map Cn.tr)
theorem Bi{r:Row}(h:H q=some (.tup r.vs)):Rep K H no (.ref q) (lV r):=.tup (λz=>z) h (by
 unfold Row.vs
 induction r.ps with
 |nil=>exact .nil
 |cons x l ih =>
  refine .cons ?_ ih
  cases x with
  |s z=>exact .str z
  |n k=>exact .int _)
theorem dY:∀{as:List Addr} {rs:List Row},PA H as rs->cG K H no (as.map V.ref) (rs.map lV)
 |[],[],_=>.nil
 |[],_::_,h=>nomatch h.1
 |_::_,[],h=>nomatch h.1
 |a::as,r::rs,h=>.cons (Bi (h.2 0 a r rfl rfl)) (dY ⟨Nat.succ.inj h.1,λi q r' e1 e2=>h.2 (i+1) q r' e1 e2⟩)
theorem jA(n:Nat)(r:Row):lR (n+1) (lV r) (lV r) true:=by
 have:=lR.tup (n:=n) (xs:=r.ps.map Cn.tr) (ys:=r.ps.map Cn.tr) (λ_=>true) λj x y h1 h2=>by
  rw[h1] at h2;cases h2;rw[JA] at h1;obtain⟨k,_,rfl⟩:=JR.mp h1
  cases k with
  |s z=>exact nJ n z
  |n k=>exact uk n _
 rwa [all_true] at this
theorem Cf{rs:List Row}(ha:gO H a rs)(hb:gO H b rs)(q:Q (.bl false) H):Y.E9 K (.ref a) (.ref b) H Q:=by
 obtain⟨as,h1,h2⟩:=ha;obtain⟨bs,h3,h4⟩:=hb;exact .inr (i8 (neg:=true) h1 h3 (dY h2) (dY h4) (λx hx=>by
  obtain⟨r,_,rfl⟩:=J_.mp hx;exact jA 3 r) q)
noncomputable def setG:Row->Nat->Row
 |.jump _,g=>.jump g
 |.zero b _,g=>.zero b g
 |r,_=>r
noncomputable def mT(f:Nat)(r:Row):Row:=match az r with
 |none=>r
 |some t=>if t<f then r else setG r (t+1)
noncomputable def xB(f:Nat)(r:Row):Row:=match az r with
 |none=>r
 |some t=>if t<f then r else setG r (t-1)
noncomputable def hU(k:Nat)(x:Row)(rs:List Row):List Row:=(rs.map (mT k)).take k++[x]++(rs.map (mT k)).drop k
noncomputable def i_(k:Nat)(rs:List Row):List Row:=(rs.take k++rs.drop (k+1)).map (xB (k+1))
theorem zR{r:Row}(g:Nat)(h:az r=some t):az (setG r g)=some g:=by cases r<;>first|rfl|cases h
theorem wx{r:Row}{n m:Nat}(g:Nat)(h:az r=some t)(ho:r.Ok n)(hg:g<=m):(setG r g).Ok m:=by
 cases r with
 |jump _=>exact hg
 |zero b _=>exact⟨ho.1,hg⟩
 |put=>cases h
 |two=>cases h
 |one=>cases h
 |halt=>cases h
theorem set_set{r:Row}(g:Nat)(h:az r=some t):setG (setG r g) t=r:=by
 cases r with
 |jump _=>cases h;rfl
 |zero b _=>cases h;rfl
 |put=>cases h
 |two=>cases h
 |one=>cases h
 |halt=>cases h
theorem CT{r:Row}{n m:Nat}(h:r.Ok n)(hm:n<=m):r.Ok m:=by
 cases r with
 |jump g=>exact JC h hm
 |zero b g=>exact⟨h.1,JC h.2 hm⟩
 |put=>exact h
 |two=>exact h
 |one=>exact h
 |halt=>exact h
theorem EG{r:Row}{n:Nat}(f:Nat)(h:r.Ok n):(mT f r).Ok (n+1):=by
 unfold mT
 cases c:az r with
 |none=>exact CT h (Lg n)
 |some t =>
  dsimp only;have ht:=fY h c;split
  ·exact CT h (Lg n)
  ·exact wx _ c h (by lia)
theorem oz{k:Nat}{x:Row}{rs:List Row}(hk:k<=rs.length):(hU k x rs).length=rs.length+1:=by
 unfold hU;rw[Ju,Ju,JK,JW,Jt];simp;lia
theorem y_{k:Nat}{x:Row}{rs:List Row}(hk:k<=rs.length)(hx:x.Ok (rs.length+1))(h:∀r∈rs,r.Ok rs.length):∀r∈hU k x rs,r.Ok (hU k x rs).length:=by
 rw[oz hk];have hm:∀r∈rs.map (mT k),r.Ok (rs.length+1):=λr hr=>by
  obtain⟨r',h1,rfl⟩:=J_.mp hr;exact EG k (h r' h1)
 intro r hr;unfold hU at hr;rcases Kj.mp hr with hr|hr
 ·rcases Kj.mp hr with hr|hr
  ·exact hm r (Me hr)
  ·rw[JG.mp hr];exact hx
 ·exact hm r (MS hr)
theorem FK{r:Row}(k:Nat):xB (k+1) (mT k r)=r:=by
 unfold mT
 cases c:az r with
 |none=>unfold xB;dsimp only;rw[c]
 |some t =>
  dsimp only;by_cases h:t<k
  ·rw[if_pos h];unfold xB;rw[c];dsimp only;rw[if_pos (by lia)]
  ·rw[if_neg h];unfold xB;rw[zR _ c];dsimp only;rw[if_neg (by lia),Nat.add_sub_cancel,set_set _ c]
theorem B6{k:Nat}{x:Row}{rs:List Row}(hk:k<=rs.length):i_ k (hU k x rs)=rs:=by
 have hl:((rs.map (mT k)).take k).length=k:=by rw[JK,Jt];lia
 unfold i_ hU;have e1:((rs.map (mT k)).take k++[x]++(rs.map (mT k)).drop k).take k=(rs.map (mT k)).take k:=by
  rw[JT,MU (by lia),Kn (by lia)]
 have e2:((rs.map (mT k)).take k++[x]++(rs.map (mT k)).drop k).drop (k+1)=(rs.map (mT k)).drop k:=by
  have hl2:((rs.map (mT k)).take k++[x]).length=k+1:=by rw[Ju,hl];rfl
  rw[<- hl2,Nb]
 rw[e1,e2,KJ,Lj];have:xB (k+1) ∘ mT k=id:=funext λr=>FK k;rw[this,List.map_id]
theorem EE{r:Row}{n k:Nat}(h:r.Ok (n+1))(hk:k<=n):(xB (k+1) r).Ok n:=by
 unfold xB
 cases c:az r with
 |none=>exact CA h λt e=>by rw[c] at e;cases e
 |some t =>
  dsimp only;have ht:=fY h c;split
  ·exact CA h λu e=>by rw[c] at e;cases e;lia
  ·exact wx _ c h (by lia)
theorem t7{k:Nat}{rs:List Row}(hk:k<rs.length):(i_ k rs).length=rs.length-1:=by
 unfold i_;rw[Jt,Ju,JK,JW];lia
theorem C_{k:Nat}{rs:List Row}(hk:k<rs.length)(h:∀r∈rs,r.Ok rs.length):∀r∈i_ k rs,r.Ok (i_ k rs).length:=by
 rw[t7 hk];intro r hr;obtain⟨r',h1,rfl⟩:=J_.mp hr;have hm:r'∈rs:=(Kj.mp h1).elim Me MS;refine EE (n:=rs.length-1) ?_ (by lia)
 rw[show rs.length-1+1=rs.length by lia]
 exact h r' hm
noncomputable def wo(f:Nat)(by':Int)(r:Row):Row:=match az r with
 |none=>r
 |some t=>if t<f then r else setG r ((t:Int)+by').toNat
theorem Gh(f:Nat)(r:Row):wo f 1 r=mT f r:=by
 unfold wo mT
 cases az r with
 |none=>rfl
 |some t=>dsimp only;rw[show ((t:Int)+1).toNat=t+1 by lia]
theorem Hf(f:Nat)(r:Row):wo f (-1) r=xB f r:=by
 unfold wo xB
 cases az r with
 |none=>rfl
 |some t=>dsimp only;rw[show ((t:Int)+-1).toNat=t-1 by lia]
theorem oR(xs:List V)(k:Nat):d5 xs (some (k:Int)) none=xs.drop k:=by
 unfold d5;rw[HT.dH,HT.fo];rcases Nat.le_total k xs.length with h|h
 ·rw[MT h,Kn (by rw[JW];exact J7 _)]
 ·rw[Nat.min_eq_right h,Mh,List.drop_of_length_le h,List.take_nil]
theorem PA.drop{rs:List Row}(hp:PA H as rs)(k:Nat):PA H (as.drop k) (rs.drop k):=by
 refine⟨by rw[JW,JW,hp.1],λi q r e1 e2=>?_⟩
 rw[KN] at e1 e2;exact hp.2 (k+i) q r e1 e2
theorem tS{rs:List Row}{k:Nat}(h:gO H a rs)(q:∀u G,KB [] H G->gO G u (rs.drop k)->Q (.ref u) G):Y.Bt K (.ref a) (some (k:Int)) none H Q:=by
 obtain⟨as,ha,hp⟩:=h;refine tm ha (λe=>q a H (KB.refl _ _) ⟨as.drop k,?_,hp.drop k⟩) (λp hp'=>q p _ (KB.new hp') ⟨as.drop k,?_,(hp.drop k).keep (KB.new hp') (NT.nil _)⟩)
 ·rw[oR] at e;rw[ha,Nu,e]
 ·rw[aa,oR,Nu]
theorem PA.app{bs:List Addr}{rs ts:List Row}(h1:PA H as rs)(h2:PA H bs ts):PA H (as++bs) (rs++ts):=by
 have l1:=h1.1;refine⟨by rw[Ju,Ju,h1.1,h2.1],λi q r e1 e2=>?_⟩
 rcases K8 i as.length with hi|hi
 ·rw[JU hi] at e1;rw[JU (by lia)] at e2
  exact h1.2 i q r e1 e2
 ·rw[JO hi] at e1;rw[JO (by lia),<- l1] at e2
  exact h2.2 _ q r e1 e2
theorem A2(ha:H a=some (.tup xs))(hb:H b=some (.tup ys))(hl:xs.length+ys.length<=1000)(q:∀u G,KB [] H G->G u=some (.tup (xs++ys))->Q (.ref u) G):Y.ze K (.ref a) (.ref b) H Q:=
 .inr (.inr (.inr ⟨a,b,xs,ys,rfl,rfl,bb.of ha,bb.of hb,JC hl (by decide),λe=>q b H (KB.refl _ _) (by rw[hb,e];rfl),λ_ e=>q a H (KB.refl _ _) (by rw[ha,e,Kq]),λ_ _ p hp=>q p _ (KB.new hp) aa⟩))
theorem r8{rs ts:List Row}(h1:gO H a rs)(h2:gO H b ts)(hl:rs.length+ts.length<=1000)(q:∀u G,KB [] H G->gO G u (rs++ts)->Q (.ref u) G):Y.ze K (.ref a) (.ref b) H Q:=by
 obtain⟨as,ha,hp⟩:=h1;obtain⟨bs,hb,hp'⟩:=h2;refine A2 ha hb (by rw[Jt,Jt,hp.1,hp'.1];exact hl) λu G k e=>q u G k ⟨as++bs,by rw[e,JN],(hp.app hp').keep k (NT.nil _)⟩
noncomputable def tu:Sp:=λvs H Q _=>∃(a:Addr) (r:Row) (f:Nat) (by':Int),vs=[.ref a,.int (f:Nat),.int by']/\H a=some (.tup r.vs)/\(∀t,az r=some t->f<=t->0<=(t:Int)+by')/\∀p H',KB [] H H'->H' p=some (.tup (wo f by' r).vs)->Q (.ref p) H'
theorem E1{r:Row}(h:az r=some t):∃xs:List V,xs≠[]/\xs.length<=2/\r.vs=xs++[.int (t:Nat)]/\∀g:Nat,(setG r g).vs=xs++[.int (g:Nat)]:=by
 cases r with
 |jump _=>cases h;exact⟨[.str "jump"],by simp,by simp,rfl,λ_=>rfl⟩
 |zero b _=>cases h;exact⟨[.str "zero",.str (dQ b)],by simp,by simp,rfl,λ_=>rfl⟩
 |put=>cases h
 |two=>cases h
 |one=>cases h
 |halt=>cases h
theorem vM(T:Txt K mg)(F:HasFn K mg "goal_moved" fh ["row","first","by"])(hgoal_of:aq P w K mg base aP 1 "goal_of" ["row"] gj)(hwith_goal:aq P w K mg base aP 1 "with_goal" ["row","goal"] qO):aq P w K mg base aP 2 "goal_moved" ["row","first","by"] tu:=by
 refine F.eX gF (λvs H Q E h=>?_) (λf cdv A outer s H vs Q E hr h=>?_)
 ·obtain⟨a,r,f,by',rfl,_⟩:=h;rfl
 ·have hu:=aK hr;obtain⟨a,r,fi,by',rfl,ha,hg,q⟩:=h
  refine⟨_,(Z.ao (Z.se (i:=3) gF.nd (Z.fc hgoal_of (Z.cons (Z.v 0) Z.nil)))
   (Z.ax (Z.ret (Z.Dq (Z.tw (Z.Aj (Z.aI cR (Z.v 3) Z.aG) (Z.mh (Z.aI e8 (Z.v 3) (Z.v 1))))) (Z.v 0) (Z.fc hwith_goal (Z.cons (Z.v 0) (Z.cons (Z.op (Z.aC K rfl) (Z.v 3) (Z.v 2)) Z.nil))))))),?_⟩
  refine au λN hN=>?_;walk_at "rz";have ha':=ha;rw[AM] at ha';refine⟨a,_,rfl,ha',?_⟩;rw[hN,sj];clear hN N
  cases c:az r with
  |none =>
   walk_at "rz";exact q _ _ (KB.refl _ _) (by rw[ha];unfold wo;rw[c])
  |some t =>
   rw[show bK (some t)=V.int (t:Nat) from rfl];have nn:¬ V.int (t:Nat)=V.aG:=V.noConfusion;by_cases h:(t:Int)<(fi:Int)
   ·exists if_neg nn,if_pos h;exact q _ _ (KB.refl _ _) (by rw[ha];unfold wo;rw[c];dsimp only;rw[if_pos (by lia)])
   ·exists Jx nn,Jx h;obtain⟨xs,x1,x2,x3,x4⟩:=E1 c;rw[x3] at ha;refine⟨a,xs,_,_,rfl,ha,x1,x2,λp H' k e=>q p H' k ?_⟩;have h0:=hg t c (by lia)
    rw[e];unfold wo;rw[c];dsimp only;rw[if_neg (by lia),x4,Int.toNat_of_nonneg h0]
noncomputable def ie:Sp:=λvs H Q _=>∃(a:Addr) (rs:List Row) (f:Nat) (by':Int),vs=[.ref a,.int (f:Nat),.int by']/\gO H a rs/\rs.length<=64/\(∀t:Nat,f<=t->0<=(t:Int)+by')/\∀p H',KB [] H H'->gO H' p (rs.map (wo f by'))->Q (.ref p) H'
theorem zO(T:Txt K mg)(F:HasFn K mg "goals_moved" cU ["rows","first","by"])(hgoal_moved:aq P w K mg base aP 2 "goal_moved" ["row","first","by"] tu):aq P w K mg base aP 3 "goals_moved" ["rows","first","by"] ie:=by
 refine F.eX lq (λvs H Q E h=>?_) (λf cdv A outer s H vs Q E hr h=>?_)
 ·obtain⟨a,rs,f,by',rfl,_⟩:=h;rfl
 ·have hu:=aK hr;obtain⟨a,rs,fi,by',rfl,⟨as,ha,hp⟩,hl,hg,q⟩:=h
  have hpl:=hp.1;refine⟨_,(Z.ax (Z.ret (Z.ct (Z.dh K rfl) rfl T.dj (by decide +kernel) (Z.cons (Z.C4 (osc:=ae cU) (ON:=["rows","first","by"]) (own:=["row"]) (N:=["row","rows","first","by"]) (aF.of rfl (by decide +kernel)) (Z.any K rfl (Z.v 0)) (λnd _ _ _ _=>(Z.aY (i:=0) nd rfl (by right))) (λ_ _ _ _=>Z.wj) (λ_ _ _ _=>(Z.fc hgoal_moved (Z.cons (Z.v 0) (Z.cons (Z.v 2) (Z.cons (Z.v 3) Z.nil)))))) Z.nil)))),?_⟩
  exists aH ha;refine dw (xs:=as.map V.ref) (JC (show _<=64 by rw[Jt];lia) (by decide)) (λD i ys G=>H D=none/\G D=some (.lst ys)/\KB [] H G/\i<=rs.length/\∃ps:List Addr,ys=ps.map V.ref/\PA G ps ((rs.take i).map (wo fi by'))) (λD hD=>⟨hD,aa,KB.new hD,JL _,[],rfl,rfl,λj p r e=>nomatch e⟩) (λD i ys G h=>⟨h.2.1,by obtain⟨_,_,_,hi,ps,rfl,e,_⟩:=h;rw[Jt,e,Jt,JK];lia⟩) (λD i ys G h=>bb.of (h.2.2.1 _ _ ha (by simp))) ?_ ?_
  ·rintro D i ys G x R hx ⟨g0,g1,gk,hi,ps,rfl,pa⟩ kk;obtain⟨u,eu,rfl⟩:∃u,as[i]?=some u/\x=.ref u:=by
    rw[JA] at hx;obtain⟨u,e,rfl⟩:=JR.mp hx;exact⟨u,e,rfl⟩
   have hlt:i<rs.length:=by have:=(Jv.mp eu).1;lia
   have er:=Jr hlt;walk_at "rz";refine⟨u,rs[i],fi,by',rfl,gk _ _ (hp.2 i u _ eu er) (by simp),λt _ h=>hg t h,λc G2 kc hc=>?_⟩
   have g2:=kc _ _ g1 (by simp)
   refine kk _ _ g2 ⟨g0,aa,λu o e _=>by rw[ar (af e g0)];exact kc _ _ (gk _ _ e (by simp)) (by simp),hlt,ps++[c],by rw[JN];rfl,?_⟩
   rw[show rs.take (i+1)=rs.take i++[rs[i]] by rw[K0,er];rfl,JN]
   exact ((pa.keep kc (NT.nil _)).snoc hc).keep (KB.set (ex:=[D]) (by simp)) (kX g2)
  ·rintro D ys G ⟨g0,g1,gk,_,ps,rfl,pa⟩;rw[Jt,hpl,Kl] at pa;exists ay g1;intro t ht;have kt:=KB.new (ex:=[]) (o:=.tup (ps.map V.ref)) ht;exact q t _ (gk.trans kt) ⟨ps,aa,pa.keep kt (NT.nil _)⟩
structure eJ (C:Addr) (H:Hp) (x dx b:Addr) (bk:List (List Int)) (rs:List Row):Prop where
 bk:uQ H b bk
 od:H dx=some (.own x)
 ex:∃ra,H x=some (.ins C dx [("book",.ref b),("rows",.ref ra)])/\gO H ra rs
theorem eJ.keep{bk:List (List Int)}{rs:List Row}(h:eJ C H x dx b bk rs)(k:KB ex H H')(hx:NT ex H)(n1:x∉ex)(n2:dx∉ex):eJ C H' x dx b bk rs:=by
 obtain⟨h1,h2,ra,h3,h4⟩:=h;exact⟨h1.keep k hx,k _ _ h2 n2,ra,k _ _ h3 n1,h4.keep k hx⟩
theorem eJ.kb{bk:List (List Int)}{rs:List Row}(h:eJ C H x dx b bk rs)(k:KB [] H H'):eJ C H' x dx b bk rs:=h.keep k (NT.nil _) (by simp) (by simp)
theorem iU{fs:List (Str×V)}(h:H x=some (.ins C dx fs)):NT [x] H:=λb hb xs e=>by
 rw[JG.mp hb,h] at e;cases e
theorem tq(b r:V):([("book",b),("rows",r)]:List (Str×V)).lookup ("book":Str)=some b:=rfl
theorem bZ(b r:V):([("book",b),("rows",r)]:List (Str×V)).lookup ("rows":Str)=some r:=rfl
noncomputable def AD(C:Addr):Sp:=λvs H Q _=>∃(x dx b:Addr) (bk:List (List Int)),vs=[.ref x,.ref b]/\H x=some (.ins C dx [])/\H dx=some (.own x)/\uQ H b bk/\∀H',eJ C H' x dx b bk []->KB [x] H H'->Q .aG H'
theorem yW(T:Txt K mg)(cM:lI K C)(na_book:bN K C "book")(na_rows:bN K C "rows")(F:lQ K "__init__" "Kept.__init__" aM f fd):bT P w K mg base aP 1 f fd ["self","book"] (AD C):=by
 refine F.ok iQ (λvs H Q E h=>?_) (λcdv A outer s H vs Q E hr h=>?_)
 ·obtain⟨x,dx,b,bk,rfl,_⟩:=h;rfl
 ·obtain⟨x,dx,b,bk,rfl,ox,od,hb,q⟩:=h;have hu:=aK hr;have key:∃t,QB (fE aP P w K mg base ["self","book"] "Kept.__init__" (ae aM) f cdv A outer s H E).vO (aR aM) t/\t {nx:=λ_ H'=>Q .aG H',rt:=Q} (start ["self","book"] [.ref x,.ref b]) H:=by
   refine⟨_,(Z.ao (Z.uO K rfl (Z.v 0) (Z.v 1))
   (Z.ax (Z.uO K rfl (Z.v 0) (Z.tup Z.nil)))),?_⟩
   have ndx:dx≠x:=by rintro rfl;rw[ox] at od;cases od
   refine au λN hN=>?_;walk_at "rz";refine⟨x,C,dx,_,rfl,ox,cM,na_book,by decide,?_⟩
   rw[hN];clear hN N;have k1:KB [x] H (upd H x (.ins C dx (dI "book" (.ref b) []))):=KB.set (by simp)
   have s1:upd H x (.ins C dx (dI "book" (.ref b) [])) x=some (.ins C dx [("book",.ref b)]):=aa;have hb1:=hb.keep k1 (iU ox);have od1:=k1 _ _ od (by simpa using ndx)
   generalize upd H x (.ins C dx (dI "book" (.ref b) []))=H1 at *;walk_at "rz";refine⟨JL _,λe he=>?_⟩;have k2:=KB.new (ex:=[]) (o:=.tup []) he;have s2:upd H1 e (.tup []) e=some (.tup []):=aa;have s12:=k2 _ _ s1 (by simp)
   have hb2:=hb1.kb k2;have od2:=k2 _ _ od1 (by simp)
   generalize upd H1 e (.tup [])=H2 at *;refine⟨x,C,dx,_,rfl,s12,cM,na_rows,(show 1<1000 by decide),?_⟩
   have k3:KB [x] H2 (upd H2 x (.ins C dx (dI "rows" (.ref e) [("book",.ref b)]))):=KB.set (by simp)
   have nt:=iU s12;refine q _ ⟨hb2.keep k3 nt,k3 _ _ od2 (by simpa using ndx),e,aa,⟨[],k3 _ _ s2 λz=>nt _ z _ s2,rfl,λi q r e=>nomatch e⟩⟩ (k1.trans (k2.all.trans k3))
  obtain⟨t,hb,ht⟩:=key;exact⟨t,hb.h,ht⟩
noncomputable def nV(C:Addr):Sp:=λvs H Q _=>∃(x dx b:Addr) (bk:List (List Int)) (rs:List Row),vs=[.ref x]/\eJ C H x dx b bk rs/\∀ra,gO H ra rs->Q (.ref ra) H
theorem yX(T:Txt K mg)(cM:lI K C)(na_rows:bN K C "rows")(F:lQ K "program" "Kept.program" aQ f fd):bT P w K mg base aP 1 f fd ["self"] (nV C):=by
 refine F.ok jo (λvs H Q E h=>?_) (λcdv A outer s H vs Q E hr h=>?_)
 ·obtain⟨x,dx,b,bk,rs,rfl,_⟩:=h;rfl
 ·obtain⟨x,dx,b,bk,rs,rfl,⟨_,_,ra,ox,hp⟩,q⟩:=h;have hu:=aK hr;have key:∃t,QB (fE aP P w K mg base ["self"] "Kept.program" (ae aQ) f cdv A outer s H E).vO (aR aQ) t/\t {nx:=λ_ H'=>Q .aG H',rt:=Q} (start ["self"] [.ref x]) H:=by
   refine⟨_,(Z.ax (Z.ret (Z.fld K rfl (Z.v 0)))),?_⟩;walk_at "rz";exact⟨x,C,dx,_,_,rfl,ox,cM,na_rows,bZ _ _,q ra hp⟩
  obtain⟨t,hb,ht⟩:=key;exact⟨t,hb.h,ht⟩
noncomputable def sF(C:Addr):Sp:=λvs H Q _=>∃(x dx b:Addr) (bk:List (List Int)) (rs:List Row),vs=[.ref x]/\eJ C H x dx b bk rs/\Bk bk/\rs.length<=64/\(∀r∈rs,r.Ok rs.length)/\∀H',KB [] H H'->Q (.str (wd (cS bk rs))) H'
theorem yA(T:Txt K mg)(cM:lI K C)(na_book:bN K C "book")(na_rows:bN K C "rows")(hpack_rows:aq P w K mg base aP 7 "pack_rows" ["program","book"] gX)(F:lQ K "bits" "Kept.bits" bu f fd):bT P w K mg base aP 8 f fd ["self"] (sF C):=by
 refine F.ok oF (λvs H Q E h=>?_) (λcdv A outer s H vs Q E hr h=>?_)
 ·obtain⟨x,dx,b,bk,rs,rfl,_⟩:=h;rfl
 ·obtain⟨x,dx,b,bk,rs,rfl,⟨hb,_,ra,ox,hp⟩,hB,hl,aN,q⟩:=h;have hu:=aK hr;have key:∃t,QB (fE aP P w K mg base ["self"] "Kept.bits" (ae bu) f cdv A outer s H E).vO (aR bu) t/\t {nx:=λ_ H'=>Q .aG H',rt:=Q} (start ["self"] [.ref x]) H:=by
   refine⟨_,(Z.ax (Z.ret (Z.ix (Z.aA K rfl hu) (Z.fc hpack_rows (Z.cons (Z.fld K rfl (Z.v 0)) (Z.cons (Z.fld K rfl (Z.v 0)) Z.nil))) Z.int))),?_⟩;walk_at "rz";refine⟨x,C,dx,_,_,rfl,ox,cM,na_rows,bZ _ _,x,C,dx,_,_,rfl,ox,cM,na_book,tq _ _,ra,b,bk,rs,rfl,hp,hb,hB,hl,aN,λt u H' k e1 _=>?_⟩;exists aH e1;exact q H' k
  obtain⟨t,hb,ht⟩:=key;exact⟨t,hb.h,ht⟩
noncomputable def mW(C:Addr):Sp:=λvs H Q _=>∃(x dx b:Addr) (bk:List (List Int)) (rs:List Row),vs=[.ref x]/\eJ C H x dx b bk rs/\Bk bk/\rs.length<=64/\(∀r∈rs,r.Ok rs.length)/\∀u H',KB [] H H'->H' u=some (.tup (iV (nZ (mf bk rs)).dropLast))->Q (.ref u) H'
theorem si(T:Txt K mg)(cM:lI K C)(na_book:bN K C "book")(na_rows:bN K C "rows")(hpack_rows:aq P w K mg base aP 7 "pack_rows" ["program","book"] gX)(F:lQ K "places" "Kept.places" aT f fd):bT P w K mg base aP 8 f fd ["self"] (mW C):=by
 refine F.ok jM (λvs H Q E h=>?_) (λcdv A outer s H vs Q E hr h=>?_)
 ·obtain⟨x,dx,b,bk,rs,rfl,_⟩:=h;rfl
 ·obtain⟨x,dx,b,bk,rs,rfl,⟨hb,_,ra,ox,hp⟩,hB,hl,aN,q⟩:=h;have hu:=aK hr;have key:∃t,QB (fE aP P w K mg base ["self"] "Kept.places" (ae aT) f cdv A outer s H E).vO (aR aT) t/\t {nx:=λ_ H'=>Q .aG H',rt:=Q} (start ["self"] [.ref x]) H:=by
   refine⟨_,(Z.ax (Z.ret (Z.ix (Z.aA K rfl hu) (Z.fc hpack_rows (Z.cons (Z.fld K rfl (Z.v 0)) (Z.cons (Z.fld K rfl (Z.v 0)) Z.nil))) Z.int))),?_⟩;walk_at "rz";refine⟨x,C,dx,_,_,rfl,ox,cM,na_rows,bZ _ _,x,C,dx,_,_,rfl,ox,cM,na_book,tq _ _,ra,b,bk,rs,rfl,hp,hb,hB,hl,aN,λt u H' k e1 e2=>?_⟩;exists aH e1;exact q u H' k e2
  obtain⟨t,hb,ht⟩:=key;exact⟨t,hb.h,ht⟩
theorem aS.Iw{p:Addr}{n:Nat}{o:HO}(D:aS H p dq n)(hx:H x=some o)(ho:∀ys,o≠.lst ys):x∉[p,dq]:=λz=>by
 obtain⟨ys,e⟩:=D.lst x z;rw[hx] at e;exact ho ys (Option.some.inj e)
theorem eJ.deck{p:Addr}{bk:List (List Int)}{rs:List Row}{n:Nat}(h:eJ C H x dx b bk rs)(D:aS H p dq n)(k:KB [p,dq] H H'):eJ C H' x dx b bk rs:=by
 obtain⟨ra,ox,_⟩:=h.ex;exact h.keep k D.nt (D.Iw ox λ_=>by simp) (D.Iw h.od λ_=>by simp)
theorem eJ.dk{p:Addr}{bk:List (List Int)}{rs:List Row}{n:Nat}(h:eJ C H x dx b bk rs)(D:aS H p dq n)(k:KB [x] H H'):aS H' p dq n:=by
 obtain⟨ra,ox,_⟩:=h.ex;have:=D.Iw ox λ_=>by simp
 simp only[J5,Ka,KU,not_or] at this;exact D.keep k (by simpa using λz=>this.1 z.symm) (by simpa using λz=>this.2 z.symm)
theorem eJ.nt{bk:List (List Int)}{rs:List Row}(h:eJ C H x dx b bk rs):NT [x] H:=by
 obtain⟨ra,ox,_⟩:=h.ex;exact iU ox
theorem zx(n:Nat)(rs:List Row):lR (n+2) (.tup (rs.map lV)) (.tup (rs.map lV)) true:=by
 have:=lR.tup (n:=n+1) (xs:=rs.map lV) (ys:=rs.map lV) (λ_=>true) λj x y h1 h2=>by
  rw[h1] at h2;cases h2;rw[JA] at h1;obtain⟨r,_,rfl⟩:=JR.mp h1;exact jA n r
 rwa [all_true] at this
theorem qp{rs:List Row}(h:gO H a rs):Rep K H no (.ref a) (.tup (rs.map lV)):=by
 obtain⟨as,ha,hp⟩:=h;exact .tup (λz=>z) ha (dY hp)
theorem tY{p p' q':Addr}{z:Str}{rs:List Row}{l:List Int}(ha:H a=some (.tup [.ref p,.str z,.ref q]))(hb:H b=some (.tup [.ref p',.str z,.ref q']))(h1:gO H p rs)(h2:H q=some (.tup (iV l)))(h3:gO H p' rs)(h4:H q'=some (.tup (iV l)))(k:Q (.bl false) H):Y.E9 K (.ref a) (.ref b) H Q:=.inr (i8 (neg:=true) ha hb (xs:=[.tup (rs.map lV),.str z,.tup (l.map T.int)]) (.cons (qp h1) (.cons (.str _) (.cons (j3 h2) .nil))) (.cons (qp h3) (.cons (.str _) (.cons (j3 h4) .nil))) (λy hy=>by
 simp only[J5,Ka,KU] at hy;rcases hy with rfl|rfl|rfl
 ·exact zx 2 _
 ·exact nJ _ _
 ·exact qc _ _) k)
noncomputable def Exc(H H':Hp)(N e:Addr):Prop:=KB [] H H'/\H e=none/\H' e=some (.ext (gW e (.ref N) none))
noncomputable def kq(C N:Addr):Sp:=λvs H Q E=>∃(x dx b qr:Addr) (bk:List (List Int)) (rs:List Row),eJ C H x dx b bk rs/\rs.length<=60 /\
 ((∃(k:Nat) (r:Row),vs=[.ref x,.int (k:Nat),.ref qr]/\k<=rs.length/\H qr=some (.tup r.vs)/\r.Ok (rs.length+1)/\∀H',eJ C H' x dx b bk (hU k r rs)->KB [x] H H'->Q .aG H') \/
 ∃(k:Int) (r:gu),vs=[.ref x,.int k,.ref qr]/\H qr=some (.tup r.vs)/\k.natAbs<10000000/\(∀g,pF r=some g->g.natAbs<10000000)/\(k<0\/(rs.length:Int)<k\/∃g,pF r=some g/\(g<0\/(rs.length:Int)+1<g))/\∀e H',Exc H H' N e->E (.ref N) (some e) H')
theorem Cp(T:Txt K mg)(hC_NoRow:mg "NoRow"=some (.ref C_NoRow))(kC_NoRow:fK K C_NoRow)(cM:lI K C)(na_rows:bN K C "rows")(hgoal_of:aq P w K mg base aP 1 "goal_of" ["row"] gj)(hgoals_moved:aq P w K mg base aP 3 "goals_moved" ["rows","first","by"] ie)(F:lQ K "put_in" "Kept.put_in" bf f fd):bT P w K mg base (wc P w) 4 f fd ["self","place","row"] (kq C C_NoRow):=by
 refine F.IQ b6 (λvs H Q E h=>?_) (λcdv A outer s H vs Q E hr h=>?_)
 ·obtain⟨x,dx,b,qr,bk,rs,_,_,h⟩:=h;rcases h with ⟨k,r,rfl,_⟩|⟨k,r,rfl,_⟩<;>rfl
 ·obtain⟨x,dx,b,qr,bk,rs,⟨hb,od,ra,ox,hp⟩,hl,h⟩:=h;have hu:=aK hr;have ndx:dx≠x:=by rintro rfl;rw[ox] at od;cases od
  have hp':=hp;obtain⟨as,ha,hpl,_⟩:=hp';rcases h with ⟨k,r,rfl,hk,hq,hro,q⟩|⟨k,r,rfl,hq,hk,hgb,hno,q⟩
  ·refine⟨_,(Z.ao (Z.se (i:=3) b6.nd (Z.cb (Z.cH K rfl) rfl T.cy (by decide +kernel) (Z.cons (Z.fld K rfl (Z.v 0)) Z.nil)))
   (Z.ao (Z.cJ (Z.tw (Z.Aj (Z.aI e8 (Z.v 1) Z.int) (Z.mh (Z.aI kB (Z.v 1) (Z.v 3))))) (Z.ax (Z.iZ rfl hC_NoRow kC_NoRow (Z.cons (Z.uJ (Z.fD (Z.jx (Z.v 1) (Z.fD (Z.jx (Z.v 3) (Z.fD Z.u_)))))) Z.nil))) Z.b8)
   (Z.ao (Z.se (i:=4) b6.nd (Z.fc hgoal_of (Z.cons (Z.v 2) Z.nil)))
   (Z.ao (Z.cJ (Z.tw (Z.uP (Z.aI gY (Z.v 4) Z.aG) (Z.mV (Z.tw (Z.Aj (Z.aI e8 (Z.v 4) Z.int) (Z.mh (Z.aI kB (Z.v 4) (Z.op (Y.cc K rfl) (Z.v 3) Z.int)))))))) (Z.ax (Z.iZ rfl hC_NoRow kC_NoRow (Z.cons (Z.uJ (Z.fD (Z.jx (Z.v 4) (Z.fD (Z.jx (Z.v 3) (Z.fD Z.u_)))))) Z.nil))) Z.b8)
   (Z.ao (Z.se (i:=5) b6.nd (Z.fc hgoals_moved (Z.cons (Z.fld K rfl (Z.v 0)) (Z.cons (Z.v 1) (Z.cons Z.int Z.nil)))))
   (Z.ax (Z.uO K rfl (Z.v 0) (Z.op (Y.cc K rfl) (Z.op (Y.cc K rfl) (Z.slice (Y.ph K rfl) (Z.v 5) Z.rR (Z.oH (Z.v 1))) (Z.tup (Z.cons (Z.v 2) Z.nil))) (Z.slice (Y.ph K rfl) (Z.v 5) (Z.oH (Z.v 1)) Z.rR))))))))),?_⟩
   refine au λN hN=>?_;walk_at "rz";refine⟨x,C,dx,_,_,rfl,ox,cM,na_rows,bZ _ _,?_⟩;exists aH ha,Jt,hpl;rw[hN];clear hN N;refine au λN hN=>?_;refine j0 λA B hA hB=>?_;exists Jx (show ¬ ((k:Nat):Int)<0 by lia),Jx (show ¬ ((rs.length:Nat):Int)<((k:Nat):Int) by lia)
   rw[hB];show N _ _;rw[hN];clear hN N hA hB A B;refine au λN hN=>?_;walk_at "rz";have hq':=hq;rw[AM] at hq';refine⟨qr,_,rfl,hq',?_⟩;rw[hN,sj];clear hN N;refine au λN hN=>?_;have step:N [some (.ref x),some (.int (k:Nat)),some (.ref qr),some (.int (rs.length:Nat)),some (bK (az r)),none] H:=by
    rw[hN];clear hN N;refine au λN hN=>?_;walk_at "rz";refine⟨x,C,dx,_,_,rfl,ox,cM,na_rows,bZ _ _,ra,rs,k,1,rfl,hp,by lia,λt _=>by lia,λmo H1 k1 hm=>?_⟩
    rw[hN];clear hN N;rw[show wo k 1=mT k from funext λr=>Gh k r] at hm;have hml:(rs.map (mT k)).length=rs.length:=Jt ..;walk_at "rz";refine xi (k:=k) hm λu2 H2 k2 h2=>⟨by decide,λc hc=>?_⟩
    have k3:=KB.new (ex:=[]) (o:=.tup [.ref qr]) hc;have k03:=k1.trans (k2.trans k3);have h3:gO (upd H2 c (.tup [.ref qr])) c [r]:=⟨[qr],aa,rfl,λi q' r' e1 e2=>by
     cases i with
     |zero=>cases e1;cases e2;exact k03 _ _ hq (by simp)
     |succ i=>cases e1⟩
    have h23:=h2.kb k3;have hm3:=hm.kb (k2.trans k3);generalize upd H2 c (.tup [.ref qr])=H3 at *;refine r8 h23 h3 (by rw[JK];simp;lia) λu4 H4 k4 h4=>?_
    refine tS (k:=k) (hm3.kb k4) λu5 H5 k5 h5=>?_;refine r8 (h4.kb k5) h5 (by rw[Ju,JK,JW];simp;lia) λu6 H6 k6 h6=>?_
    have k06:=k03.trans (k4.trans (k5.trans k6));have ox6:=k06 _ _ ox (by simp)
    refine⟨x,C,dx,_,rfl,ox6,cM,na_rows,(show 2<1000 by decide),?_⟩
    have k7:KB [x] H6 (upd H6 x (.ins C dx (dI "rows" (.ref u6) [("book",.ref b),("rows",.ref ra)]))):=KB.set (by simp)
    have nt:=iU ox6;exact q _ ⟨(hb.kb k06).keep k7 nt,k7 _ _ (k06 _ _ od (by simp)) (by simpa using ndx),u6,aa,h6.keep k7 nt⟩ (k06.all.trans k7)
   refine j0 λA B hA hB=>?_
   cases c:az r with
   |none =>
    rw[c] at step;exists Jx (show ¬ ¬ bK none=V.aG from λz=>z rfl);rw[hB];exact step
   |some t =>
    rw[c] at step;have ht:=fY hro c;rw[show bK (some t)=V.int (t:Nat) from rfl] at step ⊢;exists J6 (show ¬ V.int (t:Nat)=V.aG from V.noConfusion),Jx (show ¬ ((t:Nat):Int)<0 by lia)
    refine .inl ⟨_,_,rfl,rfl,?_⟩;exists Jx (show ¬ ((rs.length:Nat):Int)+1<((t:Nat):Int) by lia)
    rw[hB];exact step
  ·refine⟨_,(Z.ao (Z.se (i:=3) b6.nd (Z.cb (Z.cH K rfl) rfl T.cy (by decide +kernel) (Z.cons (Z.fld K rfl (Z.v 0)) Z.nil)))
   (Z.ao (Z.cJ (Z.tw (Z.Aj (Z.aI e8 (Z.v 1) Z.int) (Z.mh (Z.aI kB (Z.v 1) (Z.v 3))))) (Z.ax (Z.iZ rfl hC_NoRow kC_NoRow (Z.cons (Z.uJ (Z.fD (Z.jx (Z.v 1) (Z.fD (Z.jx (Z.v 3) (Z.fD Z.u_)))))) Z.nil))) Z.b8)
   (Z.ao (Z.se (i:=4) b6.nd (Z.fc hgoal_of (Z.cons (Z.v 2) Z.nil)))
   (Z.ao (Z.cJ (Z.tw (Z.uP (Z.aI gY (Z.v 4) Z.aG) (Z.mV (Z.tw (Z.Aj (Z.aI e8 (Z.v 4) Z.int) (Z.mh (Z.aI kB (Z.v 4) (Z.op (Y.cc K rfl) (Z.v 3) Z.int)))))))) (Z.ax (Z.iZ rfl hC_NoRow kC_NoRow (Z.cons (Z.uJ (Z.fD (Z.jx (Z.v 4) (Z.fD (Z.jx (Z.v 3) (Z.fD Z.u_)))))) Z.nil))) Z.b8)
   (Z.ao (Z.se (i:=5) b6.nd (Z.fc hgoals_moved (Z.cons (Z.fld K rfl (Z.v 0)) (Z.cons (Z.v 1) (Z.cons Z.int Z.nil)))))
   (Z.ax (Z.uO K rfl (Z.v 0) (Z.op (Y.cc K rfl) (Z.op (Y.cc K rfl) (Z.slice (Y.ph K rfl) (Z.v 5) Z.rR (Z.oH (Z.v 1))) (Z.tup (Z.cons (Z.v 2) Z.nil))) (Z.slice (Y.ph K rfl) (Z.v 5) (Z.oH (Z.v 1)) Z.rR))))))))),?_⟩
   have big:∀{i:Int},i.natAbs<10000000->i.natAbs<2^1900:=λh=>L4 h (JQ (show 10000000<2^24 by decide) (Lk (by decide) (by decide)))
   have fin:∀e σ,H e=none->qS (fE (wc P w) P w K mg base ["self","place","row","many","goal","moved"] "Kept.put_in" (ae bf) f cdv A outer s H E) (.ref C_NoRow) none e σ (upd H e (.ext (gW e (.ref C_NoRow) none))):=λe σ he=>pz (q e _ ⟨KB.new he,he,aa⟩);refine au λN hN=>?_;walk_at "rz";refine⟨x,C,dx,_,_,rfl,ox,cM,na_rows,bZ _ _,?_⟩;exists aH ha,Jt,hpl;rw[hN];clear hN N;refine au λN hN=>?_;refine j0 λA B hA hB=>?_;by_cases c1:k<0\/(rs.length:Int)<k
   ·have hA':A [some (.ref x),some (.int k),some (.ref qr),some (.int (rs.length:Nat)),none,none] H:=by
     rw[hA];walk_at "rz";exact⟨big hk,big (by lia),λz hz=>⟨by decide,λe he=>fin e _ he⟩⟩
    by_cases c2:k<0
    ·exists J6 c2;exact hA'
    ·exists Jx c2,J6 (show (rs.length:Int)<k by lia)
     exact hA'
   ·exists Jx (show ¬ k<0 by lia),Jx (show ¬ (rs.length:Int)<k by lia)
    rw[hB];show N _ _;rw[hN];clear hN N hA hB A B;refine au λN hN=>?_;walk_at "rz";refine⟨qr,_,rfl,hq,?_⟩;rw[hN];clear hN N;obtain⟨g,eg,hg⟩:∃g,pF r=some g/\(g<0\/(rs.length:Int)+1<g):=by
     rcases hno with h|h|h
     ·exact absurd (.inl h) c1
     ·exact absurd (.inr h) c1
     ·exact h
    have ev:gU r=.int g:=by unfold gU;rw[eg]
    rw[ev];refine au λN hN=>?_;refine j0 λA B hA hB=>?_;have hA':A [some (.ref x),some (.int k),some (.ref qr),some (.int (rs.length:Nat)),some (.int g),none] H:=by
     rw[hA];walk_at "rz";exact⟨big (hgb g eg),big (by lia),λz hz=>⟨by decide,λe he=>fin e _ he⟩⟩
    by_cases c2:g<0
    ·exists J6 (show ¬ V.int g=V.aG from V.noConfusion),J6 c2;exact hA'
    ·exists J6 (show ¬ V.int g=V.aG from V.noConfusion),Jx c2;refine .inl ⟨_,_,rfl,rfl,?_⟩;exists J6 (show (rs.length:Int)+1<g by lia)
     exact hA'
noncomputable def j7(C N:Addr):Sp:=λvs H Q E=>∃(x dx b:Addr) (bk:List (List Int)) (rs:List Row),eJ C H x dx b bk rs/\rs.length<=64 /\
 ((∃k:Nat,vs=[.ref x,.int (k:Nat)]/\k<rs.length/\∀H',eJ C H' x dx b bk (i_ k rs)->KB [x] H H'->Q .aG H') \/
 ∃k:Int,vs=[.ref x,.int k]/\k.natAbs<10000000/\(k<0\/(rs.length:Int)<=k)/\∀e H',Exc H H' N e->E (.ref N) (some e) H')
theorem x5(T:Txt K mg)(hC_NoRow:mg "NoRow"=some (.ref C_NoRow))(kC_NoRow:fK K C_NoRow)(cM:lI K C)(na_rows:bN K C "rows")(hgoals_moved:aq P w K mg base aP 3 "goals_moved" ["rows","first","by"] ie)(F:lQ K "take_out" "Kept.take_out" aX f fd):bT P w K mg base (wc P w) 4 f fd ["self","place"] (j7 C C_NoRow):=by
 refine F.IQ cT (λvs H Q E h=>?_) (λcdv A outer s H vs Q E hr h=>?_)
 ·obtain⟨x,dx,b,bk,rs,_,_,h⟩:=h;rcases h with ⟨k,rfl,_⟩|⟨k,rfl,_⟩<;>rfl
 ·obtain⟨x,dx,b,bk,rs,⟨hb,od,ra,ox,hp⟩,hl,h⟩:=h;have hu:=aK hr;have ndx:dx≠x:=by rintro rfl;rw[ox] at od;cases od
  have hp':=hp;obtain⟨as,ha,hpl,_⟩:=hp';rcases h with ⟨k,rfl,hk,q⟩|⟨k,rfl,hk,hno,q⟩
  ·refine⟨_,(Z.ao (Z.se (i:=2) cT.nd (Z.cb (Z.cH K rfl) rfl T.cy (by decide +kernel) (Z.cons (Z.fld K rfl (Z.v 0)) Z.nil)))
   (Z.ao (Z.cJ (Z.tw (Z.Aj (Z.aI e8 (Z.v 1) Z.int) (Z.mh (Z.aI sI (Z.v 1) (Z.v 2))))) (Z.ax (Z.iZ rfl hC_NoRow kC_NoRow (Z.cons (Z.uJ (Z.fD (Z.jx (Z.v 1) (Z.fD (Z.jx (Z.v 2) (Z.fD Z.u_)))))) Z.nil))) Z.b8)
   (Z.ax (Z.uO K rfl (Z.v 0) (Z.fc hgoals_moved (Z.cons (Z.op (Y.cc K rfl) (Z.slice (Y.ph K rfl) (Z.fld K rfl (Z.v 0)) Z.rR (Z.oH (Z.v 1))) (Z.slice (Y.ph K rfl) (Z.fld K rfl (Z.v 0)) (Z.oH (Z.op (Y.cc K rfl) (Z.v 1) Z.int)) Z.rR)) (Z.cons (Z.op (Y.cc K rfl) (Z.v 1) Z.int) (Z.cons (Z.un dc Z.int) Z.nil)))))))),?_⟩
   refine au λN hN=>?_;walk_at "rz";refine⟨x,C,dx,_,_,rfl,ox,cM,na_rows,bZ _ _,?_⟩;exists aH ha,Jt,hpl;rw[hN];clear hN N;refine au λN hN=>?_;refine j0 λA B hA hB=>?_;exists Jx (show ¬ ((k:Nat):Int)<0 by lia),Jx (show ¬ ((rs.length:Nat):Int)<=((k:Nat):Int) by lia)
   rw[hB];show N _ _;rw[hN];clear hN N hA hB A B;walk_at "rz";refine⟨x,C,dx,_,_,rfl,ox,cM,na_rows,bZ _ _,?_⟩;refine xi (k:=k) hp λu1 H1 k1 h1=>?_;have ox1:=k1 _ _ ox (by simp)
   refine⟨x,C,dx,_,_,rfl,ox1,cM,na_rows,bZ _ _,?_⟩;refine .inl ⟨_,_,rfl,rfl,_,rfl,?_⟩;rw[show ((k:Nat):Int)+1=((k+1:Nat):Int) from rfl];refine tS (k:=k+1) (hp.kb k1) λu2 H2 k2 h2=>?_;refine r8 (h1.kb k2) h2 (by rw[JK,JW];lia) λu3 H3 k3 h3=>?_
   refine .inl ⟨_,_,rfl,rfl,?_⟩;refine⟨u3,_,k+1,-1,rfl,h3,by rw[Ju,JK,JW];lia,λt _=>by lia,λu4 H4 k4 h4=>?_⟩
   rw[show wo (k+1) (-1)=xB (k+1) from funext λr=>Hf (k+1) r] at h4;have k04:=k1.trans (k2.trans (k3.trans k4));have ox4:=k04 _ _ ox (by simp)
   refine⟨x,C,dx,_,rfl,ox4,cM,na_rows,(show 2<1000 by decide),?_⟩
   have k7:KB [x] H4 (upd H4 x (.ins C dx (dI "rows" (.ref u4) [("book",.ref b),("rows",.ref ra)]))):=KB.set (by simp)
   have nt:=iU ox4;exact q _ ⟨(hb.kb k04).keep k7 nt,k7 _ _ (k04 _ _ od (by simp)) (by simpa using ndx),u4,aa,h4.keep k7 nt⟩ (k04.all.trans k7)
  ·refine⟨_,(Z.ao (Z.se (i:=2) cT.nd (Z.cb (Z.cH K rfl) rfl T.cy (by decide +kernel) (Z.cons (Z.fld K rfl (Z.v 0)) Z.nil)))
   (Z.ao (Z.cJ (Z.tw (Z.Aj (Z.aI e8 (Z.v 1) Z.int) (Z.mh (Z.aI sI (Z.v 1) (Z.v 2))))) (Z.ax (Z.iZ rfl hC_NoRow kC_NoRow (Z.cons (Z.uJ (Z.fD (Z.jx (Z.v 1) (Z.fD (Z.jx (Z.v 2) (Z.fD Z.u_)))))) Z.nil))) Z.b8)
   (Z.ax (Z.uO K rfl (Z.v 0) (Z.fc hgoals_moved (Z.cons (Z.op (Y.cc K rfl) (Z.slice (Y.ph K rfl) (Z.fld K rfl (Z.v 0)) Z.rR (Z.oH (Z.v 1))) (Z.slice (Y.ph K rfl) (Z.fld K rfl (Z.v 0)) (Z.oH (Z.op (Y.cc K rfl) (Z.v 1) Z.int)) Z.rR)) (Z.cons (Z.op (Y.cc K rfl) (Z.v 1) Z.int) (Z.cons (Z.un dc Z.int) Z.nil)))))))),?_⟩
   have big:∀{i:Int},i.natAbs<10000000->i.natAbs<2^1900:=λh=>L4 h (JQ (show 10000000<2^24 by decide) (Lk (by decide) (by decide)))
   refine au λN hN=>?_;walk_at "rz";refine⟨x,C,dx,_,_,rfl,ox,cM,na_rows,bZ _ _,?_⟩;exists aH ha,Jt,hpl;rw[hN];clear hN N;refine au λN hN=>?_;refine j0 λA B hA hB=>?_;have hA':A [some (.ref x),some (.int k),some (.int (rs.length:Nat))] H:=by
    rw[hA];walk_at "rz";exact⟨big hk,big (by lia),λz hz=>⟨by decide,λe he=>pz (q e _ ⟨KB.new he,he,aa⟩)⟩⟩
   by_cases c2:k<0
   ·exists J6 c2;exact hA'
   ·exists Jx c2,J6 (show (rs.length:Int)<=k by lia)
    exact hA'
noncomputable def vL(C:Addr):Sp:=λvs H Q _=>∃(p dq x dx b:Addr) (n:Nat) (bk:List (List Int)) (rs:List Row),vs=[.ref p,.ref x,.int (rs.length:Nat)]/\aS H p dq n/\n<2^37/\eJ C H x dx b bk rs/\rs.length<=60/\∀H',KB [p,dq] H H'->aS H' p dq (n+20)->Q (.bl true) H'
theorem rH{ft:Addr}(T:Txt K mg)(F:HasFn K mg "_law_refused" cC ["deck","kept","many"])(h_law_draw:aq P w K mg base aP 2 "_law_draw" ["deck","most"] eE)(h_law_row:aq P w K mg base aP 4 "_law_row" ["deck","goals"] (sR K))(cM:lI K C)(mm_put_in:Meth K C "put_in" fp)(bm_put_in:Binds K d_put_in ["self","place","row"] [])(FP:∀N,mg "NoRow"=some (.ref N)->fK K N->bT P w K mg base (wc P w) 4 fp d_put_in ["self","place","row"] (kq C N))(mm_take_out:Meth K C "take_out" ft)(bm_take_out:Binds K d_take_out ["self","place"] [])(FT:∀N,mg "NoRow"=some (.ref N)->fK K N->bT P w K mg base (wc P w) 4 ft d_take_out ["self","place"] (j7 C N)):aq P w K mg base aP 5 "_law_refused" ["deck","kept","many"] (vL C):=by
 obtain⟨C_ShortError,C_NoRow,C_NoAsk,C_NoBits,C_NoCode,C_NoProgram,C_NoReach,hC_ShortError,hC_NoRow,hC_NoAsk,hC_NoBits,hC_NoCode,hC_NoProgram,hC_NoReach,kC_ShortError,kC_NoRow,xC_NoRow,p0,p1,p2,p3⟩:=T.xs;have FO_put_in:=FP _ hC_NoRow kC_NoRow;have FO_take_out:=FT _ hC_NoRow kC_NoRow;refine F.eX bo (λvs H Q E h=>?_) (λf cdv A outer s H vs Q E hr h=>?_)
 ·obtain⟨p,dq,x,dx,b,n,bk,rs,rfl,_⟩:=h;rfl
 ·have hu:=aK hr;obtain⟨p,dq,x,dx,b,n,bk,rs,rfl,hD,hn,ks,hl,q⟩:=h;refine⟨_,(Z.ao (Z.se (i:=3) bo.nd (Z.fc h_law_draw (Z.cons (Z.v 0) (Z.cons Z.int Z.nil))))
   (Z.ao (Z.cJ (Z.aI bj (Z.v 2) Z.int) (Z.ax (Z.se (i:=3) bo.nd (Z.op (Z.aC K rfl) Z.int (Z.op eI (Z.v 3) Z.int)))) Z.b8)
   (Z.ao (Z.se (i:=4) bo.nd (Z.op (Z.aC K rfl) Z.int (Z.fc h_law_draw (Z.cons (Z.v 0) (Z.cons (Z.ix (Z.aA K rfl hu) (Z.lst (Z.cons Z.int (Z.cons (Z.op w_ Z.int Z.int) Z.nil))) (Z.fc h_law_draw (Z.cons (Z.v 0) (Z.cons Z.int Z.nil)))) Z.nil)))))
   (Z.ao (Z.se (i:=5) bo.nd Z.aG)
   (Z.ao (Z.Iq (i:=6) K hC_ShortError kC_ShortError bo.nd (λ_ _ _ hD=>(Z.ax (Z.cJ (Z.aI bj (Z.v 3) Z.int) (Z.ax (Z.expr (Z.fA K hD (Z.v 1) cM mm_put_in FO_put_in bm_put_in (Z.cons (Z.op (Z.aC K rfl) (Z.v 2) (Z.v 4)) (Z.cons (Z.fc h_law_row (Z.cons (Z.v 0) (Z.cons (Z.op (Z.aC K rfl) (Z.v 2) Z.int) Z.nil))) Z.nil))))) (Z.ax (Z.cJ (Z.aI bj (Z.v 3) Z.int) (Z.ax (Z.expr (Z.fA K hD (Z.v 1) cM mm_put_in FO_put_in bm_put_in (Z.cons (Z.op cO Z.int (Z.v 4)) (Z.cons (Z.fc h_law_row (Z.cons (Z.v 0) (Z.cons (Z.op (Z.aC K rfl) (Z.v 2) Z.int) Z.nil))) Z.nil))))) (Z.ax (Z.cJ (Z.aI bj (Z.v 3) Z.int) (Z.ax (Z.expr (Z.fA K hD (Z.v 1) cM mm_put_in FO_put_in bm_put_in (Z.cons (Z.fc h_law_draw (Z.cons (Z.v 0) (Z.cons (Z.op (Z.aC K rfl) (Z.v 2) Z.int) Z.nil))) (Z.cons (Z.tup (Z.cons Z.str (Z.cons (Z.op (Z.aC K rfl) (Z.op (Z.aC K rfl) (Z.v 2) Z.int) (Z.v 4)) Z.nil))) Z.nil))))) (Z.ax (Z.cJ (Z.aI bj (Z.v 3) Z.int) (Z.ax (Z.expr (Z.fA K hD (Z.v 1) cM mm_put_in FO_put_in bm_put_in (Z.cons (Z.fc h_law_draw (Z.cons (Z.v 0) (Z.cons (Z.op (Z.aC K rfl) (Z.v 2) Z.int) Z.nil))) (Z.cons (Z.tup (Z.cons Z.str (Z.cons Z.str (Z.cons (Z.op (Z.aC K rfl) (Z.op (Z.aC K rfl) (Z.v 2) Z.int) (Z.v 4)) Z.nil)))) Z.nil))))) (Z.ax (Z.cJ (Z.aI bj (Z.v 3) Z.int) (Z.ax (Z.expr (Z.fA K hD (Z.v 1) cM mm_put_in FO_put_in bm_put_in (Z.cons (Z.fc h_law_draw (Z.cons (Z.v 0) (Z.cons (Z.op (Z.aC K rfl) (Z.v 2) Z.int) Z.nil))) (Z.cons (Z.tup (Z.cons Z.str (Z.cons (Z.op cO Z.int (Z.v 4)) Z.nil))) Z.nil))))) (Z.ax (Z.cJ (Z.aI bj (Z.v 3) Z.int) (Z.ax (Z.expr (Z.fA K hD (Z.v 1) cM mm_put_in FO_put_in bm_put_in (Z.cons (Z.fc h_law_draw (Z.cons (Z.v 0) (Z.cons (Z.op (Z.aC K rfl) (Z.v 2) Z.int) Z.nil))) (Z.cons (Z.tup (Z.cons Z.str (Z.cons Z.str (Z.cons (Z.op cO Z.int (Z.v 4)) Z.nil)))) Z.nil))))) (Z.ax (Z.cJ (Z.aI bj (Z.v 3) Z.int) (Z.ax (Z.expr (Z.fA K hD (Z.v 1) cM mm_take_out FO_take_out bm_take_out (Z.cons (Z.op (Z.aC K rfl) (Z.op cO (Z.v 2) Z.int) (Z.v 4)) Z.nil)))) (Z.ax (Z.expr (Z.fA K hD (Z.v 1) cM mm_take_out FO_take_out bm_take_out (Z.cons (Z.op cO Z.int (Z.v 4)) Z.nil))))))))))))))))))) (λ_=>(Z.ax (Z.se (i:=5) bo.nd (Z.v 6)))))
   (Z.ao (Z.cJ (Z.qN K rfl (Z.cb (GR K [C_NoAsk,C_NoBits,C_NoCode,C_NoProgram,C_NoReach] rfl) rfl T.fm (by decide +kernel) (Z.cons (Z.v 5) (Z.cons (Z.tup (Z.cons (Z.glob rfl hC_NoAsk (show RelV (.ref C_NoAsk) _ from rfl)) (Z.cons (Z.glob rfl hC_NoBits (show RelV (.ref C_NoBits) _ from rfl)) (Z.cons (Z.glob rfl hC_NoCode (show RelV (.ref C_NoCode) _ from rfl)) (Z.cons (Z.glob rfl hC_NoProgram (show RelV (.ref C_NoProgram) _ from rfl)) (Z.cons (Z.glob rfl hC_NoReach (show RelV (.ref C_NoReach) _ from rfl)) Z.nil)))))) Z.nil)))) (Z.ax (Z.ret Z.bl)) Z.b8)
   (Z.ax (Z.ret (Z.and (Z.cb (C0 K (.ref C_NoRow) (.ref C_NoRow) (λ_ h=>h) rfl) rfl T.fm (by decide +kernel) (Z.cons (Z.v 5) (Z.cons (Z.glob rfl hC_NoRow (show RelV (.ref C_NoRow) _ from rfl)) Z.nil))) (Z.one (Z.cb (C0 K (.ty "ValueError") (.type "ValueError") (λ_ h=>h) rfl) rfl T.fm (by decide +kernel) (Z.cons (Z.v 5) (Z.cons (Z.Jl (T:="ValueError") rfl T.oo (by decide +kernel)) Z.nil))))))))))))),?_⟩
  refine au λN hN=>?_;walk_at "rz";refine⟨p,dq,8,n,rfl,hD,by lia,by decide,by decide,λw0 H1 hw0 D1 k1=>?_⟩
  rw[hN];clear hN N;refine au λN hN=>?_;have go:∀w1:Nat,w1<8->(rs.length=60->6<=w1)->N [some (.ref p),some (.ref x),some (.int (rs.length:Nat)),some (.int (w1:Nat)),none,none,none] H1:=by
   intro w1 hw hw6;rw[hN];clear hN N;have ks1:=ks.deck hD k1;refine au λN hN=>?_;walk_at "rz";refine⟨⟨by decide,by decide,by decide⟩,by decide,λl hl'=>?_⟩
   rw[show (10:Int)^Int.toNat 6=1000000 from rfl];have k2:=KB.new (ex:=[]) (o:=.lst [.int 2,.int 1000000]) hl';have s2:upd H1 l (.lst [.int 2,.int 1000000]) l=_:=aa;generalize upd H1 l (.lst [.int 2,.int 1000000])=H2 at *;have nl:=D1.new hl';have D2:=D1.kb k2;refine⟨p,dq,2,_,rfl,D2,by lia,by decide,by decide,λv H3 hv D3 k3=>?_⟩
   obtain⟨m,hm,em⟩:∃m:Int,(0<m/\m<=1000000)/\bX [V.int 2,.int 1000000] (v:Int)=some (.int m):=by
    rcases (show v=0\/v=1 by lia) with rfl|rfl
    ·exact⟨2,by decide,rfl⟩
    ·exact⟨1000000,by decide,rfl⟩
   exists ay (k3 _ _ s2 nl),em;refine⟨p,dq,m,_,rfl,D3,by lia,hm.1,by lia,λf0 H4 hf0 D4 k4=>?_⟩
   have ks4:=((ks1.kb k2).deck D2 k3).deck D3 k4;have k04:KB [p,dq] H H4:=k1.trans (k2.all.trans (k3.trans k4));walk_at "rz";rw[show (1:Int)+((f0:Nat):Int)=((1+f0:Nat):Int) from rfl];obtain⟨far,ef⟩:∃far:Nat,far=1+f0:=⟨_,rfl⟩;rw[<- ef];have hf:1<=far/\far<=1000000:=by lia
   rw[hN];clear hN N;clear k2 k3 k4 s2 nl D2 D3 hl' em ks1;refine au λN hN=>?_;walk_at "rz";rw[hN];clear hN N;refine au λN hN=>?_;intro Dx hW;obtain⟨ra,ox,_⟩:=ks4.ex;have hR:∀e G H',Exc G H' C_NoRow e->KB [p,dq] H G->aS G p dq (n+20)->Dx (.ref C_NoRow) none e [some (.ref p),some (.ref x),some (.int (rs.length:Nat)),some (.int (w1:Nat)),some (.int (far:Nat)),some .aG,none] H':=λe G H' hE kG DG=>by
    obtain⟨kE,_,he⟩:=hE;refine hW _ _ _ _ _ ⟨⟨C_NoRow,rfl,rfl,kC_NoRow,p0⟩,he,?_⟩;walk_at "rz";show N _ _;rw[hN];have ty:HP K H' (.ref e) (.ref C_NoRow):=.inr ⟨e,C_NoRow,rfl,rfl,he,xC_NoRow⟩;refine au λN hN=>?_;refine j0 λA B hA hB=>?_;walk_at "rz";refine⟨by decide,λtp htp=>?_⟩
    have kt:=KB.new (ex:=[]) (o:=.tup [.ref C_NoAsk,.ref C_NoBits,.ref C_NoCode,.ref C_NoProgram,.ref C_NoReach]) htp;have st:upd H' tp (.tup [.ref C_NoAsk,.ref C_NoBits,.ref C_NoCode,.ref C_NoProgram,.ref C_NoReach]) tp=_:=aa;generalize upd H' tp (.tup [.ref C_NoAsk,.ref C_NoBits,.ref C_NoCode,.ref C_NoProgram,.ref C_NoReach])=H'' at *;have he2:=kt _ _ he (by simp)
    have ty2:HP K H'' (.ref e) (.ref C_NoRow):=.inr ⟨e,C_NoRow,rfl,rfl,he2,xC_NoRow⟩;refine⟨_,_,_,tp,rfl,st,ty2,p3,?_⟩;refine⟨false,rfl,?_⟩;rw[Jx JE,hB];show N _ _;rw[hN];clear hN N hA hB A B;walk_at "rz";refine⟨_,_,_,rfl,ty2,p1,?_⟩;refine⟨true,rfl,?_⟩;rw[J6 rfl];refine⟨_,_,_,rfl,ty2,p2,?_⟩;exact q H'' (kG.trans (kE.all.trans kt.all)) ((DG.kb kE).kb kt)
   clear hW;have D4':aS H4 p dq (n+6):=D4.mono (by lia)
   clear D4 hN;have cx:∀e G H',Exc G H' C_NoRow e->KB [p,dq] H G->aS G p dq (n+20)->FA Dx [some (.ref p),some (.ref x),some (.int (rs.length:Nat)),some (.int (w1:Nat)),some (.int (far:Nat)),some .aG,none] G (.ref C_NoRow) (some e) H':=λe G H' hE kG DG=>⟨e,none,rfl,hE.2.2,λ_ _=>hR e G H' hE kG DG⟩;clear hR;have put2:∀(mr:gu) (g:Int),pF mr=some g->g.natAbs<10000000->(g<0\/(rs.length:Int)+1<g)->∀(v:Nat) (G:Hp) (t:Addr),v<=rs.length->G t=none->aS G p dq (n+6+1)->KB [p,dq] H4 G->∀(Q':VK) (vs:List V),vs=mr.vs->kq C C_NoRow [.ref x,.int (v:Nat),.ref t] (upd G t (.tup vs)) Q' (FA Dx [some (.ref p),some (.ref x),some (.int (rs.length:Nat)),some (.int (w1:Nat)),some (.int (far:Nat)),some .aG,none] (upd G t (.tup vs))):=λmr g e1 e2 e3 v G t hv ht DG kG Q' vs ev=>by
    subst ev;have kt:=KB.new (ex:=[]) (o:=.tup mr.vs) ht;have st:upd G t (.tup mr.vs) t=_:=aa;generalize upd G t (.tup mr.vs)=G2 at *;refine⟨x,dx,b,t,bk,rs,(ks4.deck D4' kG).kb kt,hl,.inr ⟨_,mr,rfl,st,by lia,λg' e=>?_,.inr (.inr ⟨g,e1,e3⟩),λe H' hE=>cx e G2 H' hE (k04.trans (kG.trans kt.all)) ((DG.kb kt).mono (by lia))⟩⟩
    rw[e1] at e;cases e;exact e2
   have put1:∀(i:Int),i.natAbs<10000000->(i<0\/(rs.length:Int)<i)->∀(r:Row) (t:Addr) (G:Hp),r.Ok (rs.length+1)->G t=some (.tup r.vs)->aS G p dq (n+6+5)->KB [p,dq] H4 G->∀(Q':VK),kq C C_NoRow [.ref x,.int i,.ref t] G Q' (FA Dx [some (.ref p),some (.ref x),some (.int (rs.length:Nat)),some (.int (w1:Nat)),some (.int (far:Nat)),some .aG,none] G):=λi e2 e3 r t G hro ht DG kG Q'=>by
    rw[AM] at ht;refine⟨x,dx,b,t,bk,rs,ks4.deck D4' kG,hl,.inr ⟨i,_,rfl,ht,e2,λg' e=>?_,e3.imp id .inl,λe H' hE=>cx e G H' hE (k04.trans kG) (DG.mono (by lia))⟩⟩
    cases r with
    |jump g=>cases e;have:g<=rs.length+1:=hro;show ((g:Nat):Int).natAbs<_;lia
    |zero b g=>cases e;have:g<=rs.length+1:=hro.2;show ((g:Nat):Int).natAbs<_;lia
    |put=>cases e
    |two=>cases e
    |one=>cases e
    |halt=>cases e
   have take1:∀(i:Int),i.natAbs<10000000->(i<0\/(rs.length:Int)<=i)->∀(Q':VK),j7 C C_NoRow [.ref x,.int i] H4 Q' (FA Dx [some (.ref p),some (.ref x),some (.int (rs.length:Nat)),some (.int (w1:Nat)),some (.int (far:Nat)),some .aG,none] H4):=λi e2 e3 Q'=>⟨x,dx,b,bk,rs,ks4,by lia,.inr ⟨i,rfl,e2,e3,λe H' hE=>cx e H4 H' hE k04 (D4'.mono (by lia))⟩⟩
   clear cx;refine j0 λA B hA hB=>?_;walk_at "rz";by_cases c0:((w1:Nat):Int)=0
   ·rw[J6 c0,hA];clear hA hB;walk_at "rz";refine⟨x,dx,_,rfl,ox,rfl,p,dq,rs.length+1,_,rfl,D4',by lia,by lia,λr t G hro ht DG kG=>put1 _ (by lia) (by lia) r t G hro ht DG kG _⟩
   rw[Jx c0,hB];clear hA hB A B;refine j0 λA B hA hB=>?_;walk_at "rz";by_cases c1:((w1:Nat):Int)=1
   ·rw[J6 c1,hA];clear hA hB;walk_at "rz";refine⟨x,dx,_,rfl,ox,rfl,p,dq,rs.length+1,_,rfl,D4',by lia,by lia,λr t G hro ht DG kG=>put1 _ (by lia) (by lia) r t G hro ht DG kG _⟩
   rw[Jx c1,hB];clear hA hB A B;refine j0 λA B hA hB=>?_;walk_at "rz";by_cases c2:((w1:Nat):Int)=2
   ·rw[J6 c2,hA];clear hA hB;walk_at "rz";refine⟨x,dx,_,rfl,ox,rfl,p,dq,_,_,rfl,D4',by lia,by lia,by lia,λv G hv DG kG=>⟨by decide,λt ht=>put2 (.jump ((rs.length:Int)+1+(far:Int))) _ rfl (by lia) (by lia) v G t (by lia) ht DG kG _ _ rfl⟩⟩
   rw[Jx c2,hB];clear hA hB A B;refine j0 λA B hA hB=>?_;walk_at "rz";by_cases c3:((w1:Nat):Int)=3
   ·rw[J6 c3,hA];clear hA hB;walk_at "rz";refine⟨x,dx,_,rfl,ox,rfl,p,dq,_,_,rfl,D4',by lia,by lia,by lia,λv G hv DG kG=>⟨by decide,λt ht=>put2 (.zero 1 ((rs.length:Int)+1+(far:Int))) _ rfl (by lia) (by lia) v G t (by lia) ht DG kG _ _ rfl⟩⟩
   rw[Jx c3,hB];clear hA hB A B;refine j0 λA B hA hB=>?_;walk_at "rz";by_cases c4:((w1:Nat):Int)=4
   ·rw[J6 c4,hA];clear hA hB;walk_at "rz";refine⟨x,dx,_,rfl,ox,rfl,p,dq,_,_,rfl,D4',by lia,by lia,by lia,λv G hv DG kG=>⟨by decide,λt ht=>put2 (.jump (0-(far:Int))) _ rfl (by lia) (by lia) v G t (by lia) ht DG kG _ _ rfl⟩⟩
   rw[Jx c4,hB];clear hA hB A B;refine j0 λA B hA hB=>?_;walk_at "rz";by_cases c5:((w1:Nat):Int)=5
   ·rw[J6 c5,hA];clear hA hB;walk_at "rz";refine⟨x,dx,_,rfl,ox,rfl,p,dq,_,_,rfl,D4',by lia,by lia,by lia,λv G hv DG kG=>⟨by decide,λt ht=>put2 (.zero 7 (0-(far:Int))) _ rfl (by lia) (by lia) v G t (by lia) ht DG kG _ _ rfl⟩⟩
   rw[Jx c5,hB];clear hA hB A B;refine j0 λA B hA hB=>?_;walk_at "rz";by_cases c6:((w1:Nat):Int)=6
   ·rw[J6 c6,hA];clear hA hB;walk_at "rz";exact⟨x,dx,_,rfl,ox,rfl,take1 _ (by lia) (by lia) _⟩
   rw[Jx c6,hB];clear hA hB A B;walk_at "rz";exact⟨x,dx,_,rfl,ox,rfl,take1 _ (by lia) (by lia) _⟩
  refine j0 λA B hA hB=>?_;walk_at "rz";by_cases c:(rs.length:Int)=60
  ·rw[J6 c,hA];walk_at "rz";refine⟨by decide,?_⟩
   rw[show (6:Int)+((w0:Nat):Int) % 2=((6+w0 % 2:Nat):Int) by lia]
   exact go (6+w0 % 2) (by lia) (λ_=>by lia)
  ·rw[Jx c,hB];exact go w0 (by lia) (λz=>absurd (by lia) c)
noncomputable def t8(C:Addr):Sp:=λvs H Q _=>∃(x dx b:Addr) (bk:List (List Int)) (rs:List Row),vs=[.ref x]/\eJ C H x dx b bk rs/\Bk bk/\rs.length<=64/\(∀r∈rs,r.Ok rs.length)/\∀t ra u H',KB [] H H'->H' t=some (.tup [.ref ra,.str (wd (cS bk rs)),.ref u])->gO H' ra rs->H' u=some (.tup (iV (nZ (mf bk rs)).dropLast))->Q (.ref t) H'
theorem y8{fb fl:Addr}{d_bits d_places:FuncData}(T:Txt K mg)(F:HasFn K mg "_law_told" ee ["kept"])(cM:lI K C)(mm_program:Meth K C "program" fp)(bm_program:Binds K d_program ["self"] [])(FO_program:bT P w K mg base aP 1 fp d_program ["self"] (nV C))(mm_bits:Meth K C "bits" fb)(bm_bits:Binds K d_bits ["self"] [])(FO_bits:bT P w K mg base aP 8 fb d_bits ["self"] (sF C))(mm_places:Meth K C "places" fl)(bm_places:Binds K d_places ["self"] [])(FO_places:bT P w K mg base aP 8 fl d_places ["self"] (mW C)):aq P w K mg base aP 9 "_law_told" ["kept"] (t8 C):=by
 refine F.eX n6 (λvs H Q E h=>?_) (λf cdv A outer s H vs Q E hr h=>?_)
 ·obtain⟨x,dx,b,bk,rs,rfl,_⟩:=h;rfl
 ·have hu:=aK hr;obtain⟨x,dx,b,bk,rs,rfl,ks,hB,hl,aN,q⟩:=h;refine⟨_,(Z.ax (Z.ret (Z.tup (Z.cons (Z.jh K rfl (Z.v 0) cM mm_program FO_program (hr.mono (by decide)) bm_program fJ) (Z.cons (Z.jh K rfl (Z.v 0) cM mm_bits FO_bits (hr.mono (by decide)) bm_bits fJ) (Z.cons (Z.jh K rfl (Z.v 0) cM mm_places FO_places (hr.mono (by decide)) bm_places fJ) Z.nil)))))),?_⟩
  obtain⟨ra,ox,_⟩:=ks.ex;walk_at "rz";refine⟨x,dx,_,rfl,ox,rfl,x,dx,b,bk,rs,rfl,ks,λra hra=>?_⟩;refine⟨x,dx,_,rfl,ox,rfl,x,dx,b,bk,rs,rfl,ks,hB,hl,aN,λH1 k1=>?_⟩;refine⟨x,dx,_,rfl,k1 _ _ ox (by simp),rfl,x,dx,b,bk,rs,rfl,ks.kb k1,hB,hl,aN,λu H2 k2 hu2=>⟨by decide,λt ht=>?_⟩⟩
  have k3:=KB.new (ex:=[]) (o:=.tup [.ref ra,.str (wd (cS bk rs)),.ref u]) ht;exact q t ra u _ (k1.trans (k2.trans k3)) aa (hra.kb (k1.trans (k2.trans k3))) (k3 _ _ hu2 (by simp))
noncomputable def xP(C:Addr):Sp:=λvs H Q _=>∃(x dx b:Addr) (bk:List (List Int)) (rs:List Row),vs=[.ref x,.ref b]/\eJ C H x dx b bk rs/\Bk bk/\rs.length<=64/\(∀r∈rs,r.Ok rs.length)/\∀H',KB [] H H'->Q (.bl true) H'
theorem uU(T:Txt K mg)(F:HasFn K mg "_law_right" dn ["kept","book"])(h_law_told:aq P w K mg base aP 9 "_law_told" ["kept"] (t8 C))(hpack_rows:aq P w K mg base aP 7 "pack_rows" ["program","book"] gX)(hread_rows:aq P w K mg base aP 7 "read_rows" ["bits","book"] ow):aq P w K mg base aP 10 "_law_right" ["kept","book"] (xP C):=by
 refine F.eX cW (λvs H Q E h=>?_) (λf cdv A outer s H vs Q E hr h=>?_)
 ·obtain⟨x,dx,b,bk,rs,rfl,_⟩:=h;rfl
 ·have hu:=aK hr;obtain⟨x,dx,b,bk,rs,rfl,ks,hB,hl,aN,q⟩:=h;have L:=so hB hl aN;have bnz:d8 (cS bk rs):=zG (EB bk) _ _ _ _;refine⟨_,(Z.ao (Z.asg (Z.fc h_law_told (Z.cons (Z.v 0) Z.nil)) (Z.ot (n:=3) K rfl rfl (Z.bP (Z.aY (i:=2) cW.nd rfl (by right)) (Z.bP (Z.aY (i:=3) cW.nd rfl (by right)) (Z.bP (Z.aY (i:=4) cW.nd rfl (by right)) Z.hV)))))
   (Z.ax (Z.ret (Z.and (Z.cmp (Y.r6 K rfl (iD hr)) (Z.fc hpack_rows (Z.cons (Z.v 2) (Z.cons (Z.v 1) Z.nil))) (Z.tup (Z.cons (Z.v 3) (Z.cons (Z.v 4) Z.nil)))) (Z.one (Z.cmp (Y.r6 K rfl (iD hr)) (Z.fc hread_rows (Z.cons (Z.v 3) (Z.cons (Z.v 1) Z.nil))) (Z.v 2))))))),?_⟩
  refine au λN hN=>?_;walk_at "rz";refine⟨x,dx,b,bk,rs,rfl,ks,hB,hl,aN,λt ra u H1 k1 e1 e2 e3=>?_⟩;unfold aZ;refine⟨t,_,rfl,bb.of e1,rfl,_,_,rfl,_,_,rfl,_,_,rfl,rfl,?_⟩;rw[hN];clear hN N;have hb1:=ks.bk.kb k1;walk_at "rz";refine⟨ra,b,bk,rs,rfl,e2,hb1,hB,hl,aN,λt2 u2 H2 k2 f1 f2=>⟨by decide,λt3 ht3=>?_⟩⟩
  have k3:=KB.new (ex:=[]) (o:=.tup [.str (wd (cS bk rs)),.ref u]) ht3;have s3:upd H2 t3 (.tup [.str (wd (cS bk rs)),.ref u]) t3=_:=aa;generalize upd H2 t3 (.tup [.str (wd (cS bk rs)),.ref u])=H3 at *;have k13:=k2.trans k3;refine .inr (i8 (neg:=false) (k3 _ _ f1 (by simp)) s3 (xs:=[.str (wd (cS bk rs)),.tup ((nZ (mf bk rs)).dropLast.map L2.T.int)]) (.cons (.str _) (.cons (j3 (k3 _ _ f2 (by simp))) .nil)) (.cons (.str _) (.cons (j3 (k13 _ _ e3 (by simp))) .nil)) (λy hy=>?_) ?_)
  ·simp only[J5,Ka,KU] at hy;rcases hy with rfl|rfl
   ·exact nJ _ _
   ·exact qc _ _
  refine⟨true,rfl,?_⟩;rw[J6 rfl];refine⟨b,bk,rs,_,_,_,rfl,hb1.kb k13,hB,L,bnz,λt4 H4 k4 h4=>?_⟩;have k14:=k13.trans k4;obtain⟨as4,g1,g2⟩:=h4;obtain⟨as2,g3,g4⟩:=e2.kb k14;exact .inr (i8 (neg:=false) g1 g3 (dY g2) (dY g4) (λx hx=>by
   obtain⟨r,_,rfl⟩:=J_.mp hx;exact jA 3 r) (q H4 (k1.trans k14)))
structure Tw (C:Addr) (H:Hp) (kl x dx b y dy c:Addr) (bk ck:List (List Int)) (rs:List Row):Prop where
 kl:H kl=some (.lst [.ref x,.ref y])
 k1:eJ C H x dx b bk rs
 k2:eJ C H y dy c ck rs
 ne:x≠y
 le:rs.length<=60
 ok:∀r∈rs,r.Ok rs.length
theorem eJ.other{y c:Addr}{rs ts:List Row}{bk:List (List Int)}(h:eJ C H y dy c ck ts)(hx:eJ C H x dx b bk rs)(ne:x≠y)(k:KB [x] H H'):eJ C H' y dy c ck ts:=by
 obtain⟨ra,ox,_⟩:=hx.ex;refine h.keep k (iU ox) (by simpa using ne.symm) ?_
 have:=h.od;simp only[JG];rintro rfl;rw[ox] at this;cases this
theorem cz{kl:Addr}{fs:List (Str×V)}(h:H kl=some (.lst xs))(ox:H x=some (.ins C dx fs))(k:KB [x] H H'):H' kl=some (.lst xs):=k _ _ h (by
 simp only[JG];rintro rfl;rw[ox] at h;cases h)
noncomputable def Ek(C:Addr):Sp:=λvs H Q _=>∃(p dq kl x dx b y dy c:Addr) (n:Nat) (bk ck:List (List Int)) (rs:List Row),vs=[.ref p,.ref kl]/\aS H p dq n/\n<2^37/\kl∉[p,dq]/\Tw C H kl x dx b y dy c bk ck rs/\∀rs' H',Tw C H' kl x dx b y dy c bk ck rs'->aS H' p dq (n+8)->KB [p,dq,x,y] H H'->Q .aG H'
theorem Aw{fq ft:Addr}(T:Txt K mg)(F:HasFn K mg "_law_both" dX ["deck","kepts"])(h_law_draw:aq P w K mg base aP 2 "_law_draw" ["deck","most"] eE)(h_law_row:aq P w K mg base aP 4 "_law_row" ["deck","goals"] (sR K))(cM:lI K C)(mm_program:Meth K C "program" fp)(bm_program:Binds K d_program ["self"] [])(FO_program:bT P w K mg base aP 1 fp d_program ["self"] (nV C)){N:Addr}(mm_put_in:Meth K C "put_in" fq)(bm_put_in:Binds K d_put_in ["self","place","row"] [])(FO_put_in:bT P w K mg base (wc P w) 4 fq d_put_in ["self","place","row"] (kq C N))(mm_take_out:Meth K C "take_out" ft)(bm_take_out:Binds K d_take_out ["self","place"] [])(FO_take_out:bT P w K mg base (wc P w) 4 ft d_take_out ["self","place"] (j7 C N)):aq P w K mg base aP 5 "_law_both" ["deck","kepts"] (Ek C):=by
 refine F.eX bM (λvs H Q E h=>?_) (λf cdv A outer s H vs Q E hr h=>?_)
 ·obtain⟨p,dq,kl,x,dx,b,y,dy,c,n,bk,ck,rs,rfl,_⟩:=h;rfl
 ·have hu:=aK hr;obtain⟨p,dq,kl,x,dx,b,y,dy,c,n,bk,ck,rs,rfl,hD,hn,nk,tw,q⟩:=h;refine⟨_,(Z.ao (Z.se (i:=2) bM.nd (Z.cb (Z.cH K rfl) rfl T.cy (by decide +kernel) (Z.cons (Z.jh K rfl (Z.ix (Z.aA K rfl hu) (Z.v 1) Z.int) cM mm_program FO_program (hr.mono (by decide)) bm_program fJ) Z.nil)))
   (Z.ax (Z.cJ (Z.tw (Z.Aj (Z.aI bj (Z.v 2) Z.int) (Z.mh (Z.tw (Z.uP (Z.aI kB (Z.v 2) Z.int) (Z.mV (Z.aI bj (Z.fc h_law_draw (Z.cons (Z.v 0) (Z.cons Z.int Z.nil))) Z.int))))))) (Z.ao (Z.se (i:=3) bM.nd (Z.fc h_law_draw (Z.cons (Z.v 0) (Z.cons (Z.v 2) Z.nil))))
   (Z.ax (Z.iy Ke rfl (Z.any K rfl (Z.v 1)) (Z.aY (i:=4) bM.nd rfl (by right)) (Z.ax (Z.expr (Z.fA K rfl (Z.v 4) cM mm_take_out FO_take_out bm_take_out (Z.cons (Z.v 3) Z.nil))))))) (Z.ao (Z.se (i:=3) bM.nd (Z.fc h_law_draw (Z.cons (Z.v 0) (Z.cons (Z.op (Z.aC K rfl) (Z.v 2) Z.int) Z.nil))))
   (Z.ao (Z.se (i:=5) bM.nd (Z.fc h_law_row (Z.cons (Z.v 0) (Z.cons (Z.op (Z.aC K rfl) (Z.v 2) Z.int) Z.nil))))
   (Z.ax (Z.iy Ke rfl (Z.any K rfl (Z.v 1)) (Z.aY (i:=4) bM.nd rfl (by right)) (Z.ax (Z.expr (Z.fA K rfl (Z.v 4) cM mm_put_in FO_put_in bm_put_in (Z.cons (Z.v 3) (Z.cons (Z.v 5) Z.nil)))))))))))),?_⟩
  have hrl:=tw.le;obtain⟨ra,ox,_⟩:=tw.k1.ex;refine au λN hN=>?_;exists ay tw.kl,nO;refine⟨x,dx,_,rfl,ox,rfl,x,dx,b,bk,rs,rfl,tw.k1,λrb hrb=>?_⟩;obtain⟨as,ha,hpl,_⟩:=hrb;exists aH ha,Jt,hpl;rw[hN];clear hN N;have twd:∀{G G':Hp} {m:Nat},aS G p dq m->Tw C G kl x dx b y dy c bk ck rs->KB [p,dq] G G'->Tw C G' kl x dx b y dy c bk ck rs:=λD t k=>⟨k _ _ t.kl nk,t.k1.deck D k,t.k2.deck D k,t.ne,t.le,t.ok⟩;have all4:∀{G G':Hp},KB [p,dq] G G'->KB [p,dq,x,y] G G':=λk u o e z=>k u o e λh=>z (by simp only[J5,Ka,KU] at h ⊢;rcases h with h|h<;>simp[h])
  have allx:∀{G G':Hp},KB [x] G G'->KB [p,dq,x,y] G G':=λk u o e z=>k u o e λh=>z (by simp only[J5,Ka,KU] at h ⊢;simp[h])
  have ally:∀{G G':Hp},KB [y] G G'->KB [p,dq,x,y] G G':=λk u o e z=>k u o e λh=>z (by simp only[J5,Ka,KU] at h ⊢;simp[h])
  refine j0 λA B hA hB=>?_;have outA:∀G,KB [p,dq] H G->aS G p dq (n+1)->Tw C G kl x dx b y dy c bk ck rs->0<rs.length->A [some (.ref p),some (.ref kl),some (.int (rs.length:Nat)),none,none,none] G:=λG kG DG tG h0=>by
   rw[hA];clear hA hB;refine au λN hN=>?_;walk_at "rz";refine⟨p,dq,_,_,rfl,DG,by lia,by lia,by lia,λk G1 hk D1 k1=>?_⟩
   have t1:=twd DG tG k1;rw[hN];clear hN N;have ok':∀r∈i_ k rs,r.Ok (i_ k rs).length:=C_ (by lia) tw.ok
   have ln:(i_ k rs).length=rs.length-1:=t7 (by lia)
   dsimp only;refine qC λM hM=>?_;exists ay t1.kl;refine fZ (xs:=[V.ref x,.ref y]) (λj σ G2=>∃s5:Option V,σ=[some (.ref p),some (.ref kl),some (.int (rs.length:Nat)),some (.int (k:Nat)),s5,none]/\KB [p,dq,x,y] G1 G2/\aS G2 p dq (n+2)/\G2 kl=some (.lst [.ref x,.ref y])/\eJ C G2 x dx b bk (if j=0 then rs else i_ k rs)/\eJ C G2 y dy c ck (if j<=1 then rs else i_ k rs)) ⟨none,rfl,λu o e _=>e,D1,t1.kl,t1.k1,t1.k2⟩ (λj σ G2 _ h=>by obtain⟨_,_,_,_,h,_⟩:=h;exact bB.of h) ?_ ?_
   ·rintro j u σ G2 hu' ⟨s5,rfl,kb,DG2,hkl,kx,ky⟩;have hj:j<2:=(List.getElem?_eq_some_iff.mp hu').1;unfold aZ;dsimp only;refine qC λM2 hM2=>?_;rcases (show j=0\/j=1 by lia) with rfl|rfl
    ·cases hu';obtain⟨rx,ox2,_⟩:=kx.ex;walk_at "rz";refine⟨x,dx,_,rfl,ox2,rfl,x,dx,b,bk,rs,kx,by lia,.inl ⟨k,rfl,by lia,λG3 ks3 k3=>?_⟩⟩
     rw[hM2];exact⟨_,rfl,kb.trans (allx k3),kx.dk DG2 k3,cz hkl ox2 k3,ks3,ky.other kx tw.ne k3⟩
    ·cases hu';obtain⟨ry,oy2,_⟩:=ky.ex;walk_at "rz";refine⟨y,dy,_,rfl,oy2,rfl,y,dy,c,ck,rs,ky,by lia,.inl ⟨k,rfl,by lia,λG3 ks3 k3=>?_⟩⟩
     rw[hM2];exact⟨_,rfl,kb.trans (ally k3),ky.dk DG2 k3,cz hkl oy2 k3,kx.other ky tw.ne.symm k3,ks3⟩
   ·rintro σ G2 ⟨s5,rfl,kb,DG2,hkl,kx,ky⟩;show M _ _;rw[hM];exact q _ G2 ⟨hkl,kx,ky,tw.ne,by lia,ok'⟩ (DG2.mono (by lia)) ((all4 (kG.trans k1)).trans kb)
  have inB:∀G,KB [p,dq] H G->aS G p dq (n+1)->Tw C G kl x dx b y dy c bk ck rs->rs.length<60->B [some (.ref p),some (.ref kl),some (.int (rs.length:Nat)),none,none,none] G:=λG kG DG tG h0=>by
   rw[hB];clear hA hB outA;refine au λN hN=>?_;walk_at "rz";refine⟨p,dq,_,_,rfl,DG,by lia,by lia,by lia,λk G1 hk D1 k1=>?_⟩
   have t1:=twd DG tG k1;rw[hN];clear hN N;refine au λN hN=>?_;walk_at "rz";refine⟨p,dq,rs.length+1,_,rfl,D1,by lia,by lia,λr qr G4 hro hqr D4 k4=>?_⟩
   have t4:=twd D1 t1 k4;rw[hN];clear hN N;have ok':=y_ (k:=k) (x:=r) (by lia) hro tw.ok
   have ln:(hU k r rs).length=rs.length+1:=oz (by lia)
   dsimp only;refine qC λM hM=>?_;exists ay t4.kl;refine fZ (xs:=[V.ref x,.ref y]) (λj σ G2=>∃s5:Option V,σ=[some (.ref p),some (.ref kl),some (.int (rs.length:Nat)),some (.int (k:Nat)),s5,some (.ref qr)]/\KB [p,dq,x,y] G4 G2/\aS G2 p dq (n+7)/\G2 kl=some (.lst [.ref x,.ref y])/\G2 qr=some (.tup r.vs)/\eJ C G2 x dx b bk (if j=0 then rs else hU k r rs)/\eJ C G2 y dy c ck (if j<=1 then rs else hU k r rs)) ⟨none,rfl,λu o e _=>e,D4,t4.kl,hqr,t4.k1,t4.k2⟩ (λj σ G2 _ h=>by obtain⟨_,_,_,_,h,_⟩:=h;exact bB.of h) ?_ ?_
   ·rintro j u σ G2 hu' ⟨s5,rfl,kb,DG2,hkl,hq2,kx,ky⟩;have hj:j<2:=(List.getElem?_eq_some_iff.mp hu').1;unfold aZ;dsimp only;refine qC λM2 hM2=>?_;rcases (show j=0\/j=1 by lia) with rfl|rfl
    ·cases hu';obtain⟨rx,ox2,_⟩:=kx.ex;walk_at "rz";refine⟨x,dx,_,rfl,ox2,rfl,x,dx,b,qr,bk,rs,kx,by lia,.inl ⟨k,r,rfl,by lia,hq2,hro,λG3 ks3 k3=>?_⟩⟩
     rw[hM2];exact⟨_,rfl,kb.trans (allx k3),kx.dk DG2 k3,cz hkl ox2 k3,k3 _ _ hq2 λz=>kx.nt _ z _ hq2,ks3,ky.other kx tw.ne k3⟩
    ·cases hu';obtain⟨ry,oy2,_⟩:=ky.ex;walk_at "rz";refine⟨y,dy,_,rfl,oy2,rfl,y,dy,c,qr,ck,rs,ky,by lia,.inl ⟨k,r,rfl,by lia,hq2,hro,λG3 ks3 k3=>?_⟩⟩
     rw[hM2];exact⟨_,rfl,kb.trans (ally k3),ky.dk DG2 k3,cz hkl oy2 k3,k3 _ _ hq2 λz=>ky.nt _ z _ hq2,kx.other ky tw.ne.symm k3,ks3⟩
   ·rintro σ G2 ⟨s5,rfl,kb,DG2,hkl,_,kx,ky⟩;show M _ _;rw[hM];exact q _ G2 ⟨hkl,kx,ky,tw.ne,by lia,ok'⟩ (DG2.mono (by lia)) ((all4 (kG.trans (k1.trans k4))).trans kb)
  clear hA hB;walk_at "rz";by_cases c60:((rs.length:Nat):Int)=60
  ·rw[J6 c60];exact outA H (λu o e _=>e) (hD.mono (by lia)) tw (by lia)
  ·rw[Jx c60];by_cases c0:(0:Int)<((rs.length:Nat):Int)
   ·rw[J6 c0];refine⟨p,dq,3,_,rfl,hD,by lia,by decide,by decide,λv G1 hv D1 k1=>?_⟩
    have t1:=twd hD tw k1;walk_at "rz";by_cases cv:((v:Nat):Int)=0
    ·rw[J6 cv];exact outA G1 k1 D1 t1 (by lia)
    ·rw[Jx cv];exact inB G1 k1 D1 t1 (by lia)
   ·rw[Jx c0];exact inB H (λu o e _=>e) (hD.mono (by lia)) tw (by lia)
theorem Tw.pick{kl y c:Addr}{bk:List (List Int)}{rs:List Row}(t:Tw C H kl x dx b y dy c bk ck rs)(hB:Bk bk)(hC:Bk ck){v:Nat}(hv:v<2):∃x' dx' b' y' dy' c' bk' ck',bX [V.ref x,.ref y] (v:Int)=some (.ref x')/\bX [V.ref b,.ref c] (v:Int)=some (.ref b')/\eJ C H x' dx' b' bk' rs/\eJ C H y' dy' c' ck' rs/\x'≠y'/\Bk bk'/\(∀u,u∈[x',y'] ↔ u∈[x,y])/\∀G,G kl=some (.lst [.ref x,.ref y])->eJ C G x' dx' b' bk' rs->eJ C G y' dy' c' ck' rs->Tw C G kl x dx b y dy c bk ck rs:=by
 rcases (show v=0\/v=1 by lia) with rfl|rfl
 ·exact⟨x,dx,b,y,dy,c,bk,ck,rfl,rfl,t.k1,t.k2,t.ne,hB,λu=>Iff.rfl,λG h1 h2 h3=>⟨h1,h2,h3,t.ne,t.le,t.ok⟩⟩
 ·exact⟨y,dy,c,x,dx,b,ck,bk,rfl,rfl,t.k2,t.k1,t.ne.symm,hC,λu=>by simp[or_comm],λG h1 h2 h3=>⟨h1,h3,h2,t.ne,t.le,t.ok⟩⟩
theorem GU{G:Hp}{p bl y c:Addr}{bk:List (List Int)}{rs ts:List Row}(h:G bl=some (.lst xs))(n:bl∉[p,dq])(k1:eJ C G x dx b bk rs)(k2:eJ C G y dy c ck ts):bl∉[p,dq,x,y]:=λz=>by
 obtain⟨_,o1,_⟩:=k1.ex;obtain⟨_,o2,_⟩:=k2.ex;simp only[J5,Ka,KU] at z n;rcases z with z|z|rfl|rfl
 ·exact n (.inl z)
 ·exact n (.inr z)
 ·rw[h] at o1;cases o1
 ·rw[h] at o2;cases o2
theorem Di(T:Txt K mg)(F:lQ K "law" "law" g_ f fd)(l_refused:HasFn K mg "_law_refused" cC ["deck","kept","many"])(l_both:HasFn K mg "_law_both" dX ["deck","kepts"])(l_told:HasFn K mg "_law_told" ee ["kept"])(l_right:HasFn K mg "_law_right" dn ["kept","book"])(h_law_deck:aq P w K mg base aP 1 "_law_deck" ["script"] (xl K))(h_law_book:aq P w K mg base aP 4 "_law_book" ["deck"] (xJ K))(h_law_draw:aq P w K mg base aP 2 "_law_draw" ["deck","most"] eE)(h_law_row:aq P w K mg base aP 4 "_law_row" ["deck","goals"] (sR K))(hpack_rows:aq P w K mg base aP 7 "pack_rows" ["program","book"] gX)(hread_rows:aq P w K mg base aP 7 "read_rows" ["bits","book"] ow)(hgoal_of:aq P w K mg base aP 1 "goal_of" ["row"] gj)(hgoals_moved:aq P w K mg base aP 3 "goals_moved" ["rows","first","by"] ie):bT P w K mg base aP 11 f fd ["script"] (qi K):=by
 obtain⟨C_Kept,f___init__,f_put_in,f_take_out,f_program,f_bits,f_places,d___init__,d_put_in,d_take_out,d_program,d_bits,d_places,hC_Kept,cM,na_book,na_rows,mm___init__,FM___init__,bm___init__,mm_put_in,FM_put_in,bm_put_in,mm_take_out,FM_take_out,bm_take_out,mm_program,FM_program,bm_program,mm_bits,FM_bits,bm_bits,mm_places,FM_places,bm_places⟩:=T.mc;obtain⟨C_NoRow,hC_NoRow,kC_NoRow⟩:∃C_NoRow,mg "NoRow"=some (.ref C_NoRow)/\fK K C_NoRow:=by
  obtain⟨C_ShortError,C_NoRow,C_NoAsk,C_NoBits,C_NoCode,C_NoProgram,C_NoReach,hC_ShortError,hC_NoRow,hC_NoAsk,hC_NoBits,hC_NoCode,hC_NoProgram,hC_NoReach,kC_ShortError,kC_NoRow,xC_NoRow,p0,p1,p2,p3⟩:=T.xs;exact⟨_,hC_NoRow,kC_NoRow⟩
 have FO___init__:=yW (P:=P) (w:=w) (mg:=mg) (base:=base) T cM na_book na_rows FM___init__;have FO_program:=yX (P:=P) (w:=w) (mg:=mg) (base:=base) T cM na_rows FM_program;have FO_bits:=yA T cM na_book na_rows hpack_rows FM_bits;have FO_places:=si T cM na_book na_rows hpack_rows FM_places;have FP:∀N,mg "NoRow"=some (.ref N)->fK K N->_:=λN h1 h2=>Cp T h1 h2 cM na_rows hgoal_of hgoals_moved FM_put_in;have FT:∀N,mg "NoRow"=some (.ref N)->fK K N->_:=λN h1 h2=>x5 T h1 h2 cM na_rows hgoals_moved FM_take_out;have FO_put_in:=FP _ hC_NoRow kC_NoRow;have FO_take_out:=FT _ hC_NoRow kC_NoRow;have h_law_refused:=rH T l_refused h_law_draw h_law_row cM mm_put_in bm_put_in FP mm_take_out bm_take_out FT;have h_law_told:=y8 T l_told cM mm_program bm_program FO_program mm_bits bm_bits FO_bits mm_places bm_places FO_places;have h_law_right:=uU T l_right h_law_told hpack_rows hread_rows;have h_law_both:=Aw T l_both h_law_draw h_law_row cM mm_program bm_program FO_program mm_put_in bm_put_in FO_put_in mm_take_out bm_take_out FO_take_out;clear FP FT;refine BZ F dJ (λvs H Q E h=>?_) (λcdv A outer s H vs Q E hr h=>?_)
 ·obtain⟨a,ns,rfl,_⟩:=h;rfl
 ·obtain⟨a,ns,rfl,hS,hl,q⟩:=h;have hu:=aK hr;refine⟨_,(Z.ao (Z.se (i:=1) dJ.nd (Z.fc h_law_deck (Z.cons (Z.v 0) Z.nil)))
   (Z.ao (Z.se (i:=2) dJ.nd (Z.fc h_law_book (Z.cons (Z.v 1) Z.nil)))
   (Z.ao (Z.se (i:=3) dJ.nd (Z.lst (Z.cons (Z.v 2) (Z.cons (Z.ix (Z.aA K rfl hu) (Z.lst (Z.cons (Z.v 2) (Z.cons (Z.fc h_law_book (Z.cons (Z.v 1) Z.nil)) Z.nil))) (Z.fc h_law_draw (Z.cons (Z.v 1) (Z.cons Z.int Z.nil)))) Z.nil))))
   (Z.ao (Z.se (i:=4) dJ.nd (Z.lst (Z.cons (Z.make K rfl mm___init__ FO___init__ (hr.mono (by decide)) rfl hC_Kept bm___init__ fJ (Z.cons (Z.ix (Z.aA K rfl hu) (Z.v 3) Z.int) Z.nil)) (Z.cons (Z.make K rfl mm___init__ FO___init__ (hr.mono (by decide)) rfl hC_Kept bm___init__ fJ (Z.cons (Z.ix (Z.aA K rfl hu) (Z.v 3) Z.int) Z.nil)) Z.nil))))
   (Z.ao (Z.iy Ke rfl (Z.Am rfl T.iw (Z.cons (Z.ix (Z.aA K rfl hu) (Z.lst (Z.cons (Z.op (Z.aC K rfl) Z.int (Z.fc h_law_draw (Z.cons (Z.v 1) (Z.cons Z.int Z.nil)))) (Z.cons Z.int Z.nil))) (Z.ct uV rfl T.xX (by decide +kernel) (Z.cons (Z.cmp bj (Z.fc h_law_draw (Z.cons (Z.v 1) (Z.cons Z.int Z.nil))) Z.int) Z.nil))) Z.nil)) (Z.aY (i:=5) dJ.nd rfl (by right)) (Z.ax (Z.expr (Z.fc h_law_both (Z.cons (Z.v 1) (Z.cons (Z.v 4) Z.nil))))))
   (Z.ao (Z.cJ (Z.aI (Y.qX K rfl (iD hr)) (Z.jh K rfl (Z.ix (Z.aA K rfl hu) (Z.v 4) Z.int) cM mm_program FO_program (hr.mono (by decide)) bm_program fJ) (Z.jh K rfl (Z.ix (Z.aA K rfl hu) (Z.v 4) Z.int) cM mm_program FO_program (hr.mono (by decide)) bm_program fJ)) (Z.ax (Z.ret Z.bl)) Z.b8)
   (Z.ao (Z.iy Ke rfl (Z.Am rfl T.iw (Z.cons (Z.op (Z.aC K rfl) Z.int (Z.cb (ni rfl) rfl T.Cs (by decide +kernel) (Z.cons (Z.cb (Z.xI K rfl) rfl T.cy (by decide +kernel) (Z.cons (Z.v 0) Z.nil)) (Z.cons Z.int Z.nil)))) Z.nil)) (Z.aY (i:=5) dJ.nd rfl (by right)) (Z.ao (Z.se (i:=6) dJ.nd (Z.fc h_law_draw (Z.cons (Z.v 1) (Z.cons Z.int Z.nil))))
   (Z.ao (Z.se (i:=7) dJ.nd (Z.fc h_law_told (Z.cons (Z.ix (Z.aA K rfl hu) (Z.v 4) (Z.v 6)) Z.nil)))
   (Z.ao (Z.se (i:=8) dJ.nd (Z.cb (Z.cH K rfl) rfl T.cy (by decide +kernel) (Z.cons (Z.ix (Z.aA K rfl hu) (Z.v 7) Z.int) Z.nil)))
   (Z.ao (Z.cJ (Z.tw (Z.Aj (Z.zj (Z.qN K rfl (Z.fc h_law_right (Z.cons (Z.ix (Z.aA K rfl hu) (Z.v 4) (Z.v 6)) (Z.cons (Z.ix (Z.aA K rfl hu) (Z.v 3) (Z.v 6)) Z.nil))))) (Z.mh (Z.zj (Z.qN K rfl (Z.fc h_law_refused (Z.cons (Z.v 1) (Z.cons (Z.ix (Z.aA K rfl hu) (Z.v 4) (Z.v 6)) (Z.cons (Z.v 8) Z.nil))))))))) (Z.ax (Z.ret Z.bl)) Z.b8)
   (Z.ao (Z.cJ (Z.aI (Y.qX K rfl (iD hr)) (Z.fc h_law_told (Z.cons (Z.ix (Z.aA K rfl hu) (Z.v 4) (Z.v 6)) Z.nil)) (Z.v 7)) (Z.ax (Z.ret Z.bl)) Z.b8)
   (Z.ao (Z.se (i:=9) dJ.nd (Z.fc h_law_draw (Z.cons (Z.v 1) (Z.cons (Z.op (Z.aC K rfl) (Z.v 8) Z.int) Z.nil))))
   (Z.ao (Z.cJ (Z.aI e8 (Z.v 8) Z.int) (Z.ao (Z.expr (Z.fA K rfl (Z.ix (Z.aA K rfl hu) (Z.v 4) (Z.v 6)) cM mm_put_in FO_put_in bm_put_in (Z.cons (Z.v 9) (Z.cons (Z.fc h_law_row (Z.cons (Z.v 1) (Z.cons (Z.op (Z.aC K rfl) (Z.v 8) Z.int) Z.nil))) Z.nil))))
   (Z.ao (Z.cJ (Z.zj (Z.qN K rfl (Z.fc h_law_right (Z.cons (Z.ix (Z.aA K rfl hu) (Z.v 4) (Z.v 6)) (Z.cons (Z.ix (Z.aA K rfl hu) (Z.v 3) (Z.v 6)) Z.nil))))) (Z.ax (Z.ret Z.bl)) Z.b8)
   (Z.ax (Z.expr (Z.fA K rfl (Z.ix (Z.aA K rfl hu) (Z.v 4) (Z.v 6)) cM mm_take_out FO_take_out bm_take_out (Z.cons (Z.v 9) Z.nil)))))) Z.b8)
   (Z.ao (Z.cJ (Z.aI (Y.qX K rfl (iD hr)) (Z.fc h_law_told (Z.cons (Z.ix (Z.aA K rfl hu) (Z.v 4) (Z.v 6)) Z.nil)) (Z.v 7)) (Z.ax (Z.ret Z.bl)) Z.b8)
   (Z.ax (Z.expr (Z.fc h_law_both (Z.cons (Z.v 1) (Z.cons (Z.v 4) Z.nil))))))))))))))
   (Z.ax (Z.ret (Z.cmp (Y.r6 K rfl (iD hr)) (Z.jh K rfl (Z.ix (Z.aA K rfl hu) (Z.v 4) Z.int) cM mm_program FO_program (hr.mono (by decide)) bm_program fJ) (Z.jh K rfl (Z.ix (Z.aA K rfl hu) (Z.v 4) Z.int) cM mm_program FO_program (hr.mono (by decide)) bm_program fJ))))))))))),?_⟩
  refine au λN hN=>?_;walk_at "rz";refine⟨a,ns,rfl,hS,λp dq H1 D1 k1 hp0 hq0=>?_⟩;rw[hN];clear hN N;have kd:∀{G G':Hp},KB [] H G->KB [p,dq] G G'->KB [] H G':=λk k' u o e _=>k' u o (k u o e (by simp)) (by simp only[J5,Ka,KU,not_or];exact⟨af e hp0,af e hq0⟩)
  refine au λN hN=>?_;walk_at "rz";refine⟨p,dq,_,rfl,D1,by lia,λbk1 b1 H2 D2 k2 hb1 hB1=>?_⟩
  rw[hN];clear hN N;refine au λN hN=>?_;walk_at "rz";refine⟨p,dq,_,rfl,D2,by lia,λbk2 b2 H3 D3 k3 hb2 hB2=>?_⟩
  refine⟨by decide,λl0 hl0=>?_⟩
  have k4:=KB.new (ex:=[]) (o:=.lst [.ref b1,.ref b2]) hl0;have s4:upd H3 l0 (.lst [.ref b1,.ref b2]) l0=_:=aa;generalize upd H3 l0 (.lst [.ref b1,.ref b2])=H4 at *;have n0:=D3.new hl0;have D4:=D3.kb k4;refine⟨p,dq,2,_,rfl,D4,by lia,by decide,by decide,λv H5 hv D5 k5=>?_⟩
  have hb15:=((hb1.keep k3 D2.nt).kb k4).keep k5 D4.nt;have hb25:=(hb2.kb k4).keep k5 D4.nt;obtain⟨c1,vt,ec,hc5,hC⟩:∃c ck,bX [V.ref b1,.ref b2] (v:Int)=some (.ref c)/\uQ H5 c ck/\Bk ck:=by
   rcases (show v=0\/v=1 by lia) with rfl|rfl
   ·exact⟨b1,bk1,rfl,hb15,hB1⟩
   ·exact⟨b2,bk2,rfl,hb25,hB2⟩
  exists ay (k5 _ _ s4 n0),ec;refine⟨by decide,λbl hbl=>?_⟩
  have k6:=KB.new (ex:=[]) (o:=.lst [.ref b1,.ref c1]) hbl;have s6:upd H5 bl (.lst [.ref b1,.ref c1]) bl=_:=aa;generalize upd H5 bl (.lst [.ref b1,.ref c1])=H6 at *;have nb:=D5.new hbl;have D6:aS H6 p dq 2000:=(D5.kb k6).mono (by lia)
  have hb6:=hb15.kb k6;have hc6:=hc5.kb k6;rw[hN];clear hN N;have kH6:KB [] H H6:=(kd ((kd (kd k1 k2) k3).trans k4) k5).trans k6;clear D1 D2 D3 D4 D5 k1 k2 k3 k4 k5 k6 s4 n0 hl0 hbl hb1 hb2 hb15 hb25 hc5 ec hB2;refine au λN hN=>?_;exists ay s6,nO;intro x dx hx0 hdx0 hxd;have kn:KB [] H6 (upd (upd H6 dx (.own x)) x (.ins C_Kept dx [])):=λc o e _=>by rw[ar (af e hx0),ar (af e hdx0)];exact e
  have oxn:upd (upd H6 dx (.own x)) x (.ins C_Kept dx []) x=some (.ins C_Kept dx []):=aa;have odn:upd (upd H6 dx (.own x)) x (.ins C_Kept dx []) dx=some (.own x):=by rw[ar hxd];exact aa
  generalize upd (upd H6 dx (.own x)) x (.ins C_Kept dx [])=Hn at *;refine⟨x,dx,b1,bk1,rfl,oxn,odn,hb6.kb kn,λH7 ks7 k7=>⟨rfl,?_⟩⟩;have k67:KB [] H6 H7:=λc o e _=>k7 _ _ (kn _ _ e (by simp)) (by simpa using af e hx0)
  have s7:=k67 _ _ s6 (by simp)
  exists ay s7,uZ;intro y dy hy0 hdy0 hyd;have km:KB [] H7 (upd (upd H7 dy (.own y)) y (.ins C_Kept dy [])):=λc o e _=>by rw[ar (af e hy0),ar (af e hdy0)];exact e
  have oym:upd (upd H7 dy (.own y)) y (.ins C_Kept dy []) y=some (.ins C_Kept dy []):=aa;have odm:upd (upd H7 dy (.own y)) y (.ins C_Kept dy []) dy=some (.own y):=by rw[ar hyd];exact aa
  generalize upd (upd H7 dy (.own y)) y (.ins C_Kept dy [])=Hm at *;refine⟨y,dy,c1,vt,rfl,oym,odm,(hc6.kb k67).kb km,λH8 ks8 k8=>⟨rfl,?_⟩⟩;have k78:KB [] H7 H8:=λc o e _=>k8 _ _ (km _ _ e (by simp)) (by simpa using af e hy0)
  have nxy:x≠y:=λz=>by obtain⟨_,ox,_⟩:=ks7.ex;rw[z,hy0] at ox;cases ox
  refine⟨by decide,λkl hkl=>?_⟩
  have k9:=KB.new (ex:=[]) (o:=.lst [.ref x,.ref y]) hkl;have s9:upd H8 kl (.lst [.ref x,.ref y]) kl=_:=aa;generalize upd H8 kl (.lst [.ref x,.ref y])=H9 at *;have D8:=(D6.kb k67).kb k78;have nk:=D8.new hkl;have D9:=D8.kb k9;have bl9:=(k78.trans k9) _ _ s7 (by simp)
  have kH9:KB [] H H9:=kH6.trans (k67.trans (k78.trans k9));have hx0':H x=none:=kH6.free (by simp) hx0
  have hy0':H y=none:=(kH6.trans k67).free (by simp) hy0
  have k4':∀{G G':Hp},KB [] H G->KB [p,dq,x,y] G G'->KB [] H G':=λk k' u o e _=>k' u o (k u o e (by simp)) (by simp only[J5,Ka,KU,not_or];exact⟨af e hp0,af e hq0,af e hx0',af e hy0'⟩)
  have tw9:Tw C_Kept H9 kl x dx b1 y dy c1 bk1 vt []:=⟨s9,ks7.kb (k78.trans k9),ks8.kb k9,nxy,JL _,λr hr=>absurd hr Ka⟩;rw[hN];clear hN N;clear kn km oxn odn oym odm ks7 ks8 k7 k8 k67 k78 k9 s7 s9 hx0 hdx0 hxd hy0 hdy0 hyd D6 D8 hb6 hc6 s6 hkl;refine au λN hN=>?_;walk_at "rz";refine⟨p,dq,7,_,rfl,D9,by lia,by decide,by decide,λv1 G1 hv1 D1 k1=>?_⟩
  walk_at "rz";refine⟨by decide,λl1 hl1=>?_⟩
  have k2:=KB.new (ex:=[]) (o:=.lst [.int (6+(v1:Int)),.int 50]) hl1;have s2:upd G1 l1 (.lst [.int (6+(v1:Int)),.int 50]) l1=_:=aa;generalize upd G1 l1 (.lst [.int (6+(v1:Int)),.int 50])=G2 at *;have n1:=D1.new hl1;have D2:=D1.kb k2;refine⟨p,dq,6,_,rfl,D2,by lia,by decide,by decide,λv2 G3 hv2 D3 k3=>?_⟩
  obtain⟨m,hm,em⟩:∃m:Nat,m<=50/\bX [V.int (6+(v1:Int)),.int 50] (if (v2:Int)=0 then 1 else 0)=some (.int (m:Nat)):=by
   by_cases c:(v2:Int)=0
   ·rw[J6 c];exact⟨50,by decide,rfl⟩
   ·rw[Jx c];exact⟨6+v1,by lia,rfl⟩
  exists ay (k3 _ _ s2 n1),em;have twd:∀{G G':Hp} {m:Nat} {rs:List Row},aS G p dq m->Tw C_Kept G kl x dx b1 y dy c1 bk1 vt rs->KB [p,dq] G G'->Tw C_Kept G' kl x dx b1 y dy c1 bk1 vt rs:=λD t k=>⟨k _ _ t.kl nk,t.k1.deck D k,t.k2.deck D k,t.ne,t.le,t.ok⟩;have twk:∀{G G':Hp} {rs:List Row},Tw C_Kept G kl x dx b1 y dy c1 bk1 vt rs->KB [] G G'->Tw C_Kept G' kl x dx b1 y dy c1 bk1 vt rs:=λt k=>⟨k _ _ t.kl (by simp),t.k1.kb k,t.k2.kb k,t.ne,t.le,t.ok⟩
  have tw3:=twd D2 (twk (twd D9 tw9 k1) k2) k3;have bl3:=k3 _ _ (k2 _ _ (k1 _ _ bl9 nb) (by simp)) nb
  have kH3:KB [] H G3:=kd ((kd kH9 k1).trans k2) k3;have D3':aS G3 p dq 2010:=D3.mono (by lia)
  clear D9 tw9 bl9 D1 D2 k1 k2 k3 s2 n1 hl1 em D3;refine⟨by lia,by lia,?_⟩
  rw[Kg];refine fv (λj σ G=>∃(rs:List Row) (s5:Option V),Tw C_Kept G kl x dx b1 y dy c1 bk1 vt rs/\G bl=some (.lst [.ref b1,.ref c1])/\aS G p dq (2010+8*j)/\j<=m/\KB [] H G/\σ=[some (.ref a),some (.ref p),some (.ref b1),some (.ref bl),some (.ref kl),s5,none,none,none,none]) ⟨[],none,tw3,bl3,D3',JL _,kH3,rfl⟩ ?_ ?_
  ·rintro j σ G hj ⟨rs,s5,tw,hbl,D,_,kH,rfl⟩;unfold aZ;dsimp only;refine qC λM hM=>?_;walk_at "rz";refine⟨p,dq,kl,x,dx,b1,y,dy,c1,_,bk1,vt,rs,rfl,D,by lia,nk,tw,λrs' G' tw' D' k'=>?_⟩
   rw[hM];exact⟨rs',_,tw',k' _ _ hbl (GU hbl nb tw.k1 tw.k2),D'.mono (by lia),hj,k4' kH k',rfl⟩
  rintro σ G ⟨rs,s5,tw,hbl,D,_,kH,rfl⟩
  replace D:aS G p dq 3000:=D.mono (by lia)
  show N _ _;rw[hN];clear hN N D3' tw3 bl3;refine au λN hN=>?_;refine j0 λA B hA hB=>?_;obtain⟨rx,o1,_⟩:=tw.k1.ex;obtain⟨ry,o2,_⟩:=tw.k2.ex;exists ay tw.kl,nO,uZ;refine⟨x,dx,_,rfl,o1,rfl,x,dx,b1,bk1,rs,rfl,tw.k1,λr1 h1=>?_⟩;exists ay tw.kl,nO,uZ;refine⟨y,dy,_,rfl,o2,rfl,y,dy,c1,vt,rs,rfl,tw.k2,λr2 h2=>?_⟩;refine Cf h1 h2 ⟨false,rfl,?_⟩;rw[Jx JE,hB];show N _ _;rw[hN];clear hN N hA hB A B h1 h2 o1 o2;refine au λN hN=>?_;walk_at "rz";refine⟨.ref a,ns.length,rfl,.inl ⟨_,kH.Ds (by simp) hS,by rw[Jt]⟩,by split<;>lia,by split<;>lia,?_⟩
  obtain⟨m2,hm2,em2⟩:∃m2:Nat,m2<=6/\(1+if (5:Int)<(ns.length:Int) then (5:Int) else (ns.length:Int)).toNat=m2:=⟨_,by split<;>lia,rfl⟩
  rw[em2];clear em2;refine fv (λj σ G=>∃(rs:List Row) (s5 s6 s7 s8 s9:Option V),Tw C_Kept G kl x dx b1 y dy c1 bk1 vt rs/\G bl=some (.lst [.ref b1,.ref c1])/\aS G p dq (3000+60*j)/\j<=m2/\σ=[some (.ref a),some (.ref p),some (.ref b1),some (.ref bl),some (.ref kl),s5,s6,s7,s8,s9]) ⟨rs,_,_,_,_,_,tw,hbl,D,JL _,rfl⟩ ?_ ?_
  ·clear tw hbl D kH;rintro j σ G hj ⟨rs,s5,s6,s7,s8,s9,tw,hbl,D,_,rfl⟩;generalize (0:Int)+((j:Nat):Int)=kI;unfold aZ;dsimp only;have hrl:=tw.le;have hrs:=tw.ok;refine au λM hM=>?_;walk_at "rz";refine⟨p,dq,2,_,rfl,D,by lia,by decide,by decide,λv G1 hv D1 k1=>?_⟩
   have tw1:=twd D tw k1;have bl1:=k1 _ _ hbl nb;rw[hM];clear hM M;obtain⟨x',dx',b',y',dy',c',bk',ck',ek,eb,kx,ky,ne',hB',hmem,back⟩:=tw1.pick hB1 hC (v:=v) (by lia)
   have kl1:=tw1.kl;clear tw tw1 hbl D k1;refine au λM hM=>?_;exists ay kl1,ek;refine⟨x',dx',b',bk',rs,rfl,kx,hB',by lia,hrs,λt1 ra1 u1 G2 k2 e1 e2 e3=>?_⟩
   rw[hM];clear hM M;have k_:∀{G':Hp},KB [] G2 G'->G' t1=some (.tup [.ref ra1,.str (wd (cS bk' rs)),.ref u1])/\gO G' ra1 rs/\G' u1=some (.tup (iV (nZ (mf bk' rs)).dropLast)):=λk=>⟨k _ _ e1 (by simp),e2.kb k,k _ _ e3 (by simp)⟩
   refine au λM hM=>?_;have e2':=e2;obtain⟨as,ha,hpl,_⟩:=e2';exists aH e1,nO,aH ha,Jt,hpl;rw[hM];clear hM M;have kx2:=kx.kb k2;have ky2:=ky.kb k2;have kl2:=k2 _ _ kl1 (by simp)
   have bl2:=k2 _ _ bl1 (by simp)
   have D2:=D1.kb k2;clear kx ky kl1 bl1 D1 k2 ha hpl;refine au λM hM=>?_;refine j0 λA B hA hB=>?_;exists ay kl2,ek,ay bl2,eb;refine⟨x',dx',b',bk',rs,rfl,kx2,hB',by lia,hrs,λG3 k3=>?_⟩
   have kl3:=k3 _ _ kl2 (by simp)
   exists Nt,ay kl3,ek;rw[Jx (by decide)]
   have D3:=D2.kb k3;have kx3:=kx2.kb k3;refine⟨p,dq,x',dx',b',_,bk',rs,rfl,D3,by lia,kx3,by lia,λG4 k4 D4=>?_⟩
   exists Nt;rw[Jx (by decide),hB]
   show M _ _;rw[hM];clear hM M hA hB A B;have kx4:=kx3.deck D3 k4;have ky4:=(ky2.kb k3).deck D3 k4;have kl4:=k4 _ _ kl3 nk;have bl4:=k4 _ _ (k3 _ _ bl2 (by simp)) nb
   obtain⟨f1,f2,f3⟩:=k_ k3;have g1:=D3.tup k4 f1;have g2:=f2.keep k4 D3.nt;have g3:=D3.tup k4 f3;clear kx2 kx3 ky2 kl2 kl3 bl2 D2 D3 k3 k4 f1 f2 f3 k_ e1 e2 e3;refine au λM hM=>?_;refine j0 λA B hA hB=>?_;exists ay kl4,ek;refine⟨x',dx',b',bk',rs,rfl,kx4,hB',by lia,hrs,λt5 ra5 u5 G5 k5 h1 h2 h3=>?_⟩
   refine tY h1 (k5 _ _ g1 (by simp)) h2 h3 (g2.kb k5) (k5 _ _ g3 (by simp)) ⟨false,rfl,?_⟩
   rw[Jx JE,hB];show M _ _;rw[hM];clear hM M hA hB A B h1 h2 h3;have kx5:=kx4.kb k5;have ky5:=ky4.kb k5;have kl5:=k5 _ _ kl4 (by simp)
   have bl5:=k5 _ _ bl4 (by simp)
   have D5:=D4.kb k5
   replace g1:=k5 _ _ g1 (by simp)
   replace g2:=g2.kb k5
   replace g3:=k5 _ _ g3 (by simp)
   clear kx4 ky4 kl4 bl4 D4 k5;refine au λM hM=>?_;walk_at "rz";refine⟨p,dq,_,_,rfl,D5,by lia,by lia,by lia,λk G6 hk D6 k6=>?_⟩
   have kx6:=kx5.deck D5 k6;have ky6:=ky5.deck D5 k6;have kl6:=k6 _ _ kl5 nk;have bl6:=k6 _ _ bl5 nb
   replace g1:=D5.tup k6 g1
   replace g2:=g2.keep k6 D5.nt
   replace g3:=D5.tup k6 g3
   rw[hM];clear hM M;clear kx5 ky5 kl5 bl5 D5 k6;refine au λM hM=>?_;have fin:∀G',aS G' p dq (3000+60*j+40)->eJ C_Kept G' x' dx' b' bk' rs->eJ C_Kept G' y' dy' c' ck' rs->G' kl=some (.lst [.ref x,.ref y])->G' bl=some (.lst [.ref b1,.ref c1])->G' t1=some (.tup [.ref ra1,.str (wd (cS bk' rs)),.ref u1])->gO G' ra1 rs->G' u1=some (.tup (iV (nZ (mf bk' rs)).dropLast))->M [some (.ref a),some (.ref p),some (.ref b1),some (.ref bl),some (.ref kl),some (.int kI),some (.int (v:Nat)),some (.ref t1),some (.int (rs.length:Nat)),some (.int (k:Nat))] G':=λG' D' kx' ky' kl' bl' h1 h2 h3=>by
    rw[hM];clear hM M;refine au λM hM=>?_;refine j0 λA B hA hB=>?_;exists ay kl',ek;refine⟨x',dx',b',bk',rs,rfl,kx',hB',by lia,hrs,λt5 ra5 u5 G5 k5 i1 i2 i3=>?_⟩
    refine tY i1 (k5 _ _ h1 (by simp)) i2 i3 (h2.kb k5) (k5 _ _ h3 (by simp)) ⟨false,rfl,?_⟩
    rw[Jx JE,hB];show M _ _;rw[hM];clear hM M hA hB A B;have tw5:=back G5 (k5 _ _ kl' (by simp)) (kx'.kb k5) (ky'.kb k5)
    have bl5:=k5 _ _ bl' (by simp)
    refine qC λM hM=>?_;walk_at "rz";refine⟨p,dq,kl,x,dx,b1,y,dy,c1,_,bk1,vt,rs,rfl,D'.kb k5,by lia,nk,tw5,λrs' G'' tw' D'' k'=>?_⟩
    rw[hM];exact⟨rs',_,_,_,_,_,tw',k' _ _ bl5 (GU bl5 nb tw5.k1 tw5.k2),D''.mono (by lia),hj,rfl⟩
   clear hM;refine j0 λA B hA hB=>?_;walk_at "rz";by_cases c60:((rs.length:Nat):Int)<60
   ·rw[J6 c60,hA];clear hA hB;refine au λM2 hM2=>?_;exists ay kl6,ek;obtain⟨rx6,ox6,_⟩:=kx6.ex;refine⟨x',dx',_,rfl,ox6,rfl,p,dq,rs.length+1,_,rfl,D6,by lia,by lia,λr qr G7 hro hqr D7 k7=>?_⟩
    have kx7:=kx6.deck D6 k7;have ky7:=ky6.deck D6 k7;have kl7:=k7 _ _ kl6 nk;have bl7:=k7 _ _ bl6 nb
    replace g1:=D6.tup k7 g1
    replace g2:=g2.keep k7 D6.nt
    replace g3:=D6.tup k7 g3
    refine⟨x',dx',b',qr,bk',rs,kx7,by lia,.inl ⟨k,r,rfl,by lia,hqr,hro,λG8 kx8 k8=>?_⟩⟩
    have nt7:=kx7.nt;obtain⟨rx7,ox7,_⟩:=kx7.ex;have ky8:=ky7.other kx7 ne' k8;have kl8:=cz kl7 ox7 k8;have bl8:=cz bl7 ox7 k8;have D8:=kx7.dk D7 k8
    replace g1:=k8 _ _ g1 λz=>nt7 _ z _ g1
    replace g2:=g2.keep k8 nt7
    replace g3:=k8 _ _ g3 λz=>nt7 _ z _ g3
    rw[hM2];clear hM2 M2;clear kx6 ky6 kl6 bl6 D6 k7 ox6 kx7 ky7 kl7 bl7 D7 k8 nt7 ox7 hqr;have ok':=y_ (k:=k) (x:=r) (by lia) hro hrs
    have ln:(hU k r rs).length=rs.length+1:=oz (by lia)
    have tk:i_ k (hU k r rs)=rs:=B6 (by lia)
    generalize hU k r rs=rs' at *;refine au λM2 hM2=>?_;refine j0 λA B hA hB=>?_;exists ay kl8,ek,ay bl8,eb;refine⟨x',dx',b',bk',rs',rfl,kx8,hB',by lia,ok',λG9 k9=>?_⟩
    exists Nt;rw[Jx (by decide),hB]
    show M2 _ _;rw[hM2];clear hM2 M2 hA hB A B;have kx9:=kx8.kb k9;have ky9:=ky8.kb k9;have kl9:=k9 _ _ kl8 (by simp)
    have bl9:=k9 _ _ bl8 (by simp)
    have D9:=D8.kb k9
    replace g1:=k9 _ _ g1 (by simp)
    replace g2:=g2.kb k9
    replace g3:=k9 _ _ g3 (by simp)
    obtain⟨rx9,ox9,_⟩:=kx9.ex;exists ay kl9,ek;refine⟨x',dx',_,rfl,ox9,rfl,x',dx',b',bk',rs',kx9,by lia,.inl ⟨k,rfl,by lia,λG10 kx10 k10=>?_⟩⟩
    rw[tk] at kx10;have nt9:=kx9.nt;exact fin G10 ((kx9.dk D9 k10).mono (by lia)) kx10 (ky9.other kx9 ne' k10) (cz kl9 ox9 k10) (cz bl9 ox9 k10) (k10 _ _ g1 λz=>nt9 _ z _ g1) (g2.keep k10 nt9) (k10 _ _ g3 λz=>nt9 _ z _ g3)
   ·rw[Jx c60,hB];exact fin G6 (D6.mono (by lia)) kx6 ky6 kl6 bl6 g1 g2 g3
  ·rintro σ G' ⟨rs',s5',s6,s7,s8,s9,tw',_,_,_,rfl⟩;show N _ _;rw[hN];clear hN N;obtain⟨rx,o1,_⟩:=tw'.k1.ex;obtain⟨ry,o2,_⟩:=tw'.k2.ex;exists ay tw'.kl,nO,uZ;refine⟨x,dx,_,rfl,o1,rfl,x,dx,b1,bk1,rs',rfl,tw'.k1,λr1 h1=>?_⟩;exists ay tw'.kl,nO,uZ;refine⟨y,dy,_,rfl,o2,rfl,y,dy,c1,vt,rs',rfl,tw'.k2,λr2 h2=>?_⟩;obtain⟨as1,i1,i2⟩:=h1;obtain⟨as2,i3,i4⟩:=h2;exact .inr (i8 (neg:=false) i1 i3 (dY i2) (dY i4) (λx hx=>by
    obtain⟨r,_,rfl⟩:=J_.mp hx;exact jA 3 r) (q _))
local macro_rules | `(tactic| walk_at "b1") => `(tactic| (intro _ _ _ _ _ _ us hl; obtain ⟨_, e⟩ := L2.Y.vG hl; subst e; rfl))
theorem eK{x:Str}{st:Stmt}{ps:List Str}{oc:Value}{od an:Option Addr}{osl:Array (Option Value)}{kV doc pm cdv ct:Value}(X:K.In h)(G:h.Ns mainGlobals mg)(a:W.nsIn K mainGlobals x=some (some (.ref f)))
  (l:K.lookup f=some ⟨oc,od,.func (W.fnOf x x (bL st) (aR st) (ae st) .none kV doc pm an cdv ct),osl⟩) (c:W.codeIn K cdv x=true) (k:W.keepIn K (.ref f)=true)
  (hb:∀(kV doc pm:Value) (an:Option Addr) (cdv ct:Value) (us:List Value),us.length=ps.length->bindArgs (W.fnOf x x (bL st) (aR st) (ae st) .none kV doc pm an cdv ct) ⟨us,[]⟩=pure (ps.zip us)):HasFn K mg x st ps:=
 ⟨f,_,cp l c k,(cp l c k).binds hb,KR X G a⟩
set_option autoImplicit true in
theorem all_mk{l:W.OpenLaw}{w:World}{fa:Addr}(X:K.In h)(G:h.Ns mainGlobals mg)(hfa:mg "law"=some (.ref fa))
  (F0:HasFn K mg "_wall" BI ["k"])
  (F1:HasFn K mg "goal_of" iB ["row"])
  (F2:HasFn K mg "with_goal" fU ["row","goal"])
  (F3:HasFn K mg "can_be" jZ ["lengths"])
  (a4:W.nsIn K mainGlobals "code_of"=some (some (.ref f4))) (l4:K.lookup f4=some ⟨oc4,od4,.func (W.fnOf "code_of" "code_of" (bL cP) (aR cP) (ae cP) .none kV4 dc4 pm4 an4 cd4 ct4),sl4⟩) (c4:W.codeIn K cd4 "code_of"=true) (k4:W.keepIn K (.ref f4)=true)
  (F5:HasFn K mg "word_behind" eC ["ahead","length"])
  (F6:HasFn K mg "thing_at" gN ["code","bits","place"])
  (F7:HasFn K mg "least_widths" d6 ["sizes","goals"])
  (F8:HasFn K mg "raised_till_good" cm ["sizes","goals"])
  (F9:HasFn K mg "narrowest" e7 ["goals"])
  (F10:HasFn K mg "first_too_narrow" cq ["sizes","goals","widths"])
  (F11:HasFn K mg "fits" rm ["starts","goals","widths","row"])
  (F12:HasFn K mg "distance_of" eF ["starts","goals","row"])
  (F13:HasFn K mg "row_starts" fu ["sizes","widths"])
  (F14:HasFn K mg "own_part" gR ["width"])
  (F15:HasFn K mg "coded_things" dB ["row"])
  (F16:HasFn K mg "codes_of" fk ["book"])
  (F17:HasFn K mg "pack_rows" cA ["program","book"])
  (F18:HasFn K mg "bits_ahead_of_goal" bE ["row","codes"])
  (F19:HasFn K mg "figures_behind_first" bQ ["number"])
  (F20:HasFn K mg "jump_written" d7 ["width","distance"])
  (F21:HasFn K mg "last_figures" d9 ["number","many"])
  (F22:HasFn K mg "goals_moved" cU ["rows","first","by"])
  (F23:HasFn K mg "goal_moved" fh ["row","first","by"])
  (F24:HasFn K mg "read_rows" cY ["bits","book"])
  (F25:HasFn K mg "goal_numbered" cZ ["row","start","numbers"])
  (F26:HasFn K mg "row_at" kK ["codes","bits","place"])
  (F27:HasFn K mg "coded_at" gP ["code","bits","place"])
  (F28:HasFn K mg "part_at" iW ["kind","codes","bits","place"])
  (F29:HasFn K mg "number_at" fO ["code","bits","place"])
  (F30:HasFn K mg "goal_at" iS ["bits","place"])
  (F31:HasFn K mg "_law_deck" dW ["script"])
  (F32:HasFn K mg "_law_mix" gM ["number","turn"])
  (F33:HasFn K mg "_law_draw" fV ["deck","most"])
  (F34:HasFn K mg "_law_lengths" dC ["deck","many"])
  (F35:HasFn K mg "_law_book" d_ ["deck"])
  (F36:HasFn K mg "_law_number" eB ["deck"])
  (F37:HasFn K mg "_law_row" gT ["deck","goals"])
  (F38:HasFn K mg "_law_refused" cC ["deck","kept","many"])
  (F39:HasFn K mg "_law_both" dX ["deck","kepts"])
  (F40:HasFn K mg "_law_told" ee ["kept"])
  (F41:HasFn K mg "_law_right" dn ["kept","book"])
  (a42:W.nsIn K mainGlobals "law"=some (some (.ref f42))) (l42:K.lookup f42=some ⟨oc42,od42,.func (W.fnOf "law" "law" (bL g_) (aR g_) (ae g_) .none kV42 dc42 pm42 an42 cd42 ct42),sl42⟩) (c42:W.codeIn K cd42 "law"=true) (k42:W.keepIn K (.ref f42)=true)
  (z0:W.nsIn K mainGlobals "ValueError"=some none)
  (z1:W.nsIn K mainGlobals "abs"=some none)
  (z2:W.nsIn K mainGlobals "dict"=some none)
  (z3:W.nsIn K mainGlobals "enumerate"=some none)
  (z4:W.nsIn K mainGlobals "int"=some none)
  (z5:W.nsIn K mainGlobals "isinstance"=some none)
  (z6:W.nsIn K mainGlobals "len"=some none)
  (z7:W.nsIn K mainGlobals "list"=some none)
  (z8:W.nsIn K mainGlobals "min"=some none)
  (z9:W.nsIn K mainGlobals "range"=some none)
  (z10:W.nsIn K mainGlobals "sorted"=some none)
  (z11:W.nsIn K mainGlobals "str"=some none)
  (z12:W.nsIn K mainGlobals "sum"=some none)
  (z13:W.nsIn K mainGlobals "tuple"=some none)
  (z14:W.nsIn K mainGlobals "zip"=some none)
  (g0:W.nsIn K mainGlobals "BOXES"=some (some (.ref q0))) (m0:K.lookup q0=some ⟨.type "tuple",none,.seq #[.str "a" w0_0,.str "b" w0_1,.str "c" w0_2,.str "d" w0_3,.str "e" w0_4,.str "f" w0_5,.str "g" w0_6,.str "h" w0_7] qn0,qs0⟩)
  (g1:W.nsIn K mainGlobals "HALVES"=some (some (.ref q1))) (m1:K.lookup q1=some ⟨.type "tuple",qd1,.seq #[.int 8 w1_0,.int 128 w1_1,.int 32768 w1_2] qn1,qs1⟩)
  (g2:W.nsIn K mainGlobals "HEADS"=some (some (.ref q2))) (m2:K.lookup q2=some ⟨.type "tuple",qd2,.seq #[.str "0" w2_0,.str "10" w2_1,.str "11" w2_2] qn2,qs2⟩)
  (g3:W.nsIn K mainGlobals "OF_BOXES"=some (some (.int 2 w3_0)))
  (g4:W.nsIn K mainGlobals "OF_CLASSES"=some (some (.int 1 w4_0)))
  (g5:W.nsIn K mainGlobals "OF_WORDS"=some (some (.int 0 w5_0)))
  (g6:W.nsIn K mainGlobals "WIDEST"=some (some (.int 2 w6_0)))
  (g7:W.nsIn K mainGlobals "WIDTHS"=some (some (.ref q7))) (m7:K.lookup q7=some ⟨.type "tuple",qd7,.seq #[.int 4 w7_0,.int 8 w7_1,.int 16 w7_2] qn7,qs7⟩)
  (dg0:W.nsIn K mainGlobals "SHAPES"=some (some (.ref dd0))) (dz0:(dd0 == sysModules)=false) (dl0:K.lookup dd0=some ⟨.type "dict",none,.dict #[⟨dh0_0,.str "put" dt0_0,.ref dp0_0⟩,⟨dh0_1,.str "add" dt0_1,.ref dp0_1⟩,⟨dh0_2,.str "sub" dt0_2,.ref dp0_2⟩,⟨dh0_3,.str "copy" dt0_3,.ref dp0_3⟩,⟨dh0_4,.str "tell" dt0_4,.ref dp0_4⟩,⟨dh0_5,.str "hear" dt0_5,.ref dp0_5⟩,⟨dh0_6,.str "jump" dt0_6,.ref dp0_6⟩,⟨dh0_7,.str "zero" dt0_7,.ref dp0_7⟩,⟨dh0_8,.str "halt" dt0_8,.ref dp0_8⟩] dh0_ep,#[]⟩)
  (dm0_0:K.lookup dp0_0=some ⟨.type "tuple",do0_0,.seq #[.str "box" dw0_0_0,.str "number" dw0_0_1] dn0_0,ds0_0⟩)
  (dm0_1:K.lookup dp0_1=some ⟨.type "tuple",do0_1,.seq #[.str "box" dw0_1_0,.str "box" dw0_1_1] dn0_1,ds0_1⟩)
  (dm0_2:K.lookup dp0_2=some ⟨.type "tuple",do0_2,.seq #[.str "box" dw0_2_0,.str "box" dw0_2_1] dn0_2,ds0_2⟩)
  (dm0_3:K.lookup dp0_3=some ⟨.type "tuple",do0_3,.seq #[.str "box" dw0_3_0,.str "box" dw0_3_1] dn0_3,ds0_3⟩)
  (dm0_4:K.lookup dp0_4=some ⟨.type "tuple",do0_4,.seq #[.str "box" dw0_4_0] dn0_4,ds0_4⟩)
  (dm0_5:K.lookup dp0_5=some ⟨.type "tuple",do0_5,.seq #[.str "box" dw0_5_0] dn0_5,ds0_5⟩)
  (dm0_6:K.lookup dp0_6=some ⟨.type "tuple",do0_6,.seq #[.str "goal" dw0_6_0] dn0_6,ds0_6⟩)
  (dm0_7:K.lookup dp0_7=some ⟨.type "tuple",do0_7,.seq #[.str "box" dw0_7_0,.str "goal" dw0_7_1] dn0_7,ds0_7⟩)
  (dm0_8:K.lookup dp0_8=some ⟨.type "tuple",do0_8,.seq #[] dn0_8,ds0_8⟩)
  (mq0:W.nsIn K mainGlobals "Kept"=some (some (.ref mC)))
  (mq1:W.plainGet K mC Str.empty=true)
  (mq2:W.hasDictIn K mC=true)
  (mq3:W.plainOver K mC=true)
  (mq4:W.findIn K (.ref mC) "__setattr__"=some (some (.builtin "object.__setattr__")))
  (mq5:W.findIn K (.ref mC) "book"=some none)
  (mq6:W.findIn K (.ref mC) "rows"=some none)
  (mq7:W.findIn K (.ref mC) "__init__"=some (some (.ref mf0)))
  (mq8:W.isFn K (.ref mf0)=true)
  (mq9:W.keepIn K (.ref mf0)=true)
  (mq10:K.lookup mf0=some ⟨moc0,mod0,.func (W.fnOf "__init__" "Kept.__init__" (bL aM) (aR aM) (ae aM) .none mkV0 mdc0 mpm0 man0 mcd0 mct0),msl0⟩)
  (mq11:W.codeIn K mcd0 "Kept.__init__"=true)
  (mq12:W.makesIn K mC=true)
  (mq13:W.keepIn K (.ref mC)=true)
  (mq14:W.findIn K (.ref mC) "put_in"=some (some (.ref mf1)))
  (mq15:W.isFn K (.ref mf1)=true)
  (mq16:W.keepIn K (.ref mf1)=true)
  (mq17:K.lookup mf1=some ⟨moc1,mod1,.func (W.fnOf "put_in" "Kept.put_in" (bL bf) (aR bf) (ae bf) .none mkV1 mdc1 mpm1 man1 mcd1 mct1),msl1⟩)
  (mq18:W.codeIn K mcd1 "Kept.put_in"=true)
  (mq19:W.findIn K (.ref mC) "take_out"=some (some (.ref mf2)))
  (mq20:W.isFn K (.ref mf2)=true)
  (mq21:W.keepIn K (.ref mf2)=true)
  (mq22:K.lookup mf2=some ⟨moc2,mod2,.func (W.fnOf "take_out" "Kept.take_out" (bL aX) (aR aX) (ae aX) .none mkV2 mdc2 mpm2 man2 mcd2 mct2),msl2⟩)
  (mq23:W.codeIn K mcd2 "Kept.take_out"=true)
  (mq24:W.findIn K (.ref mC) "program"=some (some (.ref mf3)))
  (mq25:W.isFn K (.ref mf3)=true)
  (mq26:W.keepIn K (.ref mf3)=true)
  (mq27:K.lookup mf3=some ⟨moc3,mod3,.func (W.fnOf "program" "Kept.program" (bL aQ) (aR aQ) (ae aQ) .none mkV3 mdc3 mpm3 man3 mcd3 mct3),msl3⟩)
  (mq28:W.codeIn K mcd3 "Kept.program"=true)
  (mq29:W.findIn K (.ref mC) "bits"=some (some (.ref mf4)))
  (mq30:W.isFn K (.ref mf4)=true)
  (mq31:W.keepIn K (.ref mf4)=true)
  (mq32:K.lookup mf4=some ⟨moc4,mod4,.func (W.fnOf "bits" "Kept.bits" (bL bu) (aR bu) (ae bu) .none mkV4 mdc4 mpm4 man4 mcd4 mct4),msl4⟩)
  (mq33:W.codeIn K mcd4 "Kept.bits"=true)
  (mq34:W.findIn K (.ref mC) "places"=some (some (.ref mf5)))
  (mq35:W.isFn K (.ref mf5)=true)
  (mq36:W.keepIn K (.ref mf5)=true)
  (mq37:K.lookup mf5=some ⟨moc5,mod5,.func (W.fnOf "places" "Kept.places" (bL aT) (aR aT) (ae aT) .none mkV5 mdc5 mpm5 man5 mcd5 mct5),msl5⟩)
  (mq38:W.codeIn K mcd5 "Kept.places"=true)
  (xf0:W.nsIn K mainGlobals "ShortError"=some (some (.ref xd_ShortError)))
  (xf1:W.nsIn K mainGlobals "NoRow"=some (some (.ref xd_NoRow)))
  (xf2:W.nsIn K mainGlobals "NoAsk"=some (some (.ref xd_NoAsk)))
  (xf3:W.nsIn K mainGlobals "NoBits"=some (some (.ref xd_NoBits)))
  (xf4:W.nsIn K mainGlobals "NoCode"=some (some (.ref xd_NoCode)))
  (xf5:W.nsIn K mainGlobals "NoProgram"=some (some (.ref xd_NoProgram)))
  (xf6:W.nsIn K mainGlobals "NoReach"=some (some (.ref xd_NoReach)))
  (xf7:W.excIn K xd_ShortError [.type "ValueError",.type "Exception",.type "BaseException",.type "object"] "ValueError.__new__"=true)
  (xf8:W.excIn K xd_NoRow [.type "ValueError",.type "Exception",.type "BaseException",.type "object"] "ValueError.__new__"=true)
  (xf9:W.findIn K (.ref xd_NoRow) "__getattribute__"=some (some (.builtin "BaseException.__getattribute__")))
  (xf10:W.findIn K (.ref xd_NoRow) "__getattr__"=some none)
  (xf11:W.findIn K (.ref xd_NoRow) "__class__"=some (some (.builtin "object.__class__")))
  (xf12:W.specialIn K (.builtin "object.__class__") "__get__"=some (some (.builtin "getset_descriptor.__get__")))
  (xf13:W.takesIn K (.builtin "object.__class__")=some true)
  (xf14:W.mroIn K xd_NoRow (.type "object")=some true)
  (xf15:W.mroIn K xd_NoRow (.type "BaseException")=some true)
  (xf16:W.mroIn K xd_NoRow (.ref xd_ShortError)=some true)
  (xf17:W.kitOne K (.ref xd_NoRow) (.ref xd_NoRow)=some true)
  (xf18:W.kitOne K (.ref xd_NoRow) (.type "ValueError")=some true)
  (xf19:W.kitAny K (.ref xd_NoRow) [(.ref xd_NoAsk),(.ref xd_NoBits),(.ref xd_NoCode),(.ref xd_NoProgram),(.ref xd_NoReach)]=some false)
  (le_code_of:cd4=.ref lc_code_of) (lk_code_of:K.lookup lc_code_of=some ⟨lO_code_of,lD_code_of,.fields lv_code_of,lS_code_of⟩) (lw_code_of:lv_code_of[11]?=some (.ref lp_code_of))
  : ∃fd:FuncData,(∀(s:Shared) (v:Value),BindsTo s fd ⟨[v],[]⟩ [("script",v)])/\∀base:Heap,K.In base->base.Ns mainGlobals mg->bT l.prog w K mg base aP 30 fa fd ["script"] (qi K):=by
 have e:=hfa.symm.trans (KR X G a42);cases e
 have T:Txt K mg:=⟨Ku X G z0,Ku X G z1,Ku X G z2,Ku X G z3,Ku X G z4,Ku X G z5,Ku X G z6,Ku X G z7,Ku X G z8,Ku X G z9,Ku X G z10,Ku X G z11,Ku X G z12,Ku X G z13,Ku X G z14,⟨q0,KR X G g0,λH=>.inr ⟨_,_,_,m0,rfl,rfl,(by show 8<=sizeLine;decide),(.cons ⟨w0_0,rfl⟩ (.cons ⟨w0_1,rfl⟩ (.cons ⟨w0_2,rfl⟩ (.cons ⟨w0_3,rfl⟩ (.cons ⟨w0_4,rfl⟩ (.cons ⟨w0_5,rfl⟩ (.cons ⟨w0_6,rfl⟩ (.cons ⟨w0_7,rfl⟩ .nil))))))))⟩⟩,⟨q1,KR X G g1,λH=>.inr ⟨_,_,_,m1,rfl,rfl,(by show 3<=sizeLine;decide),(.cons ⟨w1_0,rfl⟩ (.cons ⟨w1_1,rfl⟩ (.cons ⟨w1_2,rfl⟩ .nil)))⟩⟩,⟨q2,KR X G g2,λH=>.inr ⟨_,_,_,m2,rfl,rfl,(by show 3<=sizeLine;decide),(.cons ⟨w2_0,rfl⟩ (.cons ⟨w2_1,rfl⟩ (.cons ⟨w2_2,rfl⟩ .nil)))⟩⟩,⟨_,KR X G g3,⟨_,rfl⟩⟩,⟨_,KR X G g4,⟨_,rfl⟩⟩,⟨_,KR X G g5,⟨_,rfl⟩⟩,⟨_,KR X G g6,⟨_,rfl⟩⟩,⟨q7,KR X G g7,λH=>.inr ⟨_,_,_,m7,rfl,rfl,(by show 3<=sizeLine;decide),(.cons ⟨w7_0,rfl⟩ (.cons ⟨w7_1,rfl⟩ (.cons ⟨w7_2,rfl⟩ .nil)))⟩⟩,⟨q0,_,KR X G g0,m0,rfl⟩,⟨dd0,KR X G dg0,dz0,_,_,_,dl0,⟨rfl,rfl,rfl⟩,rfl,(.cons rfl ⟨dp0_0,rfl,⟨_,_,_,dm0_0,rfl,rfl,(by show 2<=sizeLine;decide),(.cons ⟨dw0_0_0,rfl⟩ (.cons ⟨dw0_0_1,rfl⟩ .nil))⟩⟩ (.cons rfl ⟨dp0_1,rfl,⟨_,_,_,dm0_1,rfl,rfl,(by show 2<=sizeLine;decide),(.cons ⟨dw0_1_0,rfl⟩ (.cons ⟨dw0_1_1,rfl⟩ .nil))⟩⟩ (.cons rfl ⟨dp0_2,rfl,⟨_,_,_,dm0_2,rfl,rfl,(by show 2<=sizeLine;decide),(.cons ⟨dw0_2_0,rfl⟩ (.cons ⟨dw0_2_1,rfl⟩ .nil))⟩⟩ (.cons rfl ⟨dp0_3,rfl,⟨_,_,_,dm0_3,rfl,rfl,(by show 2<=sizeLine;decide),(.cons ⟨dw0_3_0,rfl⟩ (.cons ⟨dw0_3_1,rfl⟩ .nil))⟩⟩ (.cons rfl ⟨dp0_4,rfl,⟨_,_,_,dm0_4,rfl,rfl,(by show 1<=sizeLine;decide),(.cons ⟨dw0_4_0,rfl⟩ .nil)⟩⟩ (.cons rfl ⟨dp0_5,rfl,⟨_,_,_,dm0_5,rfl,rfl,(by show 1<=sizeLine;decide),(.cons ⟨dw0_5_0,rfl⟩ .nil)⟩⟩ (.cons rfl ⟨dp0_6,rfl,⟨_,_,_,dm0_6,rfl,rfl,(by show 1<=sizeLine;decide),(.cons ⟨dw0_6_0,rfl⟩ .nil)⟩⟩ (.cons rfl ⟨dp0_7,rfl,⟨_,_,_,dm0_7,rfl,rfl,(by show 2<=sizeLine;decide),(.cons ⟨dw0_7_0,rfl⟩ (.cons ⟨dw0_7_1,rfl⟩ .nil))⟩⟩ (.cons rfl ⟨dp0_8,rfl,⟨_,_,_,dm0_8,rfl,rfl,(by show 0<=sizeLine;decide),.nil⟩⟩ .nil)))))))))⟩,⟨_,_,_,_,_,_,_,_,_,_,_,_,_,KR X G mq0,⟨mq1,mq2,mq3,mq4⟩,mq5,mq6,⟨mq12,mq7,mq8,mq13⟩,cp (st:=aM) mq10 mq11 mq9,(cp (st:=aM) mq10 mq11 mq9).binds (ps:=["self","book"]) (λ_ _ _ _ _ _ us hl=>by obtain⟨_,_,rfl⟩:=Y.AR hl;rfl),⟨mq14,mq15,mq16⟩,cp (st:=bf) mq17 mq18 mq16,(cp (st:=bf) mq17 mq18 mq16).binds (ps:=["self","place","row"]) (λ_ _ _ _ _ _ us hl=>by obtain⟨_,_,_,rfl⟩:=Y.vy hl;rfl),⟨mq19,mq20,mq21⟩,cp (st:=aX) mq22 mq23 mq21,(cp (st:=aX) mq22 mq23 mq21).binds (ps:=["self","place"]) (λ_ _ _ _ _ _ us hl=>by obtain⟨_,_,rfl⟩:=Y.AR hl;rfl),⟨mq24,mq25,mq26⟩,cp (st:=aQ) mq27 mq28 mq26,(cp (st:=aQ) mq27 mq28 mq26).binds (ps:=["self"]) (λ_ _ _ _ _ _ us hl=>by obtain⟨_,rfl⟩:=Y.vG hl;rfl),⟨mq29,mq30,mq31⟩,cp (st:=bu) mq32 mq33 mq31,(cp (st:=bu) mq32 mq33 mq31).binds (ps:=["self"]) (λ_ _ _ _ _ _ us hl=>by obtain⟨_,rfl⟩:=Y.vG hl;rfl),⟨mq34,mq35,mq36⟩,cp (st:=aT) mq37 mq38 mq36,(cp (st:=aT) mq37 mq38 mq36).binds (ps:=["self"]) (λ_ _ _ _ _ _ us hl=>by obtain⟨_,rfl⟩:=Y.vG hl;rfl)⟩,⟨_,_,_,_,_,_,_,KR X G xf0,KR X G xf1,KR X G xf2,KR X G xf3,KR X G xf4,KR X G xf5,KR X G xf6,⟨xf7⟩,⟨xf8⟩,⟨xf9,xf10,xf11,xf12,xf13,xf14,xf15⟩,xf16,xf17,xf18,xf19⟩,s_.mk' X G (pw a4 l4 le_code_of lk_code_of lw_code_of)⟩
 have F4:HasFn K mg "code_of" cP ["lengths"]:=eK X G a4 l4 c4 k4 (by walk_at "b1")
 refine⟨W.fnOf "law" "law" (bL g_) (aR g_) (ae g_) .none kV42 dc42 pm42 an42 cd42 ct42,λs v=>.of_eq rfl,λbase _ _=>(show bT l.prog w K mg base aP 11 _ _ ["script"] (qi K) from ?_).mono (by decide)⟩
 have dr:=AK (P:=l.prog) (w:=w) (base:=base) T F33 (Fg F32);have ca:=xx (P:=l.prog) (w:=w) (base:=base) T F27 (zd T F6);have lr:=Es (P:=l.prog) (w:=w) (base:=base) T F37 dr (vK T F36 dr);have cs:=za T F16 (AF (P:=l.prog) (w:=w) (base:=base) T F4 (DU T F3) (vN T F5));have go:=wK (P:=l.prog) (w:=w) (base:=base) T F1;have fg:=Fp (P:=l.prog) (w:=w) (base:=base) T F21;have st:=vJ (P:=l.prog) (w:=w) (base:=base) T F13 (E3 T F14);have di:=Cr (P:=l.prog) (w:=w) (base:=base) T F12;have wg:=B7 (P:=l.prog) (w:=w) (base:=base) T F2;have pk:=BU T F17 cs (xm T F18 (v3 T F15) (qE T F19 fg)) go (uX T F7 (vm T F8 (v9 T F9) (xH T F10 st (BX T F11 di)))) st (xO T F20 fg) di;have rd:=y0 T F24 cs (yb T F26 ca (vT T F28 ca (wG T F29 ca) (vo T F30 ca))) (B5 T F25 go wg);exact Di T (cp (st:=g_) l42 c42 k42) F38 F39 F40 F41 (Cc T F31) (BM T F35 dr (z_ T F34 dr)) dr lr pk rd go (zO T F22 (vM T F23 go wg))
theorem walk{l:W.OpenLaw}{q:Program}{loose:List Str}{XP:(Str->Option Value)->Heap->Prop}{YP:World->Heap->Prop}{d:DefRec}{K:Params->W.Frag}(hn:l.most=some 63)(hdf:d.params.defaults=[])
  (hY:∀(w:World) (h:Heap),YP w h->(K w.params).In h)
  (F:∀(w:World) (mg:Str->Option Value) (fa:Addr) (h:Heap),(K w.params).In h->h.Ns mainGlobals mg->mg d.name=some (.ref fa)->∃fd:FuncData,(∀(s:Shared) (u:Value),BindsTo s fd ⟨[u],[]⟩ [("script",u)])/\∀base:Heap,(K w.params).In base->base.Ns mainGlobals mg->bT l.prog w (K w.params) mg base aP 30 fa fd ["script"] (qi (K w.params))) (hL:∀(w:World) (h:Heap),(K w.params).In h->iu q (K w.params)) :
  W.WalkO q loose XP YP l.row.toRowW d [] (λf vs=>PySem.call f vs):=
 L2.Bq (n:=63) (k:=30) (x:="script") (CX:=λ_=>aP) (sp:=λw=>qi (K w.params)) hn (by decide) hdf ⟨rfl,by decide,by decide,rfl⟩ hY F (λ_ _ a ns hl _ hS=>⟨a,ns,rfl,hS,hl,λ_=>rfl⟩) (λ_ _ _ _ _ z=>z) hL
theorem Ei{q:Program}(_:K.In h){la_code_of lc_code_of lp_code_of:Addr}{lo_code_of lO_code_of:Value}{ld_code_of lD_code_of:Option Addr}{lfd_code_of:FuncData}{lv_code_of:Array Value}{ls_code_of lS_code_of:Array (Option Value)}(nt:W.noTabs K=true)
  (ma_by_worth:W.nsIn K mainGlobals "by_worth"=some none)
  (ma_by_weight:W.nsIn K mainGlobals "by_weight"=some none)
  (ma_code_of:W.nsIn K mainGlobals "code_of"=some (some (.ref la_code_of))) (ml_code_of:K.lookup la_code_of=some ⟨lo_code_of,ld_code_of,.func lfd_code_of,ls_code_of⟩) (mc_code_of:lfd_code_of.code=.ref lc_code_of) (mk_code_of:K.lookup lc_code_of=some ⟨lO_code_of,lD_code_of,.fields lv_code_of,lS_code_of⟩) (mw_code_of:lv_code_of[11]?=some (.ref lp_code_of)) (mr_code_of:((recsOf q).find? (λe=>e.name ==("code_of":Str))).isSome=true)
  : iu q K:=iu.of nt (kA ma_by_worth) (kA ma_by_weight) (pw ma_code_of ml_code_of mc_code_of mk_code_of mw_code_of) (by first|exact mn|simp) (.inl rfl) (.inl rfl) (.inr mr_code_of)
end
end G
open PySem PySem.W PyProof.Rows
local macro_rules | `(tactic| walk_at "b1") => `(tactic| (intro _ _ _ _ _ _ us hl; obtain ⟨_, e⟩ := L2.Y.vG hl; subst e; rfl))
local macro_rules | `(tactic| walk_at "b2") => `(tactic| (intro _ _ _ _ _ _ us hl; obtain ⟨_, _, e⟩ := L2.Y.AR hl; subst e; rfl))
local macro_rules | `(tactic| walk_at "b3") => `(tactic| (intro _ _ _ _ _ _ us hl; obtain ⟨_, _, _, e⟩ := L2.Y.vy hl; subst e; rfl))
local macro_rules | `(tactic| walk_at "b4") => `(tactic| (intro _ _ _ _ _ _ us hl; obtain ⟨_, _, _, _, e⟩ := L2.Y.IJ hl; subst e; rfl))
set_option maxRecDepth 100000 in
set_option maxHeartbeats 0 in
theorem PySem.Challenge.cw_shortrows_k40_whole_kept_is_packed_afres_holds : PySem.Challenge.rw_shortrows_k40_whole_kept_is_packed_afres.Holds := by
 w_on;o_law;k_head;(case hw=>w_witness2)
 k_fill
 refine G.walk (l:=PySem.Challenge.rw_shortrows_k40_whole_kept_is_packed_afres) rfl rfl (λw h Y=>by first|exact W.kIn_of Y|exact W.km_in_of Y) ?F ?L
 case F =>
  intro w mg fa h KX GN hmg
  refine' G.all_mk KX GN hmg (G.eK KX GN ?a0 ?l0 ?c0 ?k0 (by walk_at "b1")) (G.eK KX GN ?a1 ?l1 ?c1 ?k1 (by walk_at "b1")) (G.eK KX GN ?a2 ?l2 ?c2 ?k2 (by walk_at "b2")) (G.eK KX GN ?a3 ?l3 ?c3 ?k3 (by walk_at "b1")) ?a4 ?l4 ?c4 ?k4 (G.eK KX GN ?a5 ?l5 ?c5 ?k5 (by walk_at "b2")) (G.eK KX GN ?a6 ?l6 ?c6 ?k6 (by walk_at "b3")) (G.eK KX GN ?a7 ?l7 ?c7 ?k7 (by walk_at "b2")) (G.eK KX GN ?a8 ?l8 ?c8 ?k8 (by walk_at "b2")) (G.eK KX GN ?a9 ?l9 ?c9 ?k9 (by walk_at "b1")) (G.eK KX GN ?a10 ?l10 ?c10 ?k10 (by walk_at "b3")) (G.eK KX GN ?a11 ?l11 ?c11 ?k11 (by walk_at "b4")) (G.eK KX GN ?a12 ?l12 ?c12 ?k12 (by walk_at "b3")) (G.eK KX GN ?a13 ?l13 ?c13 ?k13 (by walk_at "b2")) (G.eK KX GN ?a14 ?l14 ?c14 ?k14 (by walk_at "b1")) (G.eK KX GN ?a15 ?l15 ?c15 ?k15 (by walk_at "b1")) (G.eK KX GN ?a16 ?l16 ?c16 ?k16 (by walk_at "b1")) (G.eK KX GN ?a17 ?l17 ?c17 ?k17 (by walk_at "b2")) (G.eK KX GN ?a18 ?l18 ?c18 ?k18 (by walk_at "b2")) (G.eK KX GN ?a19 ?l19 ?c19 ?k19 (by walk_at "b1")) (G.eK KX GN ?a20 ?l20 ?c20 ?k20 (by walk_at "b2")) (G.eK KX GN ?a21 ?l21 ?c21 ?k21 (by walk_at "b2")) (G.eK KX GN ?a22 ?l22 ?c22 ?k22 (by walk_at "b3")) (G.eK KX GN ?a23 ?l23 ?c23 ?k23 (by walk_at "b3")) (G.eK KX GN ?a24 ?l24 ?c24 ?k24 (by walk_at "b2")) (G.eK KX GN ?a25 ?l25 ?c25 ?k25 (by walk_at "b3")) (G.eK KX GN ?a26 ?l26 ?c26 ?k26 (by walk_at "b3")) (G.eK KX GN ?a27 ?l27 ?c27 ?k27 (by walk_at "b3")) (G.eK KX GN ?a28 ?l28 ?c28 ?k28 (by walk_at "b4")) (G.eK KX GN ?a29 ?l29 ?c29 ?k29 (by walk_at "b3")) (G.eK KX GN ?a30 ?l30 ?c30 ?k30 (by walk_at "b2")) (G.eK KX GN ?a31 ?l31 ?c31 ?k31 (by walk_at "b1")) (G.eK KX GN ?a32 ?l32 ?c32 ?k32 (by walk_at "b2")) (G.eK KX GN ?a33 ?l33 ?c33 ?k33 (by walk_at "b2")) (G.eK KX GN ?a34 ?l34 ?c34 ?k34 (by walk_at "b2")) (G.eK KX GN ?a35 ?l35 ?c35 ?k35 (by walk_at "b1")) (G.eK KX GN ?a36 ?l36 ?c36 ?k36 (by walk_at "b1")) (G.eK KX GN ?a37 ?l37 ?c37 ?k37 (by walk_at "b2")) (G.eK KX GN ?a38 ?l38 ?c38 ?k38 (by walk_at "b3")) (G.eK KX GN ?a39 ?l39 ?c39 ?k39 (by walk_at "b2")) (G.eK KX GN ?a40 ?l40 ?c40 ?k40 (by walk_at "b1")) (G.eK KX GN ?a41 ?l41 ?c41 ?k41 (by walk_at "b2")) ?a42 ?l42 ?c42 ?k42 ?z0 ?z1 ?z2 ?z3 ?z4 ?z5 ?z6 ?z7 ?z8 ?z9 ?z10 ?z11 ?z12 ?z13 ?z14 ?gq0 ?mq0 ?gq1 ?mq1 ?gq2 ?mq2 ?gq3 ?gq4 ?gq5 ?gq6 ?gq7 ?mq7 ?dg0 ?dz0 ?dl0 ?dm0_0 ?dm0_1 ?dm0_2 ?dm0_3 ?dm0_4 ?dm0_5 ?dm0_6 ?dm0_7 ?dm0_8 ?mq_0 ?mq_1 ?mq_2 ?mq_3 ?mq_4 ?mq_5 ?mq_6 ?mq_7 ?mq_8 ?mq_9 ?mq_10 ?mq_11 ?mq_12 ?mq_13 ?mq_14 ?mq_15 ?mq_16 ?mq_17 ?mq_18 ?mq_19 ?mq_20 ?mq_21 ?mq_22 ?mq_23 ?mq_24 ?mq_25 ?mq_26 ?mq_27 ?mq_28 ?mq_29 ?mq_30 ?mq_31 ?mq_32 ?mq_33 ?mq_34 ?mq_35 ?mq_36 ?mq_37 ?mq_38 ?xf0 ?xf1 ?xf2 ?xf3 ?xf4 ?xf5 ?xf6 ?xf7 ?xf8 ?xf9 ?xf10 ?xf11 ?xf12 ?xf13 ?xf14 ?xf15 ?xf16 ?xf17 ?xf18 ?xf19 ?le_code_of ?lk_code_of ?lw_code_of
  (case a0|l0|c0|k0|a1|l1|c1|k1|a2|l2|c2|k2|a3|l3|c3|k3|a4|l4|c4|k4|a5|l5|c5|k5|a6|l6|c6|k6|a7|l7|c7|k7|a8|l8|c8|k8|a9|l9|c9|k9|a10|l10|c10|k10|a11|l11|c11|k11|a12|l12|c12|k12|a13|l13|c13|k13|a14|l14|c14|k14|a15|l15|c15|k15|a16|l16|c16|k16|a17|l17|c17|k17|a18|l18|c18|k18|a19|l19|c19|k19|a20|l20|c20|k20|a21|l21|c21|k21|a22|l22|c22|k22|a23|l23|c23|k23|a24|l24|c24|k24|a25|l25|c25|k25|a26|l26|c26|k26|a27|l27|c27|k27|a28|l28|c28|k28|a29|l29|c29|k29|a30|l30|c30|k30|a31|l31|c31|k31|a32|l32|c32|k32|a33|l33|c33|k33|a34|l34|c34|k34|a35|l35|c35|k35|a36|l36|c36|k36|a37|l37|c37|k37|a38|l38|c38|k38|a39|l39|c39|k39|a40|l40|c40|k40|a41|l41|c41|k41|a42|l42|c42|k42|z0|z1|z2|z3|z4|z5|z6|z7|z8|z9|z10|z11|z12|z13|z14|gq0|mq0|gq1|mq1|gq2|mq2|gq3|gq4|gq5|gq6|gq7|mq7|dg0|dl0|dm0_0|dm0_1|dm0_2|dm0_3|dm0_4|dm0_5|dm0_6|dm0_7|dm0_8=>k_is)
  (case dz0=>rfl)
  (case mq_0|mq_1|mq_2|mq_3|mq_4|mq_5|mq_6|mq_7|mq_8|mq_9|mq_10|mq_11|mq_12|mq_13|mq_14|mq_15|mq_16|mq_17|mq_18|mq_19|mq_20|mq_21|mq_22|mq_23|mq_24|mq_25|mq_26|mq_27|mq_28|mq_29|mq_30|mq_31|mq_32|mq_33|mq_34|mq_35|mq_36|mq_37|mq_38|xf0|xf1|xf2|xf3|xf4|xf5|xf6=>k_is)
  (case xf7=>k_exc)
  (case xf8=>k_exc)
  (case xf9|xf10|xf11|xf12|xf13|xf14|xf15|xf16=>k_is)
  (case xf17=>kit_is)
  (case xf18=>kit_is)
  (case xf19=>kit_is)
  (case le_code_of=>exact rfl)
  (case lk_code_of=>k_is)
  (case lw_code_of=>exact rfl)
 case L =>
  intro w h KX
  refine' G.Ei KX (by kernel_rfl) ?ma_by_worth ?ma_by_weight ?ma_code_of ?ml_code_of ?mc_code_of ?mk_code_of ?mw_code_of ?mr_code_of
  (case ma_by_worth|ma_by_weight|ma_code_of|ml_code_of=>k_is)
  (case mc_code_of=>exact rfl)
  (case mk_code_of=>k_is)
  (case mw_code_of=>exact rfl)
  (case mr_code_of=>exact rfl)
end
