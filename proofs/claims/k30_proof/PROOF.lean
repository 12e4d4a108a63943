import PyProof.Rows.All
import Wide.All
import OpenK.AllK
import Wide.FinOn
import Lean
import PyProof.EqAt
import PyProof.EqKinds
import PyProof.TupleCall
import KE.KSortKey
import KE.KLam
import PySem.Challenge.RW_shortrows_k30_rows_read
namespace PySem.W.Fast
noncomputable def tw5761796438998202208:=0
noncomputable def tw15968429816488541512:=0
noncomputable def tw11449161465525382099:=0
noncomputable def tw9432032175170619827:=0
noncomputable def tw4544727835184008296:=0
noncomputable def tw5625886015648718773:=0
noncomputable def tw17277094196549961725:=0
noncomputable def tw14699861350535529092:=0
noncomputable def tw8968786066242382772:=0
noncomputable def tw18251074438288687980:=0
noncomputable def tw17064316574026247966:=0
noncomputable def tw8065298565949619520:=0
noncomputable def tw10489152622805126497:=0
noncomputable def tw7038453775562239788:=0
noncomputable def tw5810170242008889567:=0
noncomputable def tw1635017957013905632:=0
noncomputable def tw16989234504796799793:=0
noncomputable def tw15763759372385820640:=0
noncomputable def tw12306709523875375488:=0
noncomputable def tw3322655344395934869:=0
noncomputable def tw2918775415072783342:=0
noncomputable def tw10454573618102935118:=0
noncomputable def tw9070540437559957953:=0
noncomputable def tw1578326871263677229:=0
noncomputable def tw7358449223977284253:=0
noncomputable def tw9709880712686266193:=0
noncomputable def tw3324957967422760252:=0
noncomputable def tw11067571492126309893:=0
noncomputable def tw3819155427674108616:=0
noncomputable def tw1962988091226228366:=0
noncomputable def tw15507547541691355163:=0
noncomputable def tw8261955915176517414:=0
noncomputable def tw15819592881743788485:=0
noncomputable def tw401035331811168475:=0
noncomputable def tw415347884993014946:=0
noncomputable def tw5704611968178493406:=0
noncomputable def tw188463940789836374:=0
noncomputable def tw16331438993684026207:=0
noncomputable def tw899867046326752760:=0
noncomputable def tw3008703779419721966:=0
noncomputable def tw6257959925822203290:=0
noncomputable def tw6954001236468644781:=0
noncomputable def tw13390486860159569361:=0
noncomputable def tw4150252496063115909:=0
noncomputable def tw3255474067689950498:=0
noncomputable def tw7206496028446780494:=0
noncomputable def tw1614453455855157738:=0
noncomputable def tw11130617798611355631:=0
noncomputable def tw3843693649419181959:=0
noncomputable def tw12864305828289172893:=0
noncomputable def tw12988800608640858070:=0
noncomputable def tw14708655186586511830:=0
noncomputable def tw7226282694010507875:=0
noncomputable def tw5334926834446272050:=0
noncomputable def tw9671218307921139846:=0
noncomputable def tw1333211181377239571:=0
noncomputable def tw605175303102590563:=0
noncomputable def tw11045412748171285913:=0
noncomputable def tw11202651872599732819:=0
noncomputable def tw13742853306523406747:=0
noncomputable def tw12464815681315277989:=0
noncomputable def tw16650561487310180991:=0
noncomputable def tw5687095755988834575:=0
noncomputable def tw4070278049604216697:=0
noncomputable def tw12635148478940106758:=0
noncomputable def tw8886084436056721662:=0
noncomputable def tw7218764522713559348:=0
noncomputable def tw4604803198852315868:=0
noncomputable def tw10339946053024683781:=0
noncomputable def tw4734313895793415162:=0
noncomputable def tw11393756357014262066:=0
noncomputable def tw5047566977540585353:=0
noncomputable def tw16545526398335545031:=0
noncomputable def tw12548386473581571502:=0
noncomputable def tw11602727694737909663:=0
noncomputable def tw13092689160142703539:=0
noncomputable def tw17190458335802290688:=0
noncomputable def tw12005977130593357049:=0
noncomputable def tw16137850316528094731:=0
noncomputable def tw5328691966731812971:=0
noncomputable def tw9582899983319100681:=0
noncomputable def tw8118946296688671147:=0
noncomputable def tw8074503132733048682:=0
noncomputable def tw8530306970567355042:=0
noncomputable def tw14346534135325342509:=0
noncomputable def tw17650680831665540767:=0
noncomputable def tw1876446914218615231:=0
noncomputable def tw1097398919869974493:=0
noncomputable def tw15797635502192507748:=0
noncomputable def tw11843965785856954958:=0
noncomputable def tw8004973377403293916:=0
noncomputable def tw5801852597118086431:=0
noncomputable def tw1146649002131486581:=0
noncomputable def tw354738554848418655:=0
noncomputable def tw2952117637320725874:=0
noncomputable def tw982823215586717375:=0
noncomputable def tw8101347677810169367:=0
noncomputable def tw14942823398738618245:=0
noncomputable def tw5243886570889067266:=0
noncomputable def tw5952729798997518315:=0
noncomputable def tw12600069995287211108:=0
noncomputable def tw1529510324012424480:=0
noncomputable def tw15699482676012718790:=0
noncomputable def tw12104619420511394510:=0
noncomputable def tw14092593066034928900:=0
noncomputable def tw3189743039334002342:=0
noncomputable def tw16046255014738355379:=0
noncomputable def tw11647952809434252337:=0
noncomputable def tw17338477360454297822:=0
noncomputable def tw15739676292595229846:=0
noncomputable def tw8364043226422327649:=0
noncomputable def tw10011248267348948545:=0
noncomputable def tw14897805769200874915:=0
noncomputable def tw15360633043631522004:=0
noncomputable def tw3202312118976514360:=0
noncomputable def tw17789486392686210051:=0
noncomputable def tw9793886160244657120:=0
noncomputable def tw10884262137662287142:=0
noncomputable def tw7276249200333556656:=0
noncomputable def tw6911353317285700266:=0
noncomputable def tw16369071979311210090:=0
noncomputable def tw1347604863517395241:=0
noncomputable def tw14557897207635899323:=0
noncomputable def tw7952948229044408996:=0
noncomputable def tw6835388259910606238:=0
noncomputable def tw3082631236206813475:=0
noncomputable def tw16162061357990538635:=0
noncomputable def tw9472876189979462826:=0
noncomputable def tw2408974985786289355:=0
noncomputable def tw10322216013879943670:=0
noncomputable def tw9891471054621453515:=0
noncomputable def tw15507764983037281221:=0
noncomputable def tw6832063191639695776:=0
noncomputable def tw14982927368640337605:=0
noncomputable def tw9554125572943122188:=0
noncomputable def tw9499542655133986378:=0
noncomputable def tw18211466505697198459:=0
noncomputable def tw13523299346372537152:=0
noncomputable def tw18249135092884527836:=0
noncomputable def tw15197149912390831057:=0
noncomputable def tw2698643384964071100:=0
noncomputable def tw2283832334090269589:=0
noncomputable def tw8145349188882949039:=0
noncomputable def tw6127192137408334462:=0
noncomputable def tw7000226953284840275:=0
noncomputable def tw3611501133913656230:=0
noncomputable def tw13075225684219306188:=0
noncomputable def tw16939352901931164843:=0
noncomputable def tw10003647105993623585:=0
noncomputable def tw4815089622797463035:=0
noncomputable def tw235275289924118829:=0
noncomputable def tw6192021174939536773:=0
noncomputable def tw8942804120230713559:=0
noncomputable def tw11541114984444007643:=0
noncomputable def tw3947657281376128297:=0
noncomputable def tw10283977624576206149:=0
noncomputable def tw15914221351836205453:=0
noncomputable def tw844458597424152393:=0
noncomputable def tw3528076103468915160:=0
noncomputable def tw7620467620467037898:=0
noncomputable def tw3502964817268862830:=0
noncomputable def tw6638393673769672193:=0
noncomputable def tw2922075412641356951:=0
noncomputable def tw2982923837897243925:=0
noncomputable def tw17083666130871124146:=0
noncomputable def tw1267797801108867234:=0
noncomputable def tw743308322756349518:=0
noncomputable def tw9708719635766658836:=0
noncomputable def tw2470327770737177009:=0
noncomputable def tw12601506893325032723:=0
noncomputable def tw11691919483915311649:=0
noncomputable def tw12252875462127848691:=0
noncomputable def tw11647664118686273199:=0
noncomputable def tw9822846994663820909:=0
noncomputable def tw17076535261558969218:=0
noncomputable def tw6137338822536089256:=0
noncomputable def tw9260172174325693339:=0
noncomputable def tw61788027100211214:=0
noncomputable def tw13691404347663968563:=0
noncomputable def tw793658946203411106:=0
noncomputable def tw9140846790359088782:=0
noncomputable def tw795152756514445058:=0
noncomputable def tw10350396184963153947:=0
noncomputable def tw8910887344160560979:=0
noncomputable def tw6708115776970394948:=0
noncomputable def tw17751204919756075024:=0
noncomputable def tw18116016890903869614:=0
noncomputable def tw5229969390393586558:=0
noncomputable def tw12837329360515295685:=0
end PySem.W.Fast
set_option Elab.async false
set_option linter.all false
set_option maxRecDepth 100000
set_option maxHeartbeats 4000000
noncomputable section
set_option compiler.extract_closed false
theorem ℜz0(_:True:=by rfl):True:=⟨⟩
def ℜ0:Lean.Syntax:=ℜz0._auto_1
theorem ℜz1(_:True:=by decide):True:=⟨⟩
def ℜ1:Lean.Syntax:=ℜz1._auto_1
theorem ℜz2(_:True:=by first|exact .inl rfl|exact .inr rfl|assumption):True:=⟨⟩
def ℜ2:Lean.Syntax:=ℜz2._auto_1
theorem ℜz3(_:True:=by intro _;rfl):True:=⟨⟩
def ℜ3:Lean.Syntax:=ℜz3._auto_1
theorem ℜz4(_:True:=by first|exact Or.inl rfl|exact Or.inr (Or.inl rfl)|exact Or.inr (Or.inr rfl)):True:=⟨⟩
def ℜ4:Lean.Syntax:=ℜz4._auto_1
theorem ℜz5(_:True:=by with_unfolding_all rfl):True:=⟨⟩
def ℜ5:Lean.Syntax:=ℜz5._auto_1
theorem ℜz6(_:True:=by decide +kernel):True:=⟨⟩
def ℜ6:Lean.Syntax:=ℜz6._auto_1
namespace L2
open PySem PySem.Spec PyProof.Rows
variable{us:List Value}{x:Str}{u:Value}{a b:Addr}{o:Obj}{base h:Heap}{items:Array Value}{P:Program}{w:World}{g':Array GenState}{ch fp:List Addr}{c e tg:Expr}{N:List Str}{i j k:Nat}{M:Model}{E Q:Value->Shared->Prop}{s s':Shared}{pins:List (Addr×Obj)}{f:Value->Value->Sem Value}{es:List Expr}{body:List Stmt}{mA mg:Str->Option Value}{fd:FuncData}{kindOf:Str->Option NameKind}{scope:Scope}
noncomputable def KU:=@PySem.wpAny_bind
noncomputable def KW:=@List.getElem?_eq_getElem
noncomputable def KY:=@List.length_append
noncomputable def KZ:=@List.mem_cons_of_mem
noncomputable def K_:=@List.mem_cons_self
noncomputable def La:=@PySem.Heap.get?_push_of_some
noncomputable def Lb:=@List.length_map
noncomputable def Lc:=@if_neg
noncomputable def Ld:=@List.size_toArray
noncomputable def Le:=@List.mem_cons
noncomputable def Lf:=@List.length_cons
noncomputable def Lg:=@Bool.false_ne_true
noncomputable def Lh:=@PySem.wpAny_pure
noncomputable def Li:=@if_pos
noncomputable def Lj:=@Nat.le_refl
noncomputable def Lk:=@Nat.le_trans
noncomputable def Ll:=@List.getElem?_eq_some_iff
noncomputable def Lm:=@PySem.Heap.lt_size
noncomputable def Ln:=@List.length_replicate
noncomputable def Lo:=@List.mem_singleton
noncomputable def Lp:=@List.getD_eq_getElem?_getD
noncomputable def Lq:=@PySem.Heap.get?_push_size
noncomputable def Lr:=@List.getElem?_map
noncomputable def Ls:=@List.append_assoc
noncomputable def Lu:=@decide_eq_false
noncomputable def Lv:=@Nat.lt_of_lt_of_le
noncomputable def Lw:=@List.mem_append_right
noncomputable def Ly:=@Nat.ne_of_lt
noncomputable def Lz:=@List.length_range
noncomputable def L0:=@congrArg
noncomputable def L1:=@List.getElem_mem
noncomputable def L3:=@List.map_cons
noncomputable def L4:=@List.getElem?_eq_none_iff
noncomputable def L5:=@List.map_append
noncomputable def L6:=@List.mem_map
noncomputable def L7:=@List.length_take
noncomputable def L8:=@List.append_nil
noncomputable def L9:=@List.pairwise_cons
noncomputable def LA:=@Nat.lt_of_succ_lt
noncomputable def LC:=@List.length_nil
noncomputable def LD:=@List.length_singleton
noncomputable def LF:=@Array.getElem?_toList
noncomputable def LG:=@decide_eq_true
noncomputable def LH:=@Nat.zero_le
noncomputable def LI:=@Int.toNat_natCast
noncomputable def LJ:=@Array.length_toList
noncomputable def LK:=@List.getElem?_set_self
noncomputable def LL:=@List.drop_eq_getElem_cons
noncomputable def LM:=@PySem.wpAny_holding
noncomputable def LN:=@List.replicate_succ
noncomputable def LO:=@List.getElem?_set_ne
noncomputable def LP:=@List.nodup_cons
noncomputable def LQ:=@Bool.and_eq_true
noncomputable def LR:=@PySem.PassesOwn.never
noncomputable def LS:=@List.length_drop
noncomputable def LU:=@List.not_mem_nil
noncomputable def LV:=@List.length_set
noncomputable def LW:=@List.mem_of_getElem?
noncomputable def LX:=@Nat.lt_of_le_of_lt
noncomputable def LY:=@List.mem_append
noncomputable def LZ:=@PySem.wpAny_callSpecial?_slot
noncomputable def L_:=@List.all_cons
noncomputable def Ma:=@Nat.lt_or_ge
noncomputable def Mb:=@PySem.wpAny_call_entry
noncomputable def Mc:=@beq_eq_false_iff_ne
noncomputable def Md:=@List.getElem?_range
noncomputable def Me:=@PySem.wpAny_mono
noncomputable def Mf:=@of_decide_eq_true
noncomputable def Mg:=@List.nil_append
noncomputable def Mh:=@PyProof.Rows.callWith_type1
noncomputable def Mi:=@List.prefix_append
noncomputable def Mj:=@List.all_eq_true
noncomputable def Mk:=@List.pairwise_append
noncomputable def Ml:=@List.getElem?_append_right
noncomputable def Mm:=@List.take_of_length_le
noncomputable def Mn:=@PySem.wpAny_newObj_type
noncomputable def Mo:=@PySem.Heap.SameBut.update
noncomputable def Mp:=@Bool.false_eq_true
noncomputable def Mq:=@List.lookup_cons
noncomputable def Mr:=@List.getElem?_drop
noncomputable def Ms:=@PySem.Heap.size_push
noncomputable def Mt:=@List.flatten_cons
noncomputable def Mv:=@List.flatMap_cons
noncomputable def Mw:=@List.cons_append
noncomputable def Mx:=@List.mem_range
noncomputable def My:=@List.getElem?_toArray
noncomputable def Mz:=@Int.emod_lt_of_pos
noncomputable def M0:=@PyProof.Rows.slot_tuple_getitem
noncomputable def M4:=@PySem.sizeLine_eq
noncomputable def M5:=@List.mem_append_left
noncomputable def M6:=@Nat.ne_of_gt
noncomputable def M7:=@if_false
noncomputable def M8:=@PySem.call_meets
noncomputable def M9:=@Nat.zero_add
noncomputable def MA:=@Int.emod_nonneg
noncomputable def MB:=@List.pairwise_map
noncomputable def MC:=@Nat.lt_irrefl
noncomputable def MD:=@PySem.wpAny_typeNameOfWhole_keyiter
noncomputable def ME:=@List.mem_map_of_mem
noncomputable def MF:=@or_false
noncomputable def MG:=@List.ext_getElem
noncomputable def MH:=@Nat.le_succ
noncomputable def MI:=@Nat.le_of_lt
noncomputable def MJ:=@List.mem_replicate
noncomputable def MK:=@PySem.wpAny_passesOwn
noncomputable def ML:=@PySem.F.slot_tuple_iterator_next
noncomputable def MM:=@Nat.add_assoc
noncomputable def MN:=@Array.getElem?_eq_some_iff
noncomputable def MO:=@PySem.wpAny_truthy_bool
noncomputable def MP:=@List.ext_getElem?
noncomputable def MQ:=@List.getElem?_append_left
noncomputable def MR:=@PySem.wpAny_binaryOp_repeat_ref
noncomputable def MS:=@List.range_eq_range'
noncomputable def MT:=@List.pairwise_iff_getElem
noncomputable def MU:=@List.mem_or_eq_of_mem_set
noncomputable def MV:=@if_true
noncomputable def MW:=@Nat.lt_trans
noncomputable def MX:=@beq_self_eq_true
noncomputable def MY:=@List.set_eq_of_length_le
noncomputable def MZ:=@List.range'_succ
noncomputable def M_:=@PySem.F.slot_list_getattribute
noncomputable def Na:=@PySem.wpAny_typeNameOf_keyiter
noncomputable def Nb:=@List.length_reverse
noncomputable def Nc:=@List.prefix_of_prefix_length_le
noncomputable def Nd:=@List.getElem?_replicate
noncomputable def Nf:=@PySem.wpAny_getItem_str_slice
noncomputable def Ng:=@List.length_eq_zero_iff
noncomputable def Nh:=@List.any_cons
noncomputable def Ni:=@Bool.eq_iff_iff
noncomputable def Nj:=@PySem.wpAny_Call_Name_kw
noncomputable def Nk:=@PySem.typeIs_int
noncomputable def Nl:=@List.find?_cons
noncomputable def Nm:=@PySem.codeAny_builtin
noncomputable def Nn:=@List.length_range'
noncomputable def Np:=@List.getElem?_take
noncomputable def Nq:=@PySem.wpAny_field
noncomputable def Nr:=@Nat.lt_succ_of_lt
noncomputable def Nt:=@decide_eq_true_eq
noncomputable def Nu:=@List.map_nil
noncomputable def Nv:=@PySem.Heap.get?_update_self
noncomputable def Nw:=@PySem.wpAny_seqItems
noncomputable def Nx:=@List.drop_zero
noncomputable def Ny:=@List.drop_left
noncomputable def Nz:=@List.take_append_drop
noncomputable def N0:=@List.map_map
noncomputable def N1:=@List.drop_length
noncomputable def N3:=@PySem.Around.under_plainId
noncomputable def N4:=@List.getElem?_append
noncomputable def N5:=@List.reverse_reverse
noncomputable def N6:=@List.mem_reverse
noncomputable def N7:=@Array.toArray_toList
noncomputable def N8:=@PySem.wpAny_newList
noncomputable def N9:=@List.dropWhile_cons
noncomputable def NA:=@Array.toList_append
noncomputable def NB:=@PyProof.Rows.get?_update_seq
noncomputable def NC:=@PySem.W.KasT.kasWp_bind
noncomputable def ND:=@List.length_zip
noncomputable def NF:=@List.mem_filterMap
noncomputable def NG:=@PySem.Obj.data_mapFields
noncomputable def NH:=@PySem.wpAny_pyIter_tuple
noncomputable def NI:=@Nat.min_self
noncomputable def NJ:=@Nat.add_zero
noncomputable def NK:=@PySem.AutoSeq1.wpAny_loadPart'
noncomputable def NL:=@Nat.sub_self
noncomputable def NM:=@List.map_set
noncomputable def NN:=@List.set_cons_zero
noncomputable def NO:=@PySem.wpAny_setField_rec
noncomputable def NP:=@List.drop_drop
noncomputable def NQ:=@List.getElem?_cons_succ
noncomputable def NR:=@PySem.wpAny_pyIter_enum
noncomputable def NS:=@List.getElem?_set
noncomputable def NT:=@PySem.wpAny_pyIter_list
noncomputable def NU:=@PySem.wpAny_dictEntries
noncomputable def NV:=@Int.emod_eq_of_lt
noncomputable def NW:=@PySem.wpAny_pyNext_list_item
noncomputable def NX:=@PySem.Heap.get?_update_other
noncomputable def NY:=@List.pairwise_lt_range
noncomputable def NZ:=@PySem.wpAny_standAt
noncomputable def N_:=@PyProof.Rows.listUpdate_at
noncomputable def Oa:=@PySem.wpAny_attempt
noncomputable def Ob:=@decide_eq_decide
noncomputable def Oc:=@List.length_tail
noncomputable def Od:=@List.take_length
noncomputable def Oe:=@List.getElem_map
noncomputable def Of:=@PySem.wpAny_pyNext_list_end
noncomputable def Og:=@List.pairwise_reverse
noncomputable def Oh:=@List.mem_iff_getElem?
noncomputable def Oi:=@PySem.wpAny_isOneOf_keyiter
noncomputable def Oj:=@List.set_append_right
noncomputable def Ol:=@Int.emod_add_mul_ediv
noncomputable def Om:=@List.eraseIdx_eq_take_drop_succ
noncomputable def Oo:=@PySem.wpAny_execs_nil
noncomputable def Oq:=@List.of_mem_zip
noncomputable def Ot:=@List.foldl_cons
noncomputable def Ov:=@List.forIn_cons
noncomputable def Ow:=@PySem.wpAny_typeOf
noncomputable def Ox:=@PyProof.Rows.listItems_at
noncomputable def Oy:=@List.range_succ
noncomputable def Oz:=@PySem.post_val_or_str
noncomputable def O0:=@Nat.pow_succ
noncomputable def O1:=@Nat.pow_le_pow_right
noncomputable def O2:=@List.length_dropLast
noncomputable def O3:=@List.filterMap_cons
noncomputable def O4:=@List.takeWhile_cons
noncomputable def O5:=@List.reverse_append
noncomputable def O6:=@List.toList_toArray
noncomputable def O7:=@List.map_eq_nil_iff
noncomputable def O8:=@List.length_pos_iff
noncomputable def O9:=@Bool.false_and
noncomputable def OA:=@PySem.F.args_tuple_iterator_next_1
noncomputable def OB:=@PySem.wpAny_setField
noncomputable def OC:=@List.take_left
noncomputable def OD:=@PySem.wpAny_fieldsOf
noncomputable def OE:=@PySem.wpAny_ite_true
noncomputable def OF:=@List.take_succ
noncomputable def OG:=@Array.append_empty
noncomputable def OH:=@PySem.F.entry_tuple_iterator_next
noncomputable def OI:=@List.zip_cons_cons
noncomputable def OJ:=@Array.getD_eq_getD_getElem?
noncomputable def OK:=@List.getElem_range
noncomputable def OL:=@PySem.Calls.Name_function_global
noncomputable def OM:=@PySem.wpAny_letOwnedTupleGo_enum
noncomputable def OO:=@Nat.mul_assoc
noncomputable def OP:=@bne_self_eq_false
noncomputable def OQ:=@PySem.wpAny_rule
noncomputable def OR:=@PySem.Calls.call_function_entry
noncomputable def OS:=@List.extract_eq_take_drop
noncomputable def OT:=@List.exists_mem_of_ne_nil
noncomputable def OU:=@Nat.not_lt
noncomputable def OV:=@Array.getElem?_eq_getElem
noncomputable def OW:=@PySem.wpAny_eqBool_int
noncomputable def OX:=@Option.isSome_iff_exists
noncomputable def OY:=@Nat.succ_mul
noncomputable def OZ:=@PySem.wpAny_comprehension_free
noncomputable def O_:=@PySem.callType_new
noncomputable def Pa:=@PySem.Heap.size_update
noncomputable def Pb:=@Nat.sub_zero
noncomputable def Pc:=@Array.toList_inj
noncomputable def Pd:=@List.Pairwise.imp_of_mem
noncomputable def Pe:=@List.perm_middle
noncomputable def Pg:=@List.map_snd_zip
noncomputable def Ph:=@List.Perm.eq_of_pairwise
noncomputable def Pj:=@List.map_fst_zip
noncomputable def Pl:=@List.zipIdx_cons
noncomputable def Pm:=@Int.pow_succ
noncomputable def Pn:=@List.flatMap_nil
noncomputable def Po:=@PySem.wpAny_pyNext_enum_itemD
noncomputable def Pp:=@List.pairwise_singleton
noncomputable def Pq:=@Nat.add_sub_cancel_left
noncomputable def Pu:=@PySem.wpAny_loadPart'
noncomputable def Px:=@PySem.wpAny_dictEpoch
noncomputable def Pz:=@PySem.Calls.callWith_builtin
noncomputable def P0:=@Option.map_eq_some_iff
noncomputable def P1:=@PySem.wpAny_pyNext_enum_endD
noncomputable def P2:=@Int.le_refl
noncomputable def P4:=@List.length_eq_one_iff
noncomputable def P5:=@Array.getElem?_eq_none
noncomputable def P6:=@List.dropWhile_sublist
noncomputable def P7:=@PySem.fitsIndex_both
noncomputable def P9:=@List.nodup_nil
noncomputable def PD:=@List.eq_nil_or_concat
noncomputable def PF:=@PySem.wpAny_newTuple
noncomputable def PH:=@List.countP_mono_left
noncomputable def PJ:=@List.singleton_append
noncomputable def PL:=@List.dropLast_eq_take
noncomputable def PM:=@PySem.typeIs_str
noncomputable def PN:=@beq_iff_eq
noncomputable def PQ:=@PySem.rangeSize_one
noncomputable def PV:=@PySem.plainId_quiet
noncomputable def PX:=@List.map_take
noncomputable def PY:=@List.map_drop
noncomputable def PZ:=@Int.mul_assoc
noncomputable def P_:=@List.sum_cons
noncomputable def Qa:=@PySem.seqIndex_neg
noncomputable def Qb:=@Nat.le_of_eq
abbrev Qf:=PySem.W.Frag
variable{K:Qf}
abbrev Key:=Sum Int Str
noncomputable def gM:Key->Value->Bool
 |.inl k,v=>Value.isInt k v
 |.inr x,v=>Value.isStrOf x v
noncomputable def Kg(w:World):Key->Int
 |.inl k=>hashInt k
 |.inr x=>hashStr w x
theorem bf:∀{k:Key} {v:Value},gM k v=true->(∃ i t,k=Sum.inl i/\v=Value.int i t)\/(∃ x t,k=Sum.inr x/\v=Value.str x t)
 |.inl i,v,h=>by
  obtain⟨t,e⟩:=Value.isInt_shape (k:=i) (v:=v) h;exact .inl ⟨i,t,rfl,e⟩
 |.inr x,v,h=>by
  obtain⟨t,e⟩:=Value.isStrOf_shape (x:=x) (v:=v) h;exact .inr ⟨x,t,rfl,e⟩
theorem tU(i:Int)(t:Tok):gM (.inl i) (.int i t)=true:=by simp[gM,Value.isInt]
theorem tW(x:Str)(t:Tok):gM (.inr x) (.str x t)=true:=by simp[gM,Value.isStrOf]
theorem E_(a b:Int):decide ((Sum.inl a:Key)=Sum.inl b)=(a == b):=by
 by_cases e:a=b
 ·subst e;simp
 ·have h:¬ (Sum.inl a:Key)=Sum.inl b:=fun q=>e (Sum.inl.inj q);rw[Lu h];exact (Mc.mpr e).symm
theorem DL(a b:Str):decide ((Sum.inr a:Key)=Sum.inr b)=decide (a=b):=by
 by_cases e:a=b
 ·subst e;simp
 ·have h:¬ (Sum.inr a:Key)=Sum.inr b:=fun q=>e (Sum.inr.inj q);rw[Lu h,Lu e]
theorem DM(a:Int)(b:Str):decide ((Sum.inl a:Key)=Sum.inr b)=false:=Lu (fun q=>nomatch q)
theorem Du(a:Str)(b:Int):decide ((Sum.inr a:Key)=Sum.inl b)=false:=Lu (fun q=>nomatch q)
noncomputable def bR(prog:Program)(w:World):PySem.KeyKind prog w Key where
 is:=gM
 hash:=Kg w
 inj:=fun v a b ha hb=>by
  rcases bf ha with ⟨i,t,rfl,rfl⟩|⟨x,t,rfl,rfl⟩
  ·rcases bf hb with ⟨j,u,rfl,e⟩|⟨y,u,rfl,e⟩
   ·injection e with e1 _;rw[e1]
   ·exact nomatch e
  ·rcases bf hb with ⟨j,u,rfl,e⟩|⟨y,u,rfl,e⟩
   ·exact nomatch e
   ·injection e with e1 _;rw[e1]
 byValue:=fun k v h=>by
  rcases bf h with ⟨i,t,rfl,rfl⟩|⟨x,t,rfl,rfl⟩<;>rfl
 pyHash:=fun hv h=>by
  rcases bf hv with ⟨i,t,rfl,rfl⟩|⟨x,t,rfl,rfl⟩
  ·exact wpAny_pyHash_int h
  ·exact wpAny_pyHash_str h
 eqBool:=fun hu hv h=>by
  rcases bf hu with ⟨i,t,rfl,rfl⟩|⟨x,t,rfl,rfl⟩
  ·rcases bf hv with ⟨j,u,rfl,rfl⟩|⟨y,u,rfl,rfl⟩
   ·rw[E_] at h;exact OW h
   ·rw[DM] at h;exact SeqAt.EqAt.int_str i t y u _ _ _ _ h
  ·rcases bf hv with ⟨j,u,rfl,rfl⟩|⟨y,u,rfl,rfl⟩
   ·rw[Du] at h;exact SeqAt.EqAt.str_int x t j u _ _ _ _ h
   ·rw[DL] at h;exact wpAny_eqBool_str h
 «strs»:=fun k x t v h=>by
  rcases bf h with ⟨i,u,rfl,e⟩|⟨y,u,rfl,e⟩
  ·exact nomatch e
  ·injection e with e1 _
   subst e1
   cases v<;>rfl
theorem nV(prog:Program)(w:World)(i:Int)(t:Tok):(bR prog w).is (.inl i) (.int i t)=true:=tU i t
theorem nU(prog:Program)(w:World)(x:Str)(t:Tok):(bR prog w).is (.inr x) (.str x t)=true:=tW x t
inductive V where
 |aC|bl (b:Bool)|int (i:Int)|str (x:Str)|uq (b:Array UInt8)|Fu (b:UInt64)|ref (a:Addr)|ty (n:String)
 deriving DecidableEq
variable{vs xs:List V}
noncomputable def RelV:V->Value->Prop
 |.aC,u=>u=Value.none
 |.bl b,u=>u=Value.bool b
 |.int i,u=>∃ t,u=Value.int i t
 |.str x,u=>∃ t,u=Value.str x t
 |.uq b,u=>∃ t,u=Value.bytes b t
 |.Fu b,u=>∃ t,u=Value.float b t
 |.ref a,u=>u=Value.ref a
 |.ty n,u=>u=Value.type n
abbrev Vals:List V->List Value->Prop:=Paired RelV
theorem Vals.length(r:Vals xs us):xs.length=us.length:=Paired.length r
theorem Vals.get:∀{xs:List V} {us:List Value} {i:Nat} {x:V},Vals xs us->xs[i]?=some x->∃ u,us[i]?=some u/\RelV x u
 |_,_,_,_,.nil,e=>by simp at e
 |_,_,0,_,.cons r _,e=>by simp at e;subst e;exact⟨_,rfl,r⟩
 |_,_,i+1,x,.cons _ t,e=>by
  obtain⟨u,h1,h2⟩:=Vals.get (i:=i) (x:=x) t (by simpa using e)
  exact⟨u,by simpa using h1,h2⟩
theorem Vals.set{x:V}(r:RelV x u):∀{xs:List V} {us:List Value} (i:Nat),Vals xs us->Vals (xs.set i x) (us.set i u)
 |_,_,_,.nil=>.nil
 |_,_,0,.cons _ t=>.cons r t
 |_,_,i+1,.cons q t=>.cons q (Vals.set r i t)
theorem Vals.append:∀{xs ys:List V} {us ws:List Value},Vals xs us->Vals ys ws->Vals (xs++ys) (us++ws)
 |_,_,_,_,.nil,s=>s
 |_,_,_,_,.cons r t,s=>.cons r (Vals.append t s)
theorem Vals.take:∀{xs:List V} {us:List Value} (n:Nat),Vals xs us->Vals (xs.take n) (us.take n)
 |_,_,0,_=>.nil
 |_,_,_+1,.nil=>.nil
 |_,_,n+1,.cons r t=>.cons r (Vals.take n t)
theorem Vals.drop:∀{xs:List V} {us:List Value} (n:Nat),Vals xs us->Vals (xs.drop n) (us.drop n)
 |_,_,0,r=>r
 |_,_,_+1,.nil=>.nil
 |_,_,n+1,.cons _ t=>Vals.drop n t
noncomputable def jN:Option V->Option Value->Prop
 |some v,some u=>RelV v u
 |none,none=>True
 |_,_=>False
noncomputable def KV{κ:Type}:List (κ×V)->List (κ×Value)->Prop:=Paired fun (p:κ×V) (q:κ×Value)=>p.1=q.1/\RelV p.2 q.2
noncomputable def kV:Key->V
 |.inl i=>.int i
 |.inr x=>.str x
inductive HO where
 |lst (xs:List V)
 |tup (xs:List V)
 |dK (kvs:List (Key×V))|dT (kvs:List (List Key×V))
 |set (S:Int->Bool) (n:Nat)
 |ins (C dx:Addr) (fs:List (Str×V))
 |own (x:Addr)
 |xd (fs:List (Str×V))
 |met (f x:Addr)
 |dI (lo hi:Int)
 |gK (o:Obj) (u:HO)
 |vD (ps:Array Value)
 |ext (φ:Heap->Prop)
abbrev Hp:=Addr->Option HO
variable{H:Hp}
noncomputable def upd(H:Hp)(a:Addr)(o:HO):Hp:=fun b=>if b=a then some o else H b
theorem aq{o:HO}:upd H a o a=some o:=by unfold upd;rw[Li rfl]
theorem ai{o:HO}(h:b≠a):upd H a o b=H b:=by unfold upd;rw[Lc h]
theorem tJ{o u:HO}:upd (upd H a o) a u=upd H a u:=by
 funext b;unfold upd;split<;>rfl
theorem aM{o:HO}(h:H a=some o)(h':H b=none):a≠b:=by
 intro e;subst e;rw[h] at h';cases h'
noncomputable def Jd:List Value->Str
 |.str q _::_=>q
 |_=>Str.ofString ""
noncomputable def wu(ps:Array Value):Str:=Jd ps.toList
noncomputable def C0(H:Hp)(q:Str)(cv:Value):Prop:=∃(c:Addr) (oc:Obj) (vs:Array Value) (t:Tok),cv=.ref c/\H c=some (.gK oc (.own c))/\oc.data=.fields vs/\vs[1]?=some (.str q t)
noncomputable def cU(h:Heap)(a:Addr)(items:Array Value):Prop:=∃ o:Obj,h.get? a=some o/\o.cls=.type "tuple"/\∃ n,o.data=.seq items n/\o.dict=none
theorem cU.to(x:cU h a items):IsTup h a items:=let ⟨o,e,c,n,d,_⟩:=x;⟨o,e,c,n,d⟩
theorem cU.new(h:Heap)(items:Array Value):cU (h.push {cls:=.type "tuple",data:=.seq items}) h.objs.size items:=⟨_,Lq h rfl,rfl,_,rfl,rfl⟩
theorem cU.lt(x:cU h a items):a<h.objs.size:=x.to.lt
section
variable (P:Program) (w:World)
noncomputable def aP(H:Hp)(h:Heap)(a:Addr):HO->Prop
 |.lst xs=>xs.length<=sizeLine/\∃(its:List Value) (n:Nat),Vals xs its/\h.get? a=some {cls:=.type "list",data:=.seq its.toArray n}
 |.tup xs=>xs.length<=sizeLine/\∃ its:List Value,Vals xs its/\cU h a its.toArray
 |.dK kvs=>kvs.length<=sizeLine/\(a == sysModules)=false/\∃ vs,KV kvs vs/\h.DictOf (bR P w) a vs
 |.dT kvs=>kvs.length<=sizeLine/\(a == sysModules)=false/\∃ xs:List (List Key×Addr×Value),
   Paired (fun (p:List Key×V) (q:List Key×Addr×Value)=>p.1=q.1/\H q.2.1=some (.tup (p.1.map kV))/\RelV p.2 q.2.2) kvs xs /\
   ∃ o es ep,h.get? a=some o/\o.ExactDict/\o.data=.dict es ep/\es.toList=xs.map (entryOfKey (tupleKind (bR P w)))/\(xs.map (·.1)).Nodup
 |.set S n=>h.SetOf (intKind P w) a S n
 |.ins C dx fs=>H dx=some (.own a)/\fs.length<=1000/\dx≠a/\h.get? a=some (PySem.W.instObj C dx) /\
   ∃ mA,h.Ns1 dx mA/\(∀ f,jN (fs.lookup f) (mA f))/\PySem.Within mA (fs.map (·.1))
 |.own _=>∃ o,h.get? a=some o
 |.xd fs=>∃ mA,h.Ns1 a mA/\∀ f,jN (fs.lookup f) (mA f)
 |.dI lo hi=>∃ t u v,h.get? a=some {cls:=.type "range",data:=.fields #[.int lo t,.int hi u,.int 1 v]}
 |.gK o u=>h.get? a=some o/\aP H h a u
 |.vD ps=>∃ qs:Array Value,h.get? a=some {cls:=.none,data:=.fields qs}/\TriplesOk qs.toList/\∀ pos cv,codeAmong pos qs.toList=some cv->C0 H (wu ps) cv
 |.met f x=>h.get? a=some (PySem.W.methodObj (.ref f) (.ref x))
 |.ext φ=>φ h/\(∃ o,h.get? a=some o)/\∀ h1 h2:Heap,φ h1->(∀ o,h1.get? a=some o->h2.get? a=some o)->φ h2
noncomputable def ij(H:Hp)(h:Heap):Prop:=∀ a o,H a=some o->aP P w H h a o
end
section
variable {P:Program} {w:World} {H H':Hp} {h h':Heap} {a:Addr} {o:HO}
theorem aP.lt(x:aP P w H h a o):a<h.objs.size:=by
 cases o with
 |lst xs=>obtain⟨_,_,_,_,e⟩:=x;exact Lm e
 |tup xs=>obtain⟨_,_,_,p⟩:=x;exact p.lt
 |dK kvs=>obtain⟨_,_,_,_,o,_,_,e,_⟩:=x;exact Lm e
 |dT kvs=>obtain⟨_,_,_,_,o,_,_,e,_⟩:=x;exact Lm e
 |set S n=>obtain⟨o,_,_,_,e,_⟩:=x;exact Lm e
 |ins C dx fs=>obtain⟨_,_,_,e,_⟩:=x;exact Lm e
 |own y=>obtain⟨_,e⟩:=x;exact Lm e
 |xd fs=>obtain⟨_,⟨_,_,_,e,_⟩,_⟩:=x;exact Lm e
 |dI lo hi=>obtain⟨_,_,_,e⟩:=x;exact Lm e
 |gK ob u=>obtain⟨e,_⟩:=x;exact Lm e
 |vD ps=>obtain⟨_,e,_⟩:=x;exact Lm e
 |met f y=>exact Lm (show h.get? a=some _ from x)
 |ext φ=>obtain⟨_,⟨_,e⟩,_⟩:=x;exact Lm e
theorem Paired.uN{α β:Type}{F G:α->β->Prop}:∀{l₁:List α} {l₂:List β},Paired F l₁ l₂->(∀ a b,F a b->G a b)->Paired G l₁ l₂
 |_,_,.nil,_=>.nil
 |_,_,.cons r t,f=>.cons (f _ _ r) (Paired.uN t f)
theorem aP.jY(x:aP P w H h a o)(k:∀ b u,(b=a\/H b=some (.own a))->h.get? b=some u->h'.get? b=some u)
  (ho:∀ b,H b=some (.own a)->H' b=some (.own a)) (ht:∀ b xs,H b=some (.tup xs)->H' b=some (.tup xs)) (hz:∀ b o u,H b=some (.gK o u)->H' b=some (.gK o u)):aP P w H' h' a o:=by
 induction o with
 |lst xs=>obtain⟨z,its,n,r,e⟩:=x;exact⟨z,its,n,r,k _ _ (.inl rfl) e⟩
 |tup xs=>obtain⟨z,its,r,ob,e,c⟩:=x;exact⟨z,its,r,ob,k _ _ (.inl rfl) e,c⟩
 |dK kvs=>obtain⟨z,y,vs,r,ob,es,ep,e,c⟩:=x;exact⟨z,y,vs,r,ob,es,ep,k _ _ (.inl rfl) e,c⟩
 |dT kvs =>
  obtain⟨z,y,xs,r,ob,es,ep,e,c⟩:=x;exact⟨z,y,xs,Paired.uN r fun p q z=>⟨z.1,ht _ _ z.2.1,z.2.2⟩,ob,es,ep,k _ _ (.inl rfl) e,c⟩
 |set S n=>obtain⟨ob,es,ep,t,e,c⟩:=x;exact⟨ob,es,ep,t,k _ _ (.inl rfl) e,c⟩
 |ins C dx fs =>
  obtain⟨d,z,ne,e,mA,⟨od,es,ep,e2,c⟩,r⟩:=x;exact⟨ho _ d,z,ne,k _ _ (.inl rfl) e,mA,⟨od,es,ep,k _ _ (.inr d) e2,c⟩,r⟩
 |own y=>obtain⟨ob,e⟩:=x;exact⟨ob,k _ _ (.inl rfl) e⟩
 |xd fs=>obtain⟨mA,⟨od,es,ep,e,c⟩,r⟩:=x;exact⟨mA,⟨od,es,ep,k _ _ (.inl rfl) e,c⟩,r⟩
 |dI lo hi=>obtain⟨t,u,v,e⟩:=x;exact⟨t,u,v,k _ _ (.inl rfl) e⟩
 |gK ob u ih=>obtain⟨e,q⟩:=x;exact⟨k _ _ (.inl rfl) e,ih q⟩
 |vD ps =>
  obtain⟨qs,e,t,f⟩:=x;exact⟨qs,k a _ (.inl rfl) e,t,fun pos cv q=>let ⟨c,oc,vs,t',e1,e2,e3⟩:=f pos cv q;⟨c,oc,vs,t',e1,hz _ _ _ e2,e3⟩⟩
 |met f y =>
  have e:h.get? a=some (PySem.W.methodObj (.ref f) (.ref y)):=x;show h'.get? a=some (PySem.W.methodObj (.ref f) (.ref y));exact k a _ (.inl rfl) e
 |ext φ=>obtain⟨p,⟨o,e⟩,st⟩:=x;exact⟨st _ _ p fun o q=>k _ _ (.inl rfl) q,⟨o,k _ _ (.inl rfl) e⟩,st⟩
theorem ij.lt(x:ij P w H h)(e:H a=some o):a<h.objs.size:=(x a o e).lt
theorem ij.fresh(x:ij P w H h)(e:h.objs.size<=a):H a=none:=by
 cases q:H a with
 |none=>rfl
 |some u=>exact absurd (Lv (x.lt q) e) (MC _)
theorem ij.kept(x:ij P w H h)(k:∀ b u,h.get? b=some u->h'.get? b=some u):ij P w H h':=fun a o e =>
 (x a o e).jY (fun b u _ q=>k b u q) (fun _ q=>q) (fun _ _ q=>q) fun _ _ _ q=>q
theorem ij.laid(x:ij P w H h)(k:∀ b u,h.get? b=some u->h'.get? b=some u)(hp:h.objs.size<=a)(new:aP P w (upd H a o) h' a o):ij P w (upd H a o) h':=fun b u e=>by
 have hn:=x.fresh hp;by_cases hb:b=a
 ·subst hb;rw[aq] at e;cases e;exact new
 ·rw[ai hb] at e;exact (x b u e).jY (fun c v _ q=>k c v q) (fun c q=>by rw[ai (aM q hn)];exact q) (fun c xs q=>by rw[ai (aM q hn)];exact q) fun c _ _ q=>by rw[ai (aM q hn)];exact q
end
noncomputable def Rd(H:Hp)(a:Addr)(u:HO):Prop:=H a=some u\/∃ o,H a=some (.gK o u)
theorem Rd.ok{u:HO}(r:Rd H a u)(x:ij P w H h):aP P w H h a u:=by
 rcases r with r|⟨o,r⟩
 ·exact x a u r
 ·obtain⟨_,q⟩:=x a _ r;exact q
noncomputable def Ic:Option HO->Prop
 |some (.lst _)=>True
 |some (.dK _)=>True
 |some (.dT _)=>True
 |some (.set _ _)=>True
 |some (.ins _ _ _)=>True
 |some (.ext _)=>True
 |_=>False
section
variable {P:Program} {w:World} {H:Hp} {h h':Heap} {x e:Addr} {o':HO}
theorem ij.write(ok:ij P w H h)(mu:Ic (H x))(he:e=x\/H e=some (.own x))(k:∀ b u,b≠e->h.get? b=some u->h'.get? b=some u)(heo:∃ u,h'.get? e=some u)
  (new:aP P w (upd H x o') h' x o'):ij P w (upd H x o') h':=fun b u q=>by
 have nown:∀ c y,H c=some (.own y)->c≠x:=fun c y r z=>by subst z;rw[r] at mu;exact mu
 have ntup:∀ c xs,H c=some (.tup xs)->c≠x:=fun c xs r z=>by subst z;rw[r] at mu;exact mu
 have nfrz:∀ c o1 u1,H c=some (.gK o1 u1)->c≠x:=fun c _ _ r z=>by subst z;rw[r] at mu;exact mu
 by_cases hb:b=x
 ·subst hb;rw[aq] at q;cases q;exact new
 ·rw[ai hb] at q;by_cases hbe:b=e
  ·have q':H b=some (.own x):=by
    rcases he with z|z
    ·exact absurd (hbe.trans z) hb
    ·rw[hbe];exact z
   rw[q] at q';cases q';obtain⟨v,hv⟩:=heo;exact⟨v,by rw[hbe];exact hv⟩
  ·refine (ok b u q).jY (fun c v hc r=>k c v ?_ r) (fun c r=>by rw[ai (nown c b r)];exact r) (fun c xs r=>by rw[ai (ntup c xs r)];exact r) fun c _ _ r=>by rw[ai (nfrz c _ _ r)];exact r
   rcases hc with rfl|hc
   ·exact hbe
   ·rintro rfl;rcases he with z|z
    ·exact nown c b hc z
    ·rw[hc] at z;cases z;exact hb rfl
end
structure Un (fs ex:List Addr) (H H':Hp) (h h':Heap):Prop where
 keep:∀ b o,h.get? b=some o->H b=none->b∉fs->b∉ex->h'.get? b=some o
 slot:∀ b o,h.get? b=some o->H b=none->b∈fs->b∉ex->∃ sl,h'.get? b=some {o with slots:=sl}
 free:∀ b o,h.get? b=some o->H b=none->b∉ex->H' b=none
 there:∀ b o,h.get? b=some o->b∉ex->∃ o',h'.get? b=some o'
 my:∀ b xs,H b=some (.tup xs)->H' b=some (.tup xs)
 kj:∀ b o u,H b=some (.gK o u)->H' b=some (.gK o u)
 jg:∀ b ps,H b=some (.vD ps)->∃ more,H' b=some (.vD (ps++more))
section
variable {fs fs' ex ex':List Addr} {H H1 H2:Hp} {h h1 h2 h':Heap} {a x e:Addr} {o:HO}
theorem Un.any(u:Un fs ex H H1 h h1){ob:Obj}(q:h.get? b=some ob)(n:H b=none)(hx:b∉ex):∃ sl,h1.get? b=some {ob with slots:=sl}:=by
 by_cases hb:b∈fs
 ·exact u.slot b ob q n hb hx
 ·exact⟨ob.slots,u.keep b ob q n hb hx⟩
theorem Un.kept(k:∀ b u,h.get? b=some u->h'.get? b=some u):Un fs ex H H h h':=
 ⟨fun b ob q _ _ _=>k b ob q,fun b ob q _ _ _=>⟨ob.slots,k b ob q⟩,fun _ _ _ n _=>n,fun b ob q _=>⟨ob,k b ob q⟩,fun _ _ q=>q,fun _ _ _ q=>q,fun _ ps q=>⟨#[],by rw[q];simp⟩⟩
theorem Un.refl:Un fs ex H H h h:=Un.kept fun _ _ q=>q
theorem Un.laid(k:∀ b u,h.get? b=some u->h'.get? b=some u)(hp:h.objs.size<=a)(hn:H a=none):Un fs ex H (upd H a o) h h' where
 keep:=fun b u q _ _ _=>k b u q
 slot:=fun b u q _ _ _=>⟨u.slots,k b u q⟩
 free:=fun b u q n _=>by rw[ai (Ly (Lv (Lm q) hp))];exact n
 there:=fun b u q _=>⟨u,k b u q⟩
 my:=fun b xs q=>by rw[ai (aM q hn)];exact q
 kj:=fun b u xs q=>by rw[ai (aM q hn)];exact q
 jg:=fun b ps q=>⟨#[],by rw[ai (aM q hn),q];simp⟩
theorem Un.write(mu:Ic (H x))(he:e=x\/H e=some (.own x))(k:∀ b u,b≠e->h.get? b=some u->h'.get? b=some u)(heo:∃ u,h'.get? e=some u):Un fs ex H (upd H x o) h h':=by
 have hx:∀ b,H b=none->b≠x:=fun b n z=>by subst z;rw[n] at mu;exact mu
 have hb:∀ b,H b=none->b≠e:=fun b n z=>by
  subst z;rcases he with r|r
  ·exact hx b n r
  ·rw[n] at r;cases r
 have hm:∀ b u,H b=some u->¬ Ic (some u)->b≠x:=fun b u q nm z=>by subst z;rw[q] at mu;exact nm mu
 refine⟨fun b u q n _ _=>k b u (hb b n) q,fun b u q n _ _=>⟨u.slots,k b u (hb b n) q⟩,fun b u q n _=>by rw[ai (hx b n)];exact n,fun b u q _=>?_,
  fun b xs q=>by rw[ai (hm b _ q fun z=>z)];exact q,fun b u xs q=>by rw[ai (hm b _ q fun z=>z)];exact q,fun b ps q=>⟨#[],by rw[ai (hm b _ q fun z=>z),q];simp⟩⟩
 by_cases hbe:b=e
 ·subst hbe;exact heo
 ·exact⟨u,k b u hbe q⟩
end
noncomputable def fi(h:Heap)(H:Hp):List Addr:=(List.range h.objs.size).filter fun a=>(H a).isSome
noncomputable def jX(h:Heap)(H:Hp):Heap:=PySem.W.hideAll h (fi h H)
theorem vc(h:Heap)(H:Hp):(jX h H).objs.size=h.objs.size:=PySem.W.hideAll_size _ _
theorem hG(e:h.get? b=some o)(n:H b=none):(jX h H).get? b=some o:=
 PySem.W.hideAll_get _ e fun hm=>by
  have q:(H b).isSome=true:=(List.mem_filter.mp hm).2;rw[n] at q;simp at q
theorem B7(e:(jX h H).get? b=some o):h.get? b=some o/\H b=none:=by
 have e':h.get? b=some o:=PySem.W.of_hideAll (fi h H) e;refine⟨e',?_⟩
 cases q:H b with
 |none=>rfl
 |some x =>
  have hm:b∈fi h H:=List.mem_filter.mpr ⟨Mx.mpr (Lm e'),by simp[q]⟩
  have z:(jX h H).get? b=none:=PySem.W.hideAll_none (fi h H) hm;rw[z] at e;cases e
noncomputable def BB(g h:Heap)(L:Addr):List (Addr×Obj):=(List.range h.objs.size).filterMap fun a=>if a=L\/(g.get? a).isSome=true then none else (h.get? a).map fun o=>(a,o)
noncomputable def rest(g h:Heap)(L d:Addr):List (Addr×Obj):=(BB g h L).filter fun p=>decide (p.1≠d)
noncomputable def dE:List Str:=["by_worth","by_weight","code_of"]
noncomputable def bz(K:Qf):List (Addr×Addr×Str):=dE.filterMap fun x=>(PySem.W.tabIn K x).map fun p=>(p.1,p.2,(x++".<locals>.")++"<lambda>")
noncomputable def TabsOk(K:Qf)(H:Hp):Prop:=∀ t∈bz K,∃ more,H t.2.1=some (.vD (#[.str t.2.2 0]++more))
theorem TabsOk.un{fs ex:List Addr}{H1:Hp}{h1:Heap}(x:TabsOk K H)(u:Un fs ex H H1 h h1):TabsOk K H1:=fun t ht=>by
 obtain⟨m,e⟩:=x t ht;obtain⟨m2,e2⟩:=u.jg _ _ e;exact⟨m++m2,by rw[e2,Array.append_assoc]⟩
noncomputable def Et(mg:Str->Option Value)(h:Heap):Prop:=∃ bm ob,mg "__builtins__"=some (.ref bm)/\bm≠builtinsNs/\h.get? bm=some ob/\ob.cls=.type "module"/\ob.dict=some builtinsNs/\ob.data=.plain
structure Mod (K:Qf) (mg:Str->Option Value) (base:Heap):Prop where
 J8:K.In base
 glob:base.Ns mainGlobals mg
 blt:∃ mb,base.Ns builtinsNs mb/\∀ x:Str,x≠"__name__"->mb x=bootBuiltins x
 nolimit:base.NoLimit
 codes:∀ t∈bz K,PySem.W.CodeHd base t.1 t.2.1
 bm:Et mg base
structure Cx where
 prog:Program
 w:World
 K:Qf
 mg:Str->Option Value
 base:Heap
 A:Around
 N:List Str
 s₀:Shared
 H₀:Hp
 env:Env
 outer:List Env
 stack:List Env
 ex:List Addr
 fn:Str->Bool
 calm:Bool
 pn:List (Addr×Obj)
 xe:Value->Shared->Prop
variable{X:Cx}
noncomputable def xo(l:List Env):List Addr:=l.filterMap (·.frame)
abbrev Cx.fs(X:Cx):List Addr:=xo X.outer
noncomputable def Es(sc:Scope)(x:Str):Prop:=sc.names.lookup x=some .local\/sc.names.lookup x=some .cell\/sc.names.lookup x=some .free
noncomputable def Loc(sc:Scope)(x:Str):Prop:=sc.names.lookup x=some .local\/sc.names.lookup x=some .cell
noncomputable def Look(env:Env)(h:Heap)(m:Str->Option Value)(x:Str)(u:Value):Prop:=
 (env.kindOf x=some .local/\m x=some u)\/((env.kindOf x=some .cell\/env.kindOf x=some .free)/\∃ c,env.cells.lookup x=some c/\h.IsCell c (some u))
structure Cx.Ok (X:Cx):Prop where
 mod:Mod X.K X.mg X.base
 kind:X.env.scope.kind=.function
 glob:X.env.globals=mainGlobals
 blt:X.env.builtins=builtinsNs
 above:X.s₀.heap.objs.size<=X.env.locals
 inj:∀ x y c,X.env.cells.lookup x=some c->X.env.cells.lookup y=some c->x=y
 has:∀ x,(X.env.kindOf x=some .cell\/X.env.kindOf x=some .free)->∃ c,X.env.cells.lookup x=some c
 FP:∀ x c,X.fn x=true->X.env.cells.lookup x=some c->X.s₀.heap.objs.size<=c
 hd:X.calm=true->X.A.handled=none
 frames:X.A.frames=some X.stack
 Iw:X.stack=X.outer\/(X.stack=X.env::X.outer/\X.env.frame=some X.env.locals)
 Kx:∀ b∈X.ex,b≠X.env.locals/\∀ x c,X.env.cells.lookup x=some c->c≠b
 bs:∀ b o,X.base.get? b=some o->X.s₀.heap.get? b=some o/\X.H₀ b=none
 An:X.base.objs.size<=X.s₀.heap.objs.size
 yc:∀ b o,X.base.get? b=some o->b∉X.ex
 BJ:∀ b∈X.ex,b∉X.fs
 jO:X.s₀.heap.FunFrames X.base X.outer
 Fh:∀ b∈X.fs,X.H₀ b=none
 tabs:TabsOk X.K X.H₀
structure Inv (X:Cx) (pins:List (Addr×Obj)) (σ:List (Option V)) (H:Hp) (s:Shared):Prop where
 ok:X.Ok
 os:s.os=X.s₀.os
 bare:AllBare s.gens
 base:Un X.fs X.ex X.H₀ H X.s₀.heap s.heap
 loc:∃ m,s.heap.Ns X.env.locals m/\∀(i:Nat) (x:Str) (v:V),X.N[i]?=some x->σ[i]?=some (some v)->Es X.env.scope x->∃ u,RelV v u/\Look X.env s.heap m x u
 cell:∀ x c,X.env.cells.lookup x=some c->∃ v,s.heap.IsCell c v
 free:H X.env.locals=none
 dM:∀ x c,X.env.cells.lookup x=some c->H c=none
 pin:∀ p∈X.pn++pins,s.heap.get? p.1=some p.2/\H p.1=none/\p.1≠X.env.locals/\p.1∉X.fs/\∀ v,p.2.data≠.cell v
 aJ:ij X.prog X.w H s.heap
 len:σ.length=X.N.length
section
variable {X:Cx} {pins:List (Addr×Obj)} {σ:List (Option V)} {H H':Hp} {s:Shared} {h':Heap}
theorem Cx.Ok.JP(ok:X.Ok)(e:X.base.get? b=some o):b∉X.fs:=fun hb=>by
 have:=(ok.jO.mem hb).1;rw[e] at this;cases this
theorem Inv.bs(I:Inv X pins σ H s):∀ b o,X.base.get? b=some o->s.heap.get? b=some o/\H b=none:=fun b o e =>
 ⟨I.base.keep b o (I.ok.bs b o e).1 (I.ok.bs b o e).2 (I.ok.JP e) (I.ok.yc b o e),I.base.free b o (I.ok.bs b o e).1 (I.ok.bs b o e).2 (I.ok.yc b o e)⟩
theorem Inv.bk(I:Inv X pins σ H s):∀ b o,X.base.get? b=some o->s.heap.get? b=some o:=fun b o e=>(I.bs b o e).1
theorem Inv.mod(I:Inv X pins σ H s):Mod X.K X.mg X.base:=I.ok.mod
theorem Inv.ki(I:Inv X pins σ H s):X.K.In s.heap:=I.ok.mod.J8.keeps I.bk
theorem Inv.nolimit(I:Inv X pins σ H s):s.heap.NoLimit:=I.ok.mod.nolimit.keeps I.bk
theorem Inv.lt(I:Inv X pins σ H s):X.env.locals<s.heap.objs.size:=let ⟨_,hn,_⟩:=I.loc;hn.lt
theorem Inv.sz(I:Inv X pins σ H s):X.s₀.heap.objs.size<=s.heap.objs.size:=Lk I.ok.above (MI I.lt)
theorem Inv.GW(I:Inv X pins σ H s)(h:s.heap.objs.size<=a):a∉X.fs:=fun hb=>by
 obtain⟨_,o,ho,_⟩:=I.ok.jO.mem hb;exact absurd (Lv (Lm ho) (Lk I.sz h)) (MC _)
theorem Inv.Dc(I:Inv X pins σ H s):∀ x c,X.env.cells.lookup x=some c->c≠X.env.locals:=fun x c e z=>by
 obtain⟨v,o,ho,hd⟩:=I.cell x c e;obtain⟨m,⟨o',es,ep,ho',hd',_⟩,_⟩:=I.loc;rw[z,ho'] at ho;cases ho;rw[hd'] at hd;cases hd
theorem Inv.jO(I:Inv X pins σ H s):s.heap.FunFrames X.base X.outer:=by
 have all:∀(l:List Env),(∀ b∈xo l,b∈X.fs)->X.s₀.heap.FunFrames X.base l->s.heap.FunFrames X.base l:=by
  intro l
  induction l with
  |nil=>intro _ _;trivial
  |cons env r ih =>
   intro hs hl;obtain⟨hk,⟨L,o,hf,hn,ho,hd⟩,hr⟩:=hl;have hL:L∈X.fs:=hs L (by unfold xo;rw[O3,hf];exact K_)
   obtain⟨sl,e⟩:=I.base.slot L o ho (I.ok.Fh L hL) hL fun z=>I.ok.BJ L z hL;exact⟨hk,⟨L,_,hf,hn,e,hd⟩,ih (fun b hb=>hs b (by unfold xo;rw[O3,hf];exact KZ _ hb)) hr⟩
 exact all X.outer (fun _ hb=>hb) I.ok.jO
theorem Inv.stack(I:Inv X pins σ H s):s.heap.FunFrames X.base X.stack:=by
 rcases I.ok.Iw with e|⟨e,hf⟩
 ·rw[e];exact I.jO
 ·rw[e];obtain⟨m,hn,_⟩:=I.loc;refine .cons (by rw[I.ok.kind];decide) hf hn ?_ I.jO
  exact Heap.get?_none_of_le (Lk I.ok.An I.ok.above)
theorem Inv.lM(I:Inv X pins σ H s):∀ b∈xo X.stack,b∈X.env.locals::X.fs:=fun b hb=>by
 rcases I.ok.Iw with e|⟨e,hf⟩
 ·rw[e] at hb;exact KZ _ hb
 ·rw[e] at hb;unfold xo at hb;rw[O3,hf] at hb;exact hb
theorem Inv.mI(I:Inv X pins σ H s):∀ b∈xo X.stack,H b=none:=fun b hb=>by
 rcases Le.mp (I.lM b hb) with e|hb
 ·rw[e];exact I.free
 ·obtain⟨_,o,ho,_⟩:=I.ok.jO.mem hb;exact I.base.free b o ho (I.ok.Fh b hb) fun z=>I.ok.BJ b z hb
theorem Inv.step{t':Nat}{d':Drawn}(I:Inv X pins σ H s)
  (hch:∀ b∈ch,(b∈X.ex\/X.s₀.heap.objs.size<=b)/\b≠X.env.locals/\(∀ x c,X.env.cells.lookup x=some c->c≠b)/\∀ p∈X.pn++pins,p.1≠b)
  (keep:∀ b o,b≠X.env.locals->b∉X.fs->b∉ch->s.heap.get? b=some o->H b=none->h'.get? b=some o)
  (slot:∀ b o,b≠X.env.locals->b∈X.fs->b∉ch->s.heap.get? b=some o->H b=none->∃ sl,h'.get? b=some {o with slots:=sl}) (free:∀ b o,b∉ch->s.heap.get? b=some o->H b=none->H' b=none)
  (there:∀ b o,b∉ch->s.heap.get? b=some o->∃ o',h'.get? b=some o')
  (my:∀ b xs,H b=some (.tup xs)->H' b=some (.tup xs)) (kj:∀ b o u,H b=some (.gK o u)->H' b=some (.gK o u)) (jg:∀ b ps,H b=some (.vD ps)->∃ more,H' b=some (.vD (ps++more)))
  (ns:∀ m,s.heap.Ns X.env.locals m->h'.Ns X.env.locals m) (aJ:ij X.prog X.w H' h') (hg:AllBare g') :
  Inv X pins σ H' {s with heap:=h',gens:=g',drawn:=d',toks:=t'}:=by
 have neL:∀ b o,X.s₀.heap.get? b=some o->b≠X.env.locals:=fun b o e=>Ly (Lv (Lm e) I.ok.above);have neC:∀ b o,X.s₀.heap.get? b=some o->b∉X.ex->b∉ch:=fun b o e hx hb=>by
  rcases (hch b hb).1 with z|z
  ·exact hx z
  ·exact absurd (Lv (Lm e) z) (MC _)
 have cellK:∀ x c,X.env.cells.lookup x=some c->∀ v,s.heap.IsCell c v->h'.IsCell c v:=fun x c e v ⟨o,ho,hd⟩=>by
  have nch:c∉ch:=fun z=>(hch c z).2.2.1 x c e rfl;by_cases hc:c∈X.fs
  ·obtain⟨sl,q⟩:=slot c o (I.Dc x c e) hc nch ho (I.dM x c e);exact⟨_,q,hd⟩
  ·exact⟨o,keep c o (I.Dc x c e) hc nch ho (I.dM x c e),hd⟩
 refine⟨I.ok,I.os,hg,⟨fun b o e n hb hx=>?_,fun b o e n hb hx=>?_,fun b o e n hx=>?_,fun b o e hx=>?_,fun b xs e=>my b xs (I.base.my b xs e),fun b o xs e=>kj b o xs (I.base.kj b o xs e),fun b ps e=>?_⟩,?_,fun x c e=>?_,?_,fun x c e=>?_,fun p hp=>?_,aJ,I.len⟩
 ·exact keep b o (neL b o e) hb (neC b o e hx) (I.base.keep b o e n hb hx) (I.base.free b o e n hx)
 ·obtain⟨sl,e1⟩:=I.base.slot b o e n hb hx;obtain⟨sl',e2⟩:=slot b _ (neL b o e) hb (neC b o e hx) e1 (I.base.free b o e n hx);exact⟨sl',e2⟩
 ·obtain⟨o',e1⟩:=I.base.there b o e hx;exact free b o' (neC b o e hx) e1 (I.base.free b o e n hx)
 ·obtain⟨o',e1⟩:=I.base.there b o e hx;exact there b o' (neC b o e hx) e1
 ·obtain⟨m1,e1⟩:=I.base.jg b ps e;obtain⟨m2,e2⟩:=jg b _ e1;exact⟨m1++m2,by rw[e2,Array.append_assoc]⟩
 ·obtain⟨m,hn,hl⟩:=I.loc;refine⟨m,ns m hn,fun i x v e1 e2 e3=>?_⟩;obtain⟨u,r,l⟩:=hl i x v e1 e2 e3;refine⟨u,r,?_⟩;rcases l with l|⟨k,c,e,z⟩
  ·exact .inl l
  ·exact .inr ⟨k,c,e,cellK x c e _ z⟩
 ·obtain⟨v,z⟩:=I.cell x c e;exact⟨v,cellK x c e v z⟩
 ·obtain⟨m,⟨o,_,_,ho,_⟩,_⟩:=I.loc;exact free _ o (fun z=>(hch _ z).2.1 rfl) ho I.free
 ·obtain⟨v,o,ho,hd⟩:=I.cell x c e;exact free c o (fun z=>(hch c z).2.2.1 x c e rfl) ho (I.dM x c e)
 ·obtain⟨e,n,ne,nf,d⟩:=I.pin p hp;have nch:p.1∉ch:=fun z=>(hch p.1 z).2.2.2 p hp rfl;exact⟨keep p.1 p.2 ne nf nch e n,free p.1 p.2 nch e n,ne,nf,d⟩
theorem Inv.un{t':Nat}(I:Inv X pins σ H s)(u:Un X.fs [] H H' s.heap h')(aJ:ij X.prog X.w H' h'):Inv X pins σ H' {s with heap:=h',toks:=t'}:=by
 obtain⟨m,⟨o,es,ep,ho,r⟩,_⟩:=id I.loc;obtain⟨sl,hL⟩:=u.any ho I.free (by simp)
 exact I.step (g':=s.gens) (d':=s.drawn) (ch:=[]) (fun _ z=>nomatch z) (fun b o _ hb _ e n=>u.keep b o e n hb (by simp)) (fun b o _ hb _ e n=>u.slot b o e n hb (by simp)) (fun b o _ e n=>u.free b o e n (by simp)) (fun b o _ e=>u.there b o e (by simp)) u.my u.kj u.jg (fun m' hm=>by
  obtain⟨o',es',ep',ho',r'⟩:=hm;rw[ho] at ho';cases ho';exact⟨_,es',ep',hL,r'⟩) aJ I.bare
theorem Inv.call{t':Nat}{d':Drawn}{ch:List Addr}(I:Inv X pins σ H s)(u:Un (xo X.stack) ch H H' s.heap h')(aJ:ij X.prog X.w H' h')(hg:AllBare g')
  (hch:∀ b∈ch,(b∈X.ex\/X.s₀.heap.objs.size<=b)/\b≠X.env.locals/\(∀ x c,X.env.cells.lookup x=some c->c≠b)/\∀ p∈X.pn++pins,p.1≠b) :
  Inv X pins σ H' {s with heap:=h',gens:=g',drawn:=d',toks:=t'}:=by
 obtain⟨m,⟨o,es,ep,ho,r⟩,_⟩:=id I.loc;obtain⟨sl,hL⟩:=u.any ho I.free fun z=>(hch _ z).2.1 rfl;exact I.step (ch:=ch) hch (fun b o hL hb hc e n=>u.keep b o e n (fun z=>(Le.mp (I.lM b z)).elim hL hb) hc) (fun b o _ _ hc e n=>u.any e n hc) (fun b o hc e n=>u.free b o e n hc) (fun b o hc e=>u.there b o e hc) u.my u.kj u.jg (fun m' hm=>by
  obtain⟨o',es',ep',ho',r'⟩:=hm;rw[ho] at ho';cases ho';exact⟨_,es',ep',hL,r'⟩) aJ hg
theorem Inv.turned{t':Nat}{it:Addr}(I:Inv X pins σ H s)(k:∀ b o,b≠it->s.heap.get? b=some o->h'.get? b=some o)(hn:H it=none)(hL:it≠X.env.locals)
  (h1:it∈X.ex\/X.s₀.heap.objs.size<=it) (h2:∀ x c,X.env.cells.lookup x=some c->c≠it) (h3:∀ p∈X.pn++pins,p.1≠it):Inv X pins σ H {s with heap:=h',toks:=t'}:=by
 have nit:∀ b u,H b=some u->b≠it:=fun b u e z=>by rw[z,hn] at e;cases e
 refine I.step (g':=s.gens) (d':=s.drawn) (ch:=[it]) (fun b hb=>?_) (fun b o _ _ hc e _=>k b o (fun z=>hc (by simp[z])) e) (fun b o _ _ hc e _=>⟨o.slots,k b o (fun z=>hc (by simp[z])) e⟩) (fun _ _ _ _ n=>n)
  (fun b o hc e=>⟨o,k b o (fun z=>hc (by simp[z])) e⟩) (fun _ _ e=>e) (fun _ _ _ e=>e) (fun b ps e=>⟨#[],by rw[e];simp⟩) (fun m hm=>?_) (fun b u e=>?_) I.bare
 ·have e:b=it:=by simpa using hb
  subst e;exact⟨h1,hL,h2,h3⟩
 ·obtain⟨o,es,ep,ho,r⟩:=hm;exact⟨o,es,ep,k _ o (Ne.symm hL) ho,r⟩
 ·refine (I.aJ b u e).jY (fun c v hc q=>k c v ?_ q) (fun _ q=>q) (fun _ _ q=>q) fun _ _ _ q=>q;rcases hc with z|z
  ·rw[z];exact nit b u e
  ·exact nit c _ z
theorem Inv.tok(I:Inv X pins σ H s)(t:Nat):Inv X pins σ H {s with toks:=t}:=I.un (h':=s.heap) (t':=t) Un.refl I.aJ
theorem Inv.kept{t':Nat}(I:Inv X pins σ H s)(k:∀ b u,s.heap.get? b=some u->h'.get? b=some u):Inv X pins σ H {s with heap:=h',toks:=t'}:=I.un (Un.kept k) (I.aJ.kept k)
theorem Inv.laid{o:HO}{t':Nat}(I:Inv X pins σ H s)(k:∀ b u,s.heap.get? b=some u->h'.get? b=some u)(hp:s.heap.objs.size<=a)(new:aP X.prog X.w (upd H a o) h' a o):
  Inv X pins σ (upd H a o) {s with heap:=h',toks:=t'}:=I.un (Un.laid k hp (I.aJ.fresh hp)) (I.aJ.laid k hp new)
theorem Inv.write{x e:Addr}{o:HO}{t':Nat}(I:Inv X pins σ H s)(mu:Ic (H x))(he:e=x\/H e=some (.own x))(k:∀ b u,b≠e->s.heap.get? b=some u->h'.get? b=some u)(heo:∃ u,h'.get? e=some u)
  (new:aP X.prog X.w (upd H x o) h' x o):Inv X pins σ (upd H x o) {s with heap:=h',toks:=t'}:=I.un (Un.write mu he k heo) (I.aJ.write mu he k heo new)
theorem Inv.mh{pins':List (Addr×Obj)}(I:Inv X pins σ H s)(h:∀ p∈pins',s.heap.get? p.1=some p.2/\H p.1=none/\p.1≠X.env.locals/\p.1∉X.fs/\∀ v,p.2.data≠.cell v):Inv X pins' σ H s:=
 ⟨I.ok,I.os,I.bare,I.base,I.loc,I.cell,I.free,I.dM,fun p hp=>(LY.mp hp).elim (fun z=>I.pin p (M5 _ z)) (h p),I.aJ,I.len⟩
theorem oa(hN:N.Nodup)(a:N[i]?=some x)(b:N[j]?=some x):i=j:=by
 obtain⟨h1,e1⟩:=Ll.mp a;obtain⟨h2,e2⟩:=Ll.mp b;exact (List.getElem_inj hN).mp (e1.trans e2.symm)
theorem lA{A:Around}{v:V}{Q:Unit->Shared->Prop}(I:Inv X pins σ H s)(hN:X.N.Nodup)(hi:X.N[i]?=some x)(hx:Loc X.env.scope x)(r:RelV v u)
  (h:∀ s',Inv X pins (σ.set i (some v)) H s'->(∃ a,Heap.SameBut a s.heap s'.heap/\(a=X.env.locals\/X.env.cells.lookup x=some a))->Q () s') (hf:autoParam (X.fn x=true\/X.env.scope.names.lookup x=some .local) ℜ2):wpAny M A (storeName X.env x u) Q E s:=by
 obtain⟨m,hn,hl⟩:=id I.loc;have hcls:(X.env.scope.kind == .class || (X.env.scope.kind == .module && X.env.locals != X.env.globals))=false:=by rw[I.ok.kind];rfl
 have hiσ:i<σ.length:=by rw[I.len];exact (Ll.mp hi).1
 have Dc:=I.Dc;have tracked:∀{a:Addr} {h':Heap},(∃ o,s.heap.get? a=some o/\H a=none)->Heap.SameBut a s.heap h'->ij X.prog X.w H h':=fun {a h'} ha hs b ob e=>by
  obtain⟨_,_,hfree⟩:=ha;refine (I.aJ b ob e).jY (fun c w' hc q=>(hs.2 c ?_).trans q) (fun _ q=>q) (fun _ _ q=>q) fun _ _ _ q=>q;rintro rfl;rcases hc with rfl|hc
  ·rw[hfree] at e;cases e
  ·rw[hfree] at hc;cases hc
 rcases hx with hk|hk
 ·refine wpAny_storeName_local hk hn (fun h' hn' hs=>?_) hcls;obtain⟨oL,_,_,hoL,_⟩:=id hn;refine h _ ⟨I.ok,I.os,I.bare,⟨fun b o e n hb hx=>?_,fun b o e n hb hx=>?_,I.base.free,fun b o e hx=>?_,I.base.my,I.base.kj,I.base.jg⟩,⟨_,hn',fun j y v' e1 e2 e3=>?_⟩,fun y c e=>?_,I.free,I.dM,fun p hp=>?_,tracked ⟨oL,hoL,I.free⟩ hs,by simpa using I.len⟩ ⟨_,hs,.inl rfl⟩
  ·exact (hs.2 b (Ly (Lv (Lm e) I.ok.above))).trans (I.base.keep b o e n hb hx)
  ·obtain⟨sl,e1⟩:=I.base.slot b o e n hb hx;exact⟨sl,(hs.2 b (Ly (Lv (Lm e) I.ok.above))).trans e1⟩
  ·obtain⟨o',e1⟩:=I.base.there b o e hx;exact⟨o',(hs.2 b (Ly (Lv (Lm e) I.ok.above))).trans e1⟩
  ·by_cases hj:j=i
   ·subst hj;rw[hi] at e1;cases e1;rw[LK hiσ] at e2;cases e2;exact⟨u,r,.inl ⟨hk,by simp⟩⟩
   ·rw[LO (Ne.symm hj)] at e2;obtain⟨u',r',q⟩:=hl j y v' e1 e2 e3;refine⟨u',r',?_⟩;rcases q with ⟨k,e⟩|⟨k,c,e,z⟩
    ·refine .inl ⟨k,?_⟩;have:y≠x:=fun e=>hj (oa hN e1 (e ▸ hi));simp[this,e]
    ·exact .inr ⟨k,c,e,z.sameBut hs (Dc y c e)⟩
  ·obtain⟨w',z⟩:=I.cell y c e;exact⟨w',z.sameBut hs (Dc y c e)⟩
  ·obtain⟨e,n,ne,nf,d⟩:=I.pin p hp;exact⟨(hs.2 p.1 ne).trans e,n,ne,nf,d⟩
 ·have hfn:X.fn x=true:=by
   rcases hf with z|z
   ·exact z
   ·rw[z] at hk;cases hk
  obtain⟨c,hc⟩:=I.ok.has x (.inl hk);obtain⟨w',z⟩:=I.cell x c hc;refine wpAny_storeName_cell I.ok.kind hk hc z (fun h' hc' hs=>?_);obtain⟨oc,hoc,hocd⟩:=id z;refine h {s with heap:=h'} ⟨I.ok,I.os,I.bare,⟨fun b o e n hb hx=>?_,fun b o e n hb hx=>?_,I.base.free,fun b o e hx=>?_,I.base.my,I.base.kj,I.base.jg⟩,⟨m,hn.sameBut hs (Ne.symm (Dc x c hc)),fun j y v' e1 e2 e3=>?_⟩,fun y c' e=>?_,I.free,I.dM,fun p hp=>?_,tracked ⟨oc,hoc,I.dM x c hc⟩ hs,by simpa using I.len⟩ ⟨c,hs,.inr hc⟩
  ·exact (hs.2 b (Ly (Lv (Lm e) (I.ok.FP x c hfn hc)))).trans (I.base.keep b o e n hb hx)
  ·obtain⟨sl,e1⟩:=I.base.slot b o e n hb hx;exact⟨sl,(hs.2 b (Ly (Lv (Lm e) (I.ok.FP x c hfn hc)))).trans e1⟩
  ·obtain⟨o',e1⟩:=I.base.there b o e hx;exact⟨o',(hs.2 b (Ly (Lv (Lm e) (I.ok.FP x c hfn hc)))).trans e1⟩
  ·by_cases hj:j=i
   ·subst hj;rw[hi] at e1;cases e1;rw[LK hiσ] at e2;cases e2;exact⟨u,r,.inr ⟨.inl hk,c,hc,hc'⟩⟩
   ·rw[LO (Ne.symm hj)] at e2;obtain⟨u',r',q⟩:=hl j y v' e1 e2 e3;refine⟨u',r',?_⟩;rcases q with q|⟨k,c',e,z'⟩
    ·exact .inl q
    ·refine .inr ⟨k,c',e,z'.sameBut hs ?_⟩;rintro rfl;exact hj (oa hN e1 (I.ok.inj _ _ _ e hc ▸ hi))
  ·by_cases hcc:c'=c
   ·subst hcc;exact⟨_,hc'⟩
   ·obtain⟨w2,z2⟩:=I.cell y c' e;exact⟨w2,z2.sameBut hs hcc⟩
  ·obtain⟨e,n,ne,nf,d⟩:=I.pin p hp;refine⟨(hs.2 p.1 ?_).trans e,n,ne,nf,d⟩;intro q;rw[q,hoc] at e;have q':oc=p.2:=Option.some.inj e;exact d w' (by rw[<- q'];exact hocd)
theorem mY{A:Around}{v:V}{Q:Unit->Shared->Prop}(I:Inv X pins σ H s)(hN:X.N.Nodup)(hi:X.N[i]?=some x)(hx:Loc X.env.scope x)(r:RelV v u)
  (h:∀ s',Inv X pins (σ.set i (some v)) H s'->Q () s') (hf:autoParam (X.fn x=true\/X.env.scope.names.lookup x=some .local) ℜ2):wpAny M A (storeName X.env x u) Q E s:=
 lA I hN hi hx r (fun s' I' _=>h s' I') hf
theorem Inv.GB(I:Inv X pins σ H s)(ho:s'.os=s.os)(u:Un (xo X.stack) ch H H' s.heap s'.heap)(aJ:ij X.prog X.w H' s'.heap)(hg:AllBare s'.gens)
  (hch:∀ b∈ch,(b∈X.ex\/X.s₀.heap.objs.size<=b)/\b≠X.env.locals/\(∀ x c,X.env.cells.lookup x=some c->c≠b)/\∀ p∈X.pn++pins,p.1≠b):Inv X pins σ H' s':=by
 obtain⟨h',g',d',t',o'⟩:=s';have e:o'=s.os:=ho;subst e;exact I.call (g':=g') (t':=t') (d':=d') u aJ hg hch
end
abbrev XK:=Value->Option Addr->Hp->Prop
abbrev St:=List (Option V)
variable{σ:St}
abbrev VK:=V->Hp->Prop
abbrev TE:=St->Hp->VK->Prop
abbrev TT:=St->Hp->(Bool->Hp->Prop)->Prop
abbrev TA:=St->Hp->(List V->Hp->Prop)->Prop
structure Ends where
 nx:St->Hp->Prop
 rt:VK
 bk:St->Hp->Prop:=fun _ _=>False
 ct:St->Hp->Prop:=fun _ _=>False
abbrev TS:=Ends->St->Hp->Prop
noncomputable def EP(X:Cx)(pins:List (Addr×Obj))(σ:St)(Q:VK)(u:Value)(s':Shared):Prop:=∃ v H',Inv X pins σ H' s'/\RelV v u/\Q v H'
noncomputable def TP(X:Cx)(pins:List (Addr×Obj))(σ:St)(Q:Bool->Hp->Prop)(b:Bool)(s':Shared):Prop:=∃ H',Inv X pins σ H' s'/\Q b H'
noncomputable def AP(X:Cx)(pins:List (Addr×Obj))(σ:St)(Q:List V->Hp->Prop)(us:List Value)(s':Shared):Prop:=∃ vs H',Inv X pins σ H' s'/\Vals vs us/\Q vs H'
noncomputable def SP(X:Cx)(pins:List (Addr×Obj))(D:Ends)(f:Flow)(s':Shared):Prop:=
 match f with
 |.next=>∃ σ' H',Inv X pins σ' H' s'/\D.nx σ' H'
 |.brk=>∃ σ' H',Inv X pins σ' H' s'/\D.bk σ' H'
 |.cont=>∃ σ' H',Inv X pins σ' H' s'/\D.ct σ' H'
 |.ret u=>∃ v σ' H',Inv X pins σ' H' s'/\RelV v u/\D.rt v H'
noncomputable def PE(X:Cx)(e:Expr)(t:TE):Prop:=
 ∀(pins:List (Addr×Obj)) (s:Shared) (σ:St) (H:Hp) (Q:VK),Inv X pins σ H s->t σ H Q->wpAny (model X.prog X.w) X.A (eval e X.env) (EP X pins σ Q) X.xe s
noncomputable def PT(X:Cx)(e:Expr)(t:TT):Prop:=
 ∀(pins:List (Addr×Obj)) (s:Shared) (σ:St) (H:Hp) (Q:Bool->Hp->Prop),Inv X pins σ H s->t σ H Q->wpAny (model X.prog X.w) X.A (isTrue e X.env (eval e X.env)) (TP X pins σ Q) X.xe s
noncomputable def PW(X:Cx)(e:Expr)(t:TT):Prop:=
 ∀(whole:Sem Value) (pins:List (Addr×Obj)) (s:Shared) (σ:St) (H:Hp) (Q:Bool->Hp->Prop),Inv X pins σ H s->t σ H Q->wpAny (model X.prog X.w) X.A (isTrue e X.env whole) (TP X pins σ Q) X.xe s
theorem PW.pt{t:TT}(h:PW X e t):PT X e t:=h _
noncomputable def PA(X:Cx)(es:List Expr)(t:TA):Prop:=
 ∀(pos:Pos) (pins:List (Addr×Obj)) (s:Shared) (σ:St) (H:Hp) (Q:List V->Hp->Prop),Inv X pins σ H s->t σ H Q->wpAny (model X.prog X.w) X.A (spliced (backTo pos (starEach es X.env))) (AP X pins σ Q) X.xe s
noncomputable def PS(X:Cx)(st:Stmt)(t:TS):Prop:=
 ∀(pins:List (Addr×Obj)) (s:Shared) (σ:St) (H:Hp) (D:Ends),Inv X pins σ H s->t D σ H->wpAny (model X.prog X.w) X.A (exec st X.env) (SP X pins D) X.xe s
noncomputable def u5(X:Cx)(st:List Stmt)(t:TS):Prop:=
 ∀(pins:List (Addr×Obj)) (s:Shared) (σ:St) (H:Hp) (D:Ends),Inv X pins σ H s->t D σ H->wpAny (model X.prog X.w) X.A (execs st X.env) (SP X pins D) X.xe s
theorem bu{α:Type}{t:Sem α}{Q Q':α->Shared->Prop}{A:Around}(h:wpAny M A t Q E s)(hQ:∀ a s,Q a s->Q' a s):wpAny M A t Q' E s:=Me h hQ fun _ _ x=>x
section
variable {X:Cx}
noncomputable def E9(i:Nat):TE:=fun σ H Q=>∃ v,σ[i]?=some (some v)/\Q v H
noncomputable def tC(v:V):TE:=fun _ H Q=>Q v H
theorem Dj{pos:Pos}(hN:X.N[i]?=some x)(hv:Es X.env.scope x)(hd:autoParam ((x ==("__debug__":Str))=false) ℜ1)(gJ:autoParam ((x ==("__classdict__":Str))=false) ℜ1):PE X (.Name x pos) (E9 i):=by
 intro pins s σ H Q I h;obtain⟨v,e,h⟩:=h;obtain⟨m,hn,hl⟩:=I.loc;obtain⟨u,r,l⟩:=hl i x v hN e hv;have fin:EP X pins σ Q u s:=⟨v,H,I,r,h⟩;rcases l with ⟨hk,hm⟩|⟨hk,c,hc,hcell⟩
 ·exact wpAny_Name (wpAny_loadName_local I.ok.kind hk hn hm fin) hd
 ·rcases hk with hk|hk
  ·exact wpAny_Name (wpAny_loadName_cell I.ok.kind hk hc hcell fin) hd
  ·exact wpAny_Name (wpAny_loadName_free I.ok.kind hk hc hcell fin gJ) hd
theorem wD{i j pos}:PE X (.Constant (.int i) j pos) (tC (.int i)):=fun _ _ _ H _ I h=>wpAny_Constant_int ⟨.int i,H,I.tok _,⟨_,rfl⟩,h⟩
theorem Cp{b j pos}:PE X (.Constant (.bool b) j pos) (tC (.bl b)):=fun _ _ _ H _ I h=>Constant_bool ⟨.bl b,H,I,rfl,h⟩
theorem vF{j pos}:PE X (.Constant .none j pos) (tC .aC):=fun _ _ _ H _ I h=>Constant_none ⟨.aC,H,I,rfl,h⟩
theorem wa{x j pos}:PE X (.Constant (.str x) j pos) (tC (.str x)):=fun _ _ _ H _ I h=>Calls.Constant_str ⟨.str x,H,I.tok _,⟨_,rfl⟩,h⟩
noncomputable def Gl(X:Cx)(x:Str):Prop:=X.env.kindOf x=some .globalImplicit
theorem lZ{pos:Pos}(I:Inv X pins σ H s)(hg:Gl X x)(hm:X.mg x=some u)(h:Q u s)
  (hd:autoParam ((x ==("__debug__":Str))=false) ℜ1):wpAny (model X.prog X.w) X.A (eval (.Name x pos) X.env) Q E s:=
 OL I.ok.kind hg (Calls.loadGlobal_global (by rw[I.ok.glob];exact I.mod.glob.keeps I.bk) hm h) hd
theorem eM{pos:Pos}(I:Inv X pins σ H s)(hg:Gl X x)(hm:X.mg x=none)(hv:bootBuiltins x=some u)(h:Q u s)
  (hn:autoParam (x≠"__name__") ℜ1) (hd:autoParam ((x ==("__debug__":Str))=false) ℜ1):wpAny (model X.prog X.w) X.A (eval (.Name x pos) X.env) Q E s:=by
 obtain⟨mb,h1,h2⟩:=I.mod.blt;exact OL I.ok.kind hg (Calls.loadGlobal_builtin (by rw[I.ok.glob];exact I.mod.glob.keeps I.bk) hm (by rw[I.ok.blt];exact h1.keeps I.bk) ((h2 x hn).trans hv) h) hd
theorem mK{v:V}{pos:Pos}(hg:Gl X x)(hm:X.mg x=some u)(r:RelV v u)(hd:autoParam ((x ==("__debug__":Str))=false) ℜ1):PE X (.Name x pos) (tC v):=
 fun _ _ _ H _ I h=>lZ I hg hm ⟨v,H,I,r,h⟩ hd
theorem zJ{v:V}{pos:Pos}(hg:Gl X x)(hm:X.mg x=none)(hv:bootBuiltins x=some u)(r:RelV v u)(hn:autoParam (x≠"__name__") ℜ1)(hd:autoParam ((x ==("__debug__":Str))=false) ℜ1):PE X (.Name x pos) (tC v):=
 fun _ _ _ H _ I h=>eM I hg hm hv ⟨v,H,I,r,h⟩ hn hd
noncomputable def K8(ta tb:TE)(k:Int->Int->Hp->Prop):St->Hp->Prop:=fun σ H=>ta σ H fun x H1=>tb σ H1 fun y H2=>∃ i j,x=.int i/\y=.int j/\k i j H2
variable {a b:Expr} {ta tb:TE} {pos:Pos}
noncomputable def HP(p:Int->Int->Bool)(ta tb:TE):TE:=fun σ H Q=>K8 ta tb (fun i j H2=>Q (.bl (p i j)) H2) σ H
abbrev HQ:TE->TE->TE:=HP fun i j=>decide (i=j)
abbrev GP:TE->TE->TE:=HP fun i j=>!decide (i=j)
noncomputable def oH(ta:TE):TE:=fun σ H Q=>ta σ H fun x H1=>Q (.bl (decide (x=.aC))) H1
variable {tA tB':TT} {rest:List Expr}
noncomputable def Dz(t u:TT):TT:=fun σ H Q=>t σ H fun c H1=>if c=true then u σ H1 Q else Q false H1
noncomputable def Jx(t u:TT):TT:=fun σ H Q=>t σ H fun c H1=>if c=true then Q true H1 else u σ H1 Q
noncomputable def FF(t:TT):TT:=fun σ H Q=>t σ H fun c H1=>Q (!c) H1
theorem Aj(ha:PT X a tA):PW X (.BoolOp .And [a] pos) tA:=by
 intro wh pins s σ H Q I h;refine isTrue_and (bu (ha pins s σ H Q I h) fun c s1 e=>?_)
 cases c with
 |true=>exact isTrue_and_nil e
 |false=>exact e
theorem EZ(ha:PT X a tA):PW X (.BoolOp .Or [a] pos) tA:=by
 intro wh pins s σ H Q I h;refine isTrue_or (bu (ha pins s σ H Q I h) fun c s1 e=>?_)
 cases c with
 |false=>exact isTrue_or_nil e
 |true=>exact e
theorem EH(ha:PT X a tA)(hb:PW X (.BoolOp .And (b::rest) pos) tB'):PW X (.BoolOp .And (a::b::rest) pos) (Dz tA tB'):=by
 intro wh pins s σ H Q I h;refine isTrue_and (bu (ha pins s σ H _ I h) fun c s1 ⟨H1,I1,q1⟩=>?_)
 cases c with
 |true=>exact hb wh pins s1 σ H1 Q I1 q1
 |false=>exact⟨H1,I1,q1⟩
theorem Ht(ha:PT X a tA)(hb:PW X (.BoolOp .Or (b::rest) pos) tB'):PW X (.BoolOp .Or (a::b::rest) pos) (Jx tA tB'):=by
 intro wh pins s σ H Q I h;refine isTrue_or (bu (ha pins s σ H _ I h) fun c s1 ⟨H1,I1,q1⟩=>?_)
 cases c with
 |true=>exact⟨H1,I1,q1⟩
 |false=>exact hb wh pins s1 σ H1 Q I1 q1
theorem Dx(ha:PT X a tA):PT X (.UnaryOp .Not a pos) (FF tA):=by
 intro pins s σ H Q I h;exact isTrue_not (ha pins s σ H (fun c H1=>Q (!c) H1) I h)
noncomputable def Cf(ta tb:TE):TE:=fun σ H Q=>ta σ H fun x H1=>∃ c,x=.bl c/\if c=true then tb σ H1 Q else Q (.bl false) H1
noncomputable def CD(ta:TE):TE:=fun σ H Q=>ta σ H fun x H1=>∃ c,x=.bl c/\Q (.bl (!c)) H1
theorem Dq{op}{t:TE}(h:PE X a t):PE X (.BoolOp op [a] pos) t:=fun pins s σ H Q I hw=>BoolOp_one (h pins s σ H Q I hw)
theorem EN(ha:PE X a ta)(hb:PE X (.BoolOp .And (b::rest) pos) tb):PE X (.BoolOp .And (a::b::rest) pos) (Cf ta tb):=by
 intro pins s σ H Q I h;refine BoolOp_and (bu (ha pins s σ H _ I h) fun v s1 ⟨x,H1,I1,r1,q1⟩=>?_);obtain⟨c,rfl,q1⟩:=q1;cases r1;refine MO ?_
 cases c with
 |true=>exact hb pins s1 σ H1 Q I1 q1
 |false=>exact⟨.bl false,H1,I1,rfl,q1⟩
theorem Dg(ha:PE X a ta):PE X (.UnaryOp .Not a pos) (CD ta):=by
 intro pins s σ H Q I h;refine UnaryOp_ (bu (ha pins s σ H _ I h) fun v s1 ⟨x,H1,I1,r1,q1⟩=>?_);obtain⟨c,rfl,q1⟩:=q1;cases r1;exact not_of (MO ⟨.bl (!c),H1,I1,rfl,q1⟩)
noncomputable def Ko(t:TT)(ta tb:TE):TE:=fun σ H Q=>t σ H fun c H1=>if c=true then ta σ H1 Q else tb σ H1 Q
theorem yZ(hc:PT X c tA)(ha:PE X a ta)(hb:PE X b tb):PE X (.IfExp c a b pos) (Ko tA ta tb):=by
 intro pins s σ H Q I h;refine wpAny_IfExp (bu (hc pins s σ H _ I h) fun d s1 ⟨H1,I1,q1⟩=>?_)
 cases d with
 |true=>exact ha pins s1 σ H1 Q I1 q1
 |false=>exact hb pins s1 σ H1 Q I1 q1
end
noncomputable def bH(K:Qf)(H:Hp)(a:Addr)(xs:List V):Prop:=
 Rd H a (.lst xs) \/
  ∃(o:Obj) (its:Array Value) (n:Nat),K.lookup a=some o/\o.cls=.type "list"/\o.dict=none/\o.data=.seq its n/\its.size<=sizeLine/\Vals xs its.toList
noncomputable def bL(K:Qf)(H:Hp)(a:Addr)(xs:List V):Prop:=
 Rd H a (.tup xs) \/
  ∃(o:Obj) (its:Array Value) (n:Nat),K.lookup a=some o/\o.cls=.type "tuple"/\o.data=.seq its n/\its.size<=sizeLine/\Vals xs its.toList
noncomputable def JD:Value->Option V
 |.none=>some .aC
 |.bool b=>some (.bl b)
 |.int i _=>some (.int i)
 |.str x _=>some (.str x)
 |.bytes b _=>some (.uq b)
 |.float b _=>some (.Fu b)
 |.ref a=>some (.ref a)
 |.type n=>some (.ty n)
 |_=>none
theorem RelV.abs{x:V}(r:RelV x u):JD u=some x:=by
 cases x with
 |aC=>cases r;rfl
 |bl _=>cases r;rfl
 |int _=>obtain⟨t,rfl⟩:=r;rfl
 |str _=>obtain⟨t,rfl⟩:=r;rfl
 |uq _=>obtain⟨t,rfl⟩:=r;rfl
 |Fu _=>obtain⟨t,rfl⟩:=r;rfl
 |ref _=>cases r;rfl
 |ty _=>cases r;rfl
theorem RelV.inj{x y:V}(r:RelV x u)(q:RelV y u):x=y:=Option.some.inj (r.abs.symm.trans q.abs)
theorem Vals.inj:∀{xs ys:List V} {us:List Value},Vals xs us->Vals ys us->xs=ys
 |_,_,_,.nil,.nil=>rfl
 |_,_,_,.cons r t,.cons r' t'=>by rw[r.inj r',Vals.inj t t']
section
variable {X:Cx} {pins:List (Addr×Obj)} {σ:St} {H:Hp} {s:Shared} {a:Addr} {xs ys:List V}
theorem bH.of(h:H a=some (.lst xs)):bH K H a xs:=.inl (.inl h)
theorem bL.of(h:H a=some (.tup xs)):bL K H a xs:=.inl (.inl h)
theorem Inv.list(I:Inv X pins σ H s)(h:bH X.K H a xs):∃ its:List Value,Vals xs its/\PlainL s.heap a its.toArray/\xs.length<=sizeLine:=by
 rcases h with h|⟨o,its,n,hk,hc,hd,hs,hz,r⟩
 ·obtain⟨z,its,n,r,e⟩:=h.ok I.aJ;exact⟨its,r,⟨_,n,e,rfl,rfl,rfl⟩,z⟩
 ·refine⟨its.toList,r,⟨o,n,I.ki a o hk,hc,hd,by simpa using hs⟩,?_⟩
  have e:=r.length;simp only[LJ] at e;lia
theorem Inv.tuple(I:Inv X pins σ H s)(h:bL X.K H a xs):∃ its:List Value,Vals xs its/\IsTup s.heap a its.toArray/\xs.length<=sizeLine:=by
 rcases h with h|⟨o,its,n,hk,hc,hs,hz,r⟩
 ·obtain⟨z,its,r,p⟩:=h.ok I.aJ;exact⟨its,r,p.to,z⟩
 ·refine⟨its.toList,r,⟨o,I.ki a o hk,hc,n,by simpa using hs⟩,?_⟩
  have e:=r.length;simp only[LJ] at e;lia
theorem Inv.jz(I:Inv X pins σ H s)(h:bH X.K H a xs)(h':bH X.K H a ys):xs=ys:=by
 obtain⟨its,r,⟨o,n,e,_,_,d⟩,_⟩:=I.list h;obtain⟨its',r',⟨o',n',e',_,_,d'⟩,_⟩:=I.list h';rw[e] at e';cases e';rw[d] at d'
 injection d' with d1 _
 have:its=its':=by simpa using L0 Array.toList d1
 subst this;exact r.inj r'
theorem Inv.iu(I:Inv X pins σ H s)(h:bL X.K H a xs)(h':bL X.K H a ys):xs=ys:=by
 obtain⟨its,r,⟨o,e,_,n,d⟩,_⟩:=I.tuple h;obtain⟨its',r',⟨o',e',_,n',d'⟩,_⟩:=I.tuple h';rw[e] at e';cases e';rw[d] at d'
 injection d' with d1 _
 have:its=its':=by simpa using L0 Array.toList d1
 subst this;exact r.inj r'
end
abbrev Cx.jZ(X:Cx)(E:Value->Shared->Prop):Cx:={X with xe:=E}
abbrev Cx.Dr(X:Cx):Cx:=X.jZ fun _ _=>False
theorem Cx.Ok.jZ(ok:X.Ok)(E:Value->Shared->Prop):(X.jZ E).Ok:=
 ⟨ok.mod,ok.kind,ok.glob,ok.blt,ok.above,ok.inj,ok.has,ok.FP,ok.hd,ok.frames,ok.Iw,ok.Kx,ok.bs,ok.An,ok.yc,ok.BJ,ok.jO,ok.Fh,ok.tabs⟩
theorem Cx.Ok.fD(ok:(X.jZ E).Ok):X.Ok:=
 ⟨ok.mod,ok.kind,ok.glob,ok.blt,ok.above,ok.inj,ok.has,ok.FP,ok.hd,ok.frames,ok.Iw,ok.Kx,ok.bs,ok.An,ok.yc,ok.BJ,ok.jO,ok.Fh,ok.tabs⟩
section
variable {X:Cx} {pins:List (Addr×Obj)} {σ:St} {H:Hp} {s:Shared} {E:Value->Shared->Prop}
theorem Inv.jZ(I:Inv X pins σ H s)(E:Value->Shared->Prop):Inv (X.jZ E) pins σ H s:=⟨I.ok.jZ E,I.os,I.bare,I.base,I.loc,I.cell,I.free,I.dM,I.pin,I.aJ,I.len⟩
theorem Inv.fD(I:Inv (X.jZ E) pins σ H s):Inv X pins σ H s:=⟨I.ok.fD,I.os,I.bare,I.base,I.loc,I.cell,I.free,I.dM,I.pin,I.aJ,I.len⟩
theorem SP.fD{D:Ends}{f:Flow}(h:SP (X.jZ E) pins D f s'):SP X pins D f s':=by
 cases f with
 |next=>obtain⟨σ',H',I,q⟩:=h;exact⟨σ',H',I.fD,q⟩
 |brk=>obtain⟨σ',H',I,q⟩:=h;exact⟨σ',H',I.fD,q⟩
 |cont=>obtain⟨σ',H',I,q⟩:=h;exact⟨σ',H',I.fD,q⟩
 |ret u=>obtain⟨v,σ',H',I,r,q⟩:=h;exact⟨v,σ',H',I.fD,r,q⟩
theorem u5.Dr{st:List Stmt}{t:TS}(h:u5 X.Dr st t):u5 X st t:=fun pins s σ H D I hw =>
 Me (h pins s σ H D (I.jZ _) hw) (fun _ _ q=>q.fD) fun _ _ z=>False.elim z
end
section
variable {X:Cx} {st:Stmt} {rest:List Stmt} {t u:TS} {e:Expr} {te:TE} {pos:Pos}
noncomputable def C1:TS:=fun D σ H=>D.nx σ H
noncomputable def HA(t u:TS):TS:=fun D σ H=>t {D with nx:=u D} σ H
theorem A8:u5 X [] C1:=fun _ _ σ H _ I h=>Oo ⟨σ,H,I,h⟩
theorem vV(h1:PS X st t)(h2:u5 X rest u):u5 X (st::rest) (HA t u):=by
 intro pins s σ H D I h;refine wpAny_execs_cons (bu (h1 pins s σ H {D with nx:=u D} I h) fun f s1 q=>?_)
 cases f with
 |next =>
  obtain⟨σ',H',I',q⟩:=q;exact h2 pins s1 σ' H' D I' q
 |ret v=>exact q
 |brk=>exact q
 |cont=>exact q
theorem Av(h1:PS X st t):u5 X [st] t:=by
 intro pins s σ H D I h;refine wpAny_execs_cons (bu (h1 pins s σ H D I h) fun f s1 q=>?_)
 cases f with
 |next=>exact Oo q
 |ret v=>exact q
 |brk=>exact q
 |cont=>exact q
theorem Inv.quiet(I:Inv X pins σ H s):interactive X.env=false:=by simp[interactive,I.ok.kind]
noncomputable def C4(te:TE):TS:=fun D σ H=>te σ H fun _ H1=>D.nx σ H1
theorem BE(he:PE X e te)(hs:autoParam (swapsWith e none pos.line X.env=pure false) ℜ0):PS X (.Expr e pos) (C4 te):=by
 intro pins s σ H D I h;exact wpAny_Expr_any (bu (he pins s σ H _ I h) fun v s1 ⟨x,H1,I1,r1,q1⟩=>⟨σ,H1,I1,q1⟩) I.quiet hs
noncomputable def GX(te:TE):TS:=fun D σ H=>te σ H D.rt
theorem Ew(he:PE X e te):PS X (.Return (some e) pos) (GX te):=by
 intro pins s σ H D I h;exact wpAny_Return_some (bu (he pins s σ H _ I h) fun v s1 ⟨x,H1,I1,r1,q1⟩=>⟨x,σ,H1,I1,r1,q1⟩)
noncomputable def G4(c:TT)(t u:TS):TS:=fun D σ H=>c σ H fun b H1=>if b=true then t D σ H1 else u D σ H1
theorem Ge{a b:List Stmt}{tc:TT}(hc:PT X c tc)(ha:u5 X a t)(hb:u5 X b u):PS X (.If c a b pos) (G4 tc t u):=by
 intro pins s σ H D I h;refine wpAny_If (bu (hc pins s σ H _ I h) fun d s1 ⟨H1,I1,q1⟩=>?_)
 cases d with
 |true=>exact ha pins s1 σ H1 D I1 q1
 |false=>exact hb pins s1 σ H1 D I1 q1
end
abbrev TG:=V->St->Hp->(St->Hp->Prop)->Prop
abbrev uG:=List V->St->Hp->(St->Hp->Prop)->Prop
noncomputable def PG(X:Cx)(target:Expr)(t:TG):Prop:=
 ∀(pins:List (Addr×Obj)) (s:Shared) (σ:St) (H:Hp) (v:V) (u:Value) (Q:St->Hp->Prop),Inv X pins σ H s->RelV v u->t v σ H Q ->
  wpAny (model X.prog X.w) X.A (assign target X.env u) (fun _ s'=>∃ σ' H',Inv X pins σ' H' s'/\Q σ' H') X.xe s
noncomputable def Fs(X:Cx)(ts:List Expr)(t:uG):Prop:=
 ∀(pins:List (Addr×Obj)) (s:Shared) (σ:St) (H:Hp) (vs:List V) (us:List Value) (Q:St->Hp->Prop),Inv X pins σ H s->Vals vs us->t vs σ H Q ->
  wpAny (model X.prog X.w) X.A (assignInOrder ((assignEach ts X.env).map (·.2)) us) (fun _ s'=>∃ σ' H',Inv X pins σ' H' s'/\Q σ' H') X.xe s
abbrev zx:=V->V->V->Hp->(Hp->Prop)->Prop
noncomputable def AH(X:Cx)(t:zx):Prop:=
 ∀(pins:List (Addr×Obj)) (s:Shared) (σ:St) (H:Hp) (o i v:V) (ov iv u:Value) (Q:Hp->Prop),Inv X pins σ H s->RelV o ov->RelV i iv->RelV v u->t o i v H Q ->
  wpAny (model X.prog X.w) X.A (setItem ov iv u) (fun _ s'=>∃ H',Inv X pins σ H' s'/\Q H') X.xe s
section
variable {X:Cx} {pos:Pos}
noncomputable def cV(i:Nat):TG:=fun v σ H Q=>Q (σ.set i (some v)) H
theorem Bn(hN:X.N.Nodup)(hi:X.N[i]?=some x)(hx:Loc X.env.scope x)(hf:autoParam (X.fn x=true\/X.env.scope.names.lookup x=some .local) ℜ2):PG X (.Name x pos) (cV i):=by
 intro pins s σ H v u Q I r h;exact wpAny_assign_Name (mY I hN hi hx r (fun s' I'=>⟨_,H,I',h⟩) hf)
noncomputable def zT:uG:=fun vs σ H Q=>vs=[]/\Q σ H
noncomputable def kn(t:TG)(u:uG):uG:=fun vs σ H Q=>∃ v r,vs=v::r/\t v σ H fun σ' H'=>u r σ' H' Q
theorem Au:Fs X [] zT:=by
 intro pins s σ H vs us Q I r h;obtain⟨e,h⟩:=h;subst e;cases r;exact assignInOrder_nil ⟨σ,H,I,h⟩
theorem x5{t:TG}{u:uG}(h1:PG X e t)(h2:Fs X es u)
  (hs:autoParam ((assignEach (e::es) X.env).map (·.2)=assign e X.env::(assignEach es X.env).map (·.2)) ℜ0):Fs X (e::es) (kn t u):=by
 intro pins s σ H vs us Q I r h;obtain⟨v,vr,e1,h⟩:=h;subst e1
 cases r with
 |cons r rr =>
  rw[hs];refine assignInOrder_cons (bu (h1 pins s σ H _ _ _ I r h) fun _ s1 ⟨σ1,H1,I1,q1⟩=>?_);exact h2 pins s1 σ1 H1 _ _ Q I1 rr q1
noncomputable def Be(K:Qf)(n:Nat)(t:uG):TG:=fun v σ H Q=>∃ a xs,v=.ref a/\bL K H a xs/\xs.length=n/\t xs σ H Q
theorem zh{t:uG}{n:Nat}(hc:X.calm=true)(h:Fs X es t)
  (hn:autoParam ((assignEach es X.env).length=n) ℜ0) (hst:autoParam ((assignEach es X.env).findIdx? (·.1)=none) ℜ0):PG X (.Tuple es k pos) (Be X.K n t):=by
 intro pins s σ H v u Q I r hw;obtain⟨a,xs,e1,hq,hl,hw⟩:=hw;subst e1;cases r;obtain⟨its,rv,ht,hz⟩:=I.tuple hq;refine assign_Tuple_tuple (I.ok.hd hc) ht (by simp[hn,<- hl,rv.length]) hst fun h' hx=>?_
 have I1:Inv X pins σ H {s with heap:=h'}:=I.kept (t':=s.toks) fun b o e=>hx b o (Ly (Lm e)) e
 exact h pins _ σ H xs _ Q I1 (by simpa using rv) hw
noncomputable def Di(to ti:TE)(t:zx):TG:=fun v σ H Q=>to σ H fun o H1=>ti σ H1 fun i H2=>t o i v H2 fun H3=>Q σ H3
theorem vv{o i:Expr}{to ti:TE}{t:zx}(ho:PE X o to)(hi:PE X i ti)(hs:AH X t)
  (ha:autoParam (∀ v,assign (.Subscript o i pos) X.env v=(do
   let ov <- holding [v] (eval o X.env)
   let iv <- holding [v,ov] (eval i X.env)
   standAt pos
   holding [v,ov,iv] (setItem ov iv v)
   release [v,ov,iv] [])) ℜ3):PG X (.Subscript o i pos) (Di to ti t):=by
 intro pins s σ H v u Q I r h;rw[ha];refine KU (LM (bu (ho pins s σ H _ I h) fun ov s1 ⟨x,H1,I1,r1,q1⟩=>?_));refine KU (LM (bu (hi pins s1 σ H1 _ I1 q1) fun iv s2 ⟨y,H2,I2,r2,q2⟩=>?_));refine KU (NZ (KU (LM (bu (hs pins s2 σ H2 x y v ov iv u _ I2 r1 r2 r q2) fun _ s3 ⟨H3,I3,q3⟩=>?_))));exact wpAny_release ⟨σ,H3,I3,q3⟩
noncomputable def pF(te:TE)(g:TG):TS:=fun D σ H=>te σ H fun x H1=>g x σ H1 D.nx
theorem E5{te:TE}{g:TG}(he:PE X e te)(hg:PG X tg g)(hs:autoParam (swapsWithSole [tg] e pos.line X.env=pure false) ℜ0)(hw:autoParam (swappedStores [tg] e X.env=pure none) ℜ0)
  (h1:autoParam ((assignEach [tg] X.env).map (·.2)=[assign tg X.env]) ℜ0):PS X (.Assign [tg] e pos) (pF te g):=by
 intro pins s σ H D I h;refine wpAny_Assign_stores (bu (he pins s σ H _ I h) fun v s1 ⟨x,H1,I1,r1,q1⟩=>?_) hs hw;rw[h1];exact bu (hg pins s1 σ H1 x v _ I1 r1 q1) fun _ s2 q=>q
theorem Eb{te:TE}{pos':Pos}(hN:X.N.Nodup)(hi:X.N[i]?=some x)(hx:Loc X.env.scope x)(he:PE X e te)(hs:autoParam (swapsWith e (some (.Name x pos')) pos.line X.env=pure false) ℜ0)(hf:autoParam (X.fn x=true\/X.env.scope.names.lookup x=some .local) ℜ2):
  PS X (.Assign [.Name x pos'] e pos) (pF te (cV i)):=by
 intro pins s σ H D I h;refine wpAny_Assign_Name (bu (he pins s σ H _ I h) fun v s1 ⟨y,H1,I1,r1,q1⟩=>?_) hs;exact mY I1 hN hi hx r1 (fun s2 I2=>⟨_,H1,I2,q1⟩) hf
end
section
variable {X:Cx} {pos:Pos}
noncomputable def xV(c:TT)(tb:TS):TS:=fun D σ H=>∃ W:Nat->St->Hp->Prop,(∃ m,W m σ H)/\∀ m σ H,W m σ H ->
 c σ H fun b H1=>if b=true then ∃ N:St->Hp->Prop,(∀ σ' H',N σ' H'->∃ m',m'<m/\W m' σ' H')/\tb {D with nx:=N,ct:=N,bk:=D.nx} σ H1 else D.nx σ H1
theorem zc{tc:TT}{tb:TS}(hp:PassesOwn (model X.prog X.w) X.A X.env X.xe)(hc:PT X c tc)(hb:u5 X body tb):PS X (.While c body [] pos) (xV tc tb):=by
 intro pins s σ H D I h;obtain⟨W,⟨m0,w0⟩,turn⟩:=h;refine wpAny_While (codeAny_whileLoop (fun n s'=>∃ σ' H',Inv X pins σ' H' s'/\W n σ' H') ?_ m0 ⟨σ,H,I,w0⟩);rintro n s1 ⟨σ1,H1,I1,w1⟩;refine MK hp (bu (hc pins s1 σ1 H1 _ I1 (turn n σ1 H1 w1)) fun b s2 ⟨H2,I2,q2⟩=>?_)
 cases b with
 |true =>
  obtain⟨N,hN,q2⟩:=q2;rw[Li rfl];refine MK hp (bu (hb pins s2 σ1 H2 _ I2 q2) fun f s3 q3=>?_)
  cases f with
  |next =>
   obtain⟨σ3,H3,I3,n3⟩:=q3;obtain⟨m',hm,w3⟩:=hN σ3 H3 n3;exact⟨m',hm,σ3,H3,I3,w3⟩
  |cont =>
   obtain⟨σ3,H3,I3,n3⟩:=q3;obtain⟨m',hm,w3⟩:=hN σ3 H3 n3;exact⟨m',hm,σ3,H3,I3,w3⟩
  |brk=>exact q3
  |ret v=>exact q3
 |false =>
  rw[Lc Lg];exact Oo ⟨σ1,H2,I2,q2⟩
end
structure It where
 go:Nat->Hp->Prop
 HD:Nat->Hp->V->Hp->Prop
 stop:Nat->Hp->Prop
noncomputable def j_(X:Cx)(pins:List (Addr×Obj))(H:Hp)(b:Addr):Prop:=
 H b=none/\b≠X.env.locals/\b∉X.fs/\(b∈X.ex\/X.s₀.heap.objs.size<=b)/\(∀ x c,X.env.cells.lookup x=some c->c≠b)/\∀ p∈X.pn++pins,p.1≠b
theorem Inv.uz{H':Hp}(I:Inv X pins σ H s)(hb:s.heap.objs.size<=b)(hn:H' b=none):j_ X pins H' b:=by
 refine⟨hn,M6 (Lv I.lt hb),I.GW hb,.inr (Lk I.sz hb),fun x c e z=>?_,fun p hp z=>?_⟩
 ·obtain⟨v,q⟩:=I.cell x c e;exact absurd (Lv q.lt (by rw[z];exact hb)) (MC _)
 ·exact absurd (Lv (Lm (I.pin p hp).1) (by rw[z];exact hb)) (MC _)
structure Turn (P:Program) (w:World) (K:Qf) (tg:Expr) (J:It) (fp:List Addr) (it:Addr) (tn:Nat->Heap->Prop):Prop where
 mem:it∈fp
 obj:∀ i h,tn i h->∀ b∈fp,∃ o,h.get? b=some o/\∀ v,o.data≠.cell v
 keep:∀ i h h',tn i h->(∀ b∈fp,∀ o,h.get? b=some o->h'.get? b=some o)->tn i h'
 item:∀(X:Cx),X.prog=P->X.w=w->X.K=K->X.calm=true->∀(i:Nat) (pins:List (Addr×Obj)) (s:Shared) (σ:St) (H:Hp) (E:Value->Shared->Prop),Inv X pins σ H s->(∀ b∈fp,j_ X pins H b)->tn i s.heap->J.go i H ->
  wpAny (model P w) X.A (pyNext (.ref it)) (fun r s1=>∃ u,r=some u /\
   wpAny (model P w) X.A (letOwnedTupleGo tg (.ref it) u) (fun _ s2=>∃ x H',Inv X pins σ H' s2/\RelV x u/\J.HD i H x H'/\tn (i+1) s2.heap/\∀ b∈fp,H' b=none) E s1) E s
 done:∀(X:Cx),X.prog=P->X.w=w->X.K=K->X.calm=true->∀(i:Nat) (pins:List (Addr×Obj)) (s:Shared) (σ:St) (H:Hp) (E:Value->Shared->Prop),Inv X pins σ H s->(∀ b∈fp,j_ X pins H b)->tn i s.heap->J.stop i H ->
  wpAny (model P w) X.A (pyNext (.ref it)) (fun r s1=>r=none/\Inv X pins σ H s1) E s
 self:∀(A:Around) (i:Nat) (s:Shared) (Q:Value->Shared->Prop) (E:Value->Shared->Prop),tn i s.heap->Q (.ref it) s->wpAny (model P w) A (pyIter (.ref it)) Q E s
abbrev TI:=St->Hp->(It->Hp->Prop)->Prop
noncomputable def JZ(X:Cx)(pins:List (Addr×Obj))(σ:St)(tg:Expr)(R:It->Hp->Prop)(itv:Value)(s2:Shared):Prop:=
 ∃(it:Addr) (fp:List Addr) (tn:Nat->Heap->Prop) (J:It) (H':Hp),itv=.ref it/\Inv X pins σ H' s2/\Turn X.prog X.w X.K tg J fp it tn/\tn 0 s2.heap/\(∀ b∈fp,j_ X pins H' b)/\R J H'
noncomputable def PI(X:Cx)(tg iter:Expr)(wi:TI):Prop:=
 ∀(pins:List (Addr×Obj)) (s:Shared) (σ:St) (H:Hp) (R:It->Hp->Prop),Inv X pins σ H s->wi σ H R ->
  wpAny (model X.prog X.w) X.A (eval iter X.env) (fun v s1=>wpAny (model X.prog X.w) X.A (pyIter v) (JZ X pins σ tg R) X.xe s1) X.xe s
theorem yN{A:Around}{it:Addr}{n:String}{vs:Array Value}{Q:Unit->Shared->Prop}(ho:s.heap.get? it=some o)(hc:o.cls=.type n)(hd:o.data=.fields vs)
    (hn:["enumerate","zip","dict_itemiterator","dict_reverseitemiterator","odict_iterator","itertools.zip_longest","itertools.pairwise"].contains n=false) (hQ:Q () s):wpAny M A (letOwnedTupleGo tg (.ref it) u) Q E s:=by
  unfold letOwnedTupleGo
  cases tg<;>first
    |exact Lh hQ
    | (cases u<;>first
        |exact Lh hQ
        | (refine KU (wpAny_load ho ?_)
           rw[hc,hd];show wpAny M A (if (["enumerate","zip","dict_itemiterator","dict_reverseitemiterator","odict_iterator","itertools.zip_longest","itertools.pairwise"].contains n && vs[0]? == some (rawInt _))=true then _ else _) Q E s
           rw[Lc (by intro h;rw[hn,O9] at h;cases h)]
           exact Lh hQ))
noncomputable def HN(K:Qf)(a:Addr):It:=
 ⟨fun i H=>∃ xs x,bH K H a xs/\xs[i]?=some x,fun i H x H'=>H'=H/\∀ xs,bH K H a xs->xs[i]?=some x,fun i H=>∃ xs,bH K H a xs/\xs.length<=i⟩
noncomputable def GS(K:Qf)(a:Addr):It:=
 ⟨fun i H=>∃ xs x,bL K H a xs/\xs[i]?=some x,fun i H x H'=>H'=H/\∀ xs,bL K H a xs->xs[i]?=some x,fun i H=>∃ xs,bL K H a xs/\xs.length<=i⟩
noncomputable def HC(lo:Int)(n:Nat):It:=⟨fun i _=>i<n,fun i H x H'=>H'=H/\x=.int (lo+i),fun i _=>n<=i⟩
theorem vk(a it:Addr):Turn P w K tg (HN K a) [it] it (fun i h=>h.IsListIter it a i) where
 mem:=by simp
 obj:=fun i h st b hb=>by
  have e:b=it:=by simpa using hb
  subst e;obtain⟨o,e,c,d⟩:=st;exact⟨o,e,fun v z=>by rw[d] at z;cases z⟩
 keep:=fun i h h' st k=>st.at fun o e=>k it (by simp) o e
 item:=by
  intro X hP hw hK hc i pins s σ H E I hf st hg;subst hP hw hK;obtain⟨xs,x,hq,hx⟩:=hg;obtain⟨its,rv,p,hz⟩:=I.list hq;obtain⟨u,hu,ru⟩:=rv.get hx;obtain⟨f0,f1,f2,f3,f4,f5⟩:=hf it (by simp)
  refine NW st p.isList (x:=u) (by simpa using hu) fun h' st' sb=>?_
  have I1:Inv X pins σ H {s with heap:=h'}:=I.turned (t':=s.toks) (fun b o hb e=>(sb.2 b hb).trans e) f0 f1 f3 f4 f5
  obtain⟨o,e,c,d⟩:=id st';exact⟨u,rfl,yN (s:={s with heap:=h'}) e c d (by decide) ⟨x,H,I1,ru,⟨rfl,fun ys hy=>by rw[I.jz hy hq];exact hx⟩,st',fun b hb=>(hf b hb).1⟩⟩
 done:=by
  intro X hP hw hK hc i pins s σ H E I hf st hg;subst hP hw hK;obtain⟨xs,hq,hx⟩:=hg;obtain⟨its,rv,p,hz⟩:=I.list hq;obtain⟨f0,f1,f2,f3,f4,f5⟩:=hf it (by simp)
  have hl:=rv.length;exact Of (I.ok.hd hc) st p.isList (by simp;lia) fun h' eb=>⟨rfl,I.turned (t':=s.toks) (fun b o hb e=>eb b o hb e) f0 f1 f3 f4 f5⟩
 self:=fun _ _ _ _ _ st h=>wpAny_pyIter_listiter st h
theorem pj(a it:Addr):Turn P w K tg (GS K a) [it] it (fun i h=>h.IsTupleIter it a i) where
 mem:=by simp
 obj:=fun i h st b hb=>by
  have e:b=it:=by simpa using hb
  subst e;obtain⟨o,e,c,d⟩:=st;exact⟨o,e,fun v z=>by rw[d] at z;cases z⟩
 keep:=fun i h h' st k=>st.at fun o e=>k it (by simp) o e
 item:=by
  intro X hP hw hK hc i pins s σ H E I hf st hg;subst hP hw hK;obtain⟨xs,x,hq,hx⟩:=hg;obtain⟨its,rv,p,hz⟩:=I.tuple hq;obtain⟨u,hu,ru⟩:=rv.get hx;obtain⟨f0,f1,f2,f3,f4,f5⟩:=hf it (by simp)
  refine wpAny_pyNext_tuple_item st (show s.heap.IsTuple a its.toArray from p) (x:=u) (by simpa using hu) fun h' st' sb=>?_
  have I1:Inv X pins σ H {s with heap:=h'}:=I.turned (t':=s.toks) (fun b o hb e=>(sb.2 b hb).trans e) f0 f1 f3 f4 f5
  obtain⟨o,e,c,d⟩:=id st';exact⟨u,rfl,yN (s:={s with heap:=h'}) e c d (by decide) ⟨x,H,I1,ru,⟨rfl,fun ys hy=>by rw[I.iu hy hq];exact hx⟩,st',fun b hb=>(hf b hb).1⟩⟩
 done:=by
  intro X hP hw hK hc i pins s σ H E I hf st hg;subst hP hw hK;obtain⟨xs,hq,hx⟩:=hg;obtain⟨its,rv,p,hz⟩:=I.tuple hq;obtain⟨f0,f1,f2,f3,f4,f5⟩:=hf it (by simp)
  have hl:=rv.length;exact wpAny_pyNext_tuple_end (I.ok.hd hc) st (show s.heap.IsTuple a its.toArray from p) (by simp;lia) fun h' eb=>⟨rfl,I.turned (t':=s.toks) (fun b o hb e=>eb b o hb e) f0 f1 f3 f4 f5⟩
 self:=fun _ _ _ _ _ st h=>wpAny_pyIter_tupleiter st h
theorem qJ{w:World}(it:Addr)(lo:Int)(n:Nat):Turn P w K tg (HC lo n) [it] it (fun i h=>IsRangeIter h it (lo+(i:Nat)*1) ((n:Int)-(i:Nat)) 1) where
 mem:=by simp
 obj:=fun i h st b hb=>by
  have e:b=it:=by simpa using hb
  subst e;exact⟨_,st,fun v z=>by
   have z':Data.fields _=Data.cell v:=z
   cases z'⟩
 keep:=fun i h h' st k=>k it (by simp) _ st
 item:=by
  intro X hP hw hK hc i pins s σ H E I hf st hg;subst hP hw hK;obtain⟨f0,f1,f2,f3,f4,f5⟩:=hf it (by simp)
  have W:=Walks.range (prog:=X.prog) (w:=X.w) (I.ok.hd hc) it lo 1 n;refine W.item i s _ _ hg st fun v h' tk hv st' kk=>?_;obtain⟨t,rfl⟩:=hv;have I1:Inv X pins σ H {s with heap:=h',toks:=tk}:=I.turned (fun b o hb e=>kk b o (by simpa using hb) e) f0 f1 f3 f4 f5
  refine⟨_,rfl,yN (s:={s with heap:=h',toks:=tk}) (n:="range_iterator") st' rfl rfl (by decide) ⟨.int (lo+i),H,I1,⟨t,?_⟩,⟨rfl,rfl⟩,st',fun b hb=>(hf b hb).1⟩⟩
  rw[Int.mul_one]
 done:=by
  intro X hP hw hK hc i pins s σ H E I hf st hg;subst hP hw hK;obtain⟨f0,f1,f2,f3,f4,f5⟩:=hf it (by simp)
  exact wpAny_pyNext_range_end (I.ok.hd hc) st (by have:n<=i:=hg;lia) fun h' eb=>⟨rfl,I.turned (t':=s.toks) (fun b o hb e=>eb b o hb e) f0 f1 f3 f4 f5⟩
 self:=fun _ _ _ _ _ st h=>wpAny_pyIter_rangeiter st h
section
variable {X:Cx} {tg:Expr}
theorem wz{R:It->Hp->Prop}{lo hi:Int}{t u v:Tok}{tk:Nat}(I:Inv X pins σ H s)(h1:-(2^62)<=lo)(h2:lo<2^62)(h3:-(2^62)<=hi)(h4:hi<2^62)
  (q:R (HC lo (hi-lo).toNat) H):wpAny (model X.prog X.w) X.A (pyIter (.ref s.heap.objs.size)) (JZ X pins σ tg R) E {s with heap:=s.heap.push {cls:=.type "range",data:=.fields #[.int lo t,.int hi u,.int 1 v]},toks:=tk}:=by
 refine wpAny_pyIter_range (IsRange.new ..) (small_one h1 h2 h3 h4) ?_;have I1:Inv X pins σ H {s with heap:=s.heap.push {cls:=.type "range",data:=.fields #[.int lo t,.int hi u,.int 1 v]},toks:=tk}:=I.kept fun b o e=>La _ e
 refine⟨(s.heap.push {cls:=.type "range",data:=.fields #[.int lo t,.int hi u,.int 1 v]}).objs.size,[(s.heap.push {cls:=.type "range",data:=.fields #[.int lo t,.int hi u,.int 1 v]}).objs.size],_,_,H,rfl,
  I1.kept (t':=tk) fun b o e=>La _ e,qJ _ lo (hi-lo).toNat,?_,fun b hb=>?_,q⟩
 ·have e1:lo+((0:Nat):Int)*1=lo:=by simp
  have e2:(((hi-lo).toNat:Nat):Int)-((0:Nat):Int)=Builtin.Range.rangeSize lo hi 1:=by rw[PQ];split<;>lia
  show IsRangeIter _ _ (lo+((0:Nat):Int)*1) ((((hi-lo).toNat:Nat):Int)-((0:Nat):Int)) 1;rw[e1,e2];exact Lq _ rfl
 ·have e:b=(s.heap.push {cls:=.type "range",data:=.fields #[.int lo t,.int hi u,.int 1 v]}).objs.size:=by simpa using hb
  subst e;exact I1.uz (Lj _) (I1.aJ.fresh (Lj _))
noncomputable def yq(ta:TA):TI:=fun σ H R=>ta σ H fun vs H1=>∃ j:Int,vs=[.int j]/\-(2^62)<=j/\j<2^62/\R (HC 0 j.toNat) H1
theorem uT{a:Expr}{ta:TA}{p pos:Pos}(hg:Gl X "range")(hm:X.mg "range"=none)(ha:PA X [a] ta)(hs:autoParam (starEach [a] X.env=[(false,eval a X.env)]) ℜ0):PI X tg (.Call (.Name "range" p) [a] [] pos) (yq ta):=by
 intro pins s σ H R I h;refine Call_ (eM I hg hm boot_range (Mh (bu (ha pos pins s σ H _ I h) fun us s1 ⟨vs,H1,I1,r1,q1⟩=>?_) hs rfl));obtain⟨j,e,q1,q2,q⟩:=q1;subst e
 cases r1 with
 |cons r rr =>
  cases rr;obtain⟨t,rfl⟩:=r;exact call_range_1 (wz I1 (by lia) (by lia) q1 q2 (by simpa using q))
noncomputable def Gv(wi:TI)(g:TG)(tb:TS):TS:=fun D σ H=>wi σ H fun J H1=>∃ W:Nat->Nat->St->Hp->Prop,(∃ m,W 0 m σ H1)/\∀ i m σ H,W i m σ H ->
 (J.stop i H/\D.nx σ H)\/(J.go i H/\∃ N:St->Hp->Prop,(∀ σ' H',N σ' H'->∃ m',m'<m/\W (i+1) m' σ' H')/\∀ x H',J.HD i H x H'->g x σ H' fun σ2 H2=>tb {D with nx:=N,ct:=N,bk:=D.nx} σ2 H2)
noncomputable def jM(fp:List Addr)(h:Heap):List (Addr×Obj):=fp.filterMap fun b=>(h.get? b).map fun o=>(b,o)
theorem e_(hb:b∈fp)(e:h.get? b=some o):(b,o)∈jM fp h:=NF.mpr ⟨b,hb,by rw[e];rfl⟩
theorem uy{p:Addr×Obj}(hp:p∈jM fp h):p.1∈fp/\h.get? p.1=some p.2:=by
 obtain⟨b,hb,e⟩:=NF.mp hp
 cases q:h.get? b with
 |none=>rw[q] at e;cases e
 |some o =>
  rw[q] at e;have e':(b,o)=p:=Option.some.inj e;subst e';exact⟨hb,q⟩
theorem Inv.pinned(I:Inv X pins σ H s)(hf:∀ b∈fp,j_ X pins H b)(ho:∀ b∈fp,∃ o,s.heap.get? b=some o/\∀ v,o.data≠.cell v):Inv X (pins++jM fp s.heap) σ H s:=
 I.mh fun p hp=>(LY.mp hp).elim (fun z=>I.pin p (Lw _ z)) fun z=>by
  obtain⟨hb,e⟩:=uy z;obtain⟨f0,f1,f2,_⟩:=hf p.1 hb;obtain⟨o,e',d⟩:=ho p.1 hb;rw[e] at e';cases e';exact⟨e,f0,f1,f2,d⟩
theorem Inv.fI{pl:List (Addr×Obj)}(I:Inv X (pins++pl) σ H s):Inv X pins σ H s:=I.mh fun p hp=>I.pin p (Lw _ (M5 _ hp))
theorem DN{iter:Expr}{wi:TI}{g:TG}{tb:TS}{pos:Pos}(hp:PassesOwn (model X.prog X.w) X.A X.env X.xe)(hc:X.calm=true)(hi:PI X tg iter wi)(hg:PG X tg g)(hb:u5 X body tb)
  (hs:autoParam (∀ x,foldedSetIterable iter X.env x=pure x) ℜ3):PS X (.For tg iter body [] pos) (Gv wi g tb):=by
 intro pins s σ H D I h;refine wpAny_For (bu (hi pins s σ H _ I h) fun v s1 h1=>bu h1 fun itv s2 h2=>?_) hs;obtain⟨it,fp,tn,J,H2,e,I2,T,st2,f2,W,⟨m0,w0⟩,turn⟩:=h2;subst e;have stat:∀{H':Hp},(∀ b∈fp,H' b=none)->∀ b∈fp,j_ X pins H' b:=fun hn b hb=>⟨hn b hb,(f2 b hb).2⟩;refine codeAny_forLoop_any (fun n s'=>∃ i σ' H',Inv X pins σ' H' s'/\tn i s'.heap/\(∀ b∈fp,H' b=none)/\W i n σ' H') ?_ m0 ⟨0,σ,H2,I2,st2,fun b hb=>(f2 b hb).1,w0⟩;rintro n s3 ⟨i,σ3,H3,I3,st3,fr3,w3⟩;rcases turn i n σ3 H3 w3 with ⟨stop,qn⟩|⟨go,N,hN,step⟩
 ·refine MK hp (bu (T.done X rfl rfl rfl hc i pins s3 σ3 H3 X.xe I3 (stat fr3) st3 stop) fun r s4 ⟨hr,I4⟩=>?_);subst hr;exact Oo ⟨σ3,H3,I4,qn⟩
 ·refine MK hp (bu (T.item X rfl rfl rfl hc i pins s3 σ3 H3 X.xe I3 (stat fr3) st3 go) fun r s4 ⟨u,hr,h4⟩=>?_);subst hr;refine MK hp (bu h4 fun _ s5 ⟨x,H5,I5,r5,y5,st5,fr5⟩=>?_);have I5':=I5.pinned (stat fr5) (T.obj _ _ st5);refine MK hp (bu (hg _ s5 σ3 H5 x u _ I5' r5 (step x H5 y5)) fun _ s6 ⟨σ6,H6,I6,q6⟩=>?_);refine MK hp (bu (hb _ s6 σ6 H6 _ I6 q6) fun f s7 q7=>?_);have again:∀{σ7:St} {H7:Hp},Inv X (pins++jM fp s5.heap) σ7 H7 s7->N σ7 H7->∃ m,m<n/\∃ i σ' H',Inv X pins σ' H' s7/\tn i s7.heap/\(∀ b∈fp,H' b=none)/\W i m σ' H':=fun {σ7 H7} I7 n7=>by
   obtain⟨m',hm,w7⟩:=hN σ7 H7 n7;refine⟨m',hm,i+1,σ7,H7,I7.fI,T.keep _ _ _ st5 fun b hb o e=>(I7.pin (b,o) (Lw _ (Lw _ (e_ hb e)))).1,fun b hb=>?_,w7⟩;obtain⟨o,e,d⟩:=T.obj _ _ st5 b hb;exact (I7.pin (b,o) (Lw _ (Lw _ (e_ hb e)))).2.1
  cases f with
  |next=>obtain⟨σ7,H7,I7,n7⟩:=q7;exact again I7 n7
  |cont=>obtain⟨σ7,H7,I7,n7⟩:=q7;exact again I7 n7
  |brk=>obtain⟨σ7,H7,I7,q7⟩:=q7;exact⟨σ7,H7,I7.fI,q7⟩
  |ret v=>obtain⟨x7,σ7,H7,I7,r7,q7⟩:=q7;exact⟨x7,σ7,H7,I7.fI,r7,q7⟩
end
abbrev R2:=V->V->Hp->VK->Prop
variable{r:R2}
noncomputable def cE(X:Cx)(f:Value->Value->Sem Value)(r:R2):Prop:=
 ∀(pins:List (Addr×Obj)) (s:Shared) (σ:St) (H:Hp) (x y:V) (v u:Value) (Q:VK),Inv X pins σ H s->RelV x v->RelV y u->r x y H Q ->
  wpAny (model X.prog X.w) X.A (f v u) (EP X pins σ Q) X.xe s
noncomputable def Ij(X:Cx)(f:Value->Sem Value)(r:V->Hp->VK->Prop):Prop:=
 ∀(pins:List (Addr×Obj)) (s:Shared) (σ:St) (H:Hp) (x:V) (v:Value) (Q:VK),Inv X pins σ H s->RelV x v->r x H Q ->
  wpAny (model X.prog X.w) X.A (f v) (EP X pins σ Q) X.xe s
noncomputable def aQ(X:Cx)(f:Value)(r:List V->Hp->VK->Prop):Prop:=
 ∀(pins:List (Addr×Obj)) (s:Shared) (σ:St) (H:Hp) (xs:List V) (us:List Value) (Q:VK),Inv X pins σ H s->Vals xs us->r xs H Q ->
  wpAny (model X.prog X.w) X.A (call f us) (EP X pins σ Q) X.xe s
noncomputable def Ki(X:Cx)(r:V->Hp->(Bool->Hp->Prop)->Prop):Prop:=
 ∀(pins:List (Addr×Obj)) (s:Shared) (σ:St) (H:Hp) (x:V) (v:Value) (Q:Bool->Hp->Prop),Inv X pins σ H s->RelV x v->r x H Q ->
  wpAny (model X.prog X.w) X.A (truthy v) (TP X pins σ Q) X.xe s
noncomputable def Br(r:R2)(ta tb:TE):TE:=fun σ H Q=>ta σ H fun x H1=>tb σ H1 fun y H2=>r x y H2 Q
noncomputable def K1(r:V->Hp->VK->Prop)(ta:TE):TE:=fun σ H Q=>ta σ H fun x H1=>r x H1 Q
noncomputable def rI(C:Int->Int->Prop)(g:Int->Int->V):R2:=fun x y H Q=>∃ i j,x=.int i/\y=.int j/\C i j/\Q (g i j) H
noncomputable def zv(g:Int->Int->V):R2:=fun x y H Q=>∃ i j,x=.int i/\y=.int j/\Q (g i j) H
noncomputable def rU(g:Int->V):V->Hp->VK->Prop:=fun x H Q=>∃ i,x=.int i/\Q (g i) H
section
variable {X:Cx} {a b c:Expr} {ta tb tc:TE} {pos:Pos}
theorem Dy(ha:PE X a ta)(hb:PE X b tb){R:V->V->Hp->Prop}(I:Inv X pins σ H s)
  (h:ta σ H fun x H1=>tb σ H1 fun y H2=>R x y H2)  
  (hf:∀ v u s2 x y H2,Inv X pins σ H2 s2->RelV x v->RelV y u->R x y H2->wpAny (model X.prog X.w) X.A (f v u) Q X.xe s2) :
  wpAny (model X.prog X.w) X.A (eval a X.env) (fun v s₁=>wpAny (model X.prog X.w) X.A (eval b X.env) (fun u s₂=>wpAny (model X.prog X.w) X.A (f v u) Q X.xe s₂) X.xe s₁) X.xe s:=by
 refine bu (ha pins s σ H _ I h) fun v s1 ⟨x,H1,I1,r1,q1⟩=>?_;refine bu (hb pins s1 σ H1 _ I1 q1) fun u s2 ⟨y,H2,I2,r2,q2⟩=>?_;exact hf v u s2 x y H2 I2 r1 r2 q2
theorem Hs{op:Operator}(ho:cE X (binaryOp op) r)(ha:PE X a ta)(hb:PE X b tb):PE X (.BinOp a op b pos) (Br r ta tb):=by
 intro pins s σ H Q I h;exact wpAny_BinOp (Dy ha hb I h fun v u s2 x y H2 I2 rx ry q=>ho pins s2 σ H2 x y v u Q I2 rx ry q)
theorem Hh{op:UnaryOp}{r:V->Hp->VK->Prop}(ho:Ij X (unaryOp op) r)(ha:PE X a ta):PE X (.UnaryOp op a pos) (K1 r ta):=by
 intro pins s σ H Q I h;exact UnaryOp_ (bu (ha pins s σ H _ I h) fun v s1 ⟨x,H1,I1,r1,q1⟩=>ho pins s1 σ H1 x v Q I1 r1 q1)
theorem FY{C:Int->Int->Prop}{g:Int->Int->Int}
  (rule:∀(i j:Int) (t u:Tok) (s:Shared) (Q:Value->Shared->Prop) (E:Value->Shared->Prop),C i j->Q (.int (g i j) s.toks) {s with toks:=s.toks+1}->wpAny (model X.prog X.w) X.A (f (.int i t) (.int j u)) Q E s) :
  cE X f (rI C fun i j=>.int (g i j)):=by
 intro pins s σ H x y v u Q I rx ry h;obtain⟨i,j,rfl,rfl,hc,q⟩:=h;obtain⟨t,rfl⟩:=rx;obtain⟨t',rfl⟩:=ry;exact rule i j t t' s _ _ hc ⟨.int (g i j),H,I.tok _,⟨_,rfl⟩,q⟩
theorem GG{g:Int->Int->Int}
  (rule:∀(i j:Int) (t u:Tok) (s:Shared) (Q:Value->Shared->Prop) (E:Value->Shared->Prop),Q (.int (g i j) s.toks) {s with toks:=s.toks+1}->wpAny (model X.prog X.w) X.A (f (.int i t) (.int j u)) Q E s) :
  cE X f (zv fun i j=>.int (g i j)):=by
 intro pins s σ H x y v u Q I rx ry h;obtain⟨i,j,rfl,rfl,q⟩:=h;obtain⟨t,rfl⟩:=rx;obtain⟨t',rfl⟩:=ry;exact rule i j t t' s _ _ ⟨.int (g i j),H,I.tok _,⟨_,rfl⟩,q⟩
theorem BK{g:Int->Int->Bool}
  (rule:∀(i j:Int) (t u:Tok) (s:Shared) (Q:Value->Shared->Prop) (E:Value->Shared->Prop),Q (.bool (g i j)) s->wpAny (model X.prog X.w) X.A (f (.int i t) (.int j u)) Q E s) :
  cE X f (zv fun i j=>.bl (g i j)):=by
 intro pins s σ H x y v u Q I rx ry h;obtain⟨i,j,rfl,rfl,q⟩:=h;obtain⟨t,rfl⟩:=rx;obtain⟨t',rfl⟩:=ry;exact rule i j t t' s _ _ ⟨.bl (g i j),H,I,rfl,q⟩
noncomputable def Hl(i j:Int):Prop:=0<=j/\j<=1000000/\i.natAbs<2^64
noncomputable def nL(i j:Int):Prop:=(-(2^64)<i/\i<2^64)\/(-(2^64)<j/\j<2^64)
theorem nL.ok{i j:Int}(h:nL i j):IntMulOk i j:=by
 rcases h with ⟨h1,h2⟩|⟨h1,h2⟩
 ·exact .of_left (intBits_le_64 h1 h2)
 ·exact .of_right (intBits_le_64 h1 h2)
theorem DS:cE X (binaryOp .Add) (zv fun i j=>.int (i+j)):=GG fun _ _ _ _ _ _ _ q=>add_int q
theorem dW:cE X (binaryOp .Sub) (zv fun i j=>.int (i-j)):=GG fun _ _ _ _ _ _ _ q=>sub_int q
theorem DR:cE X (binaryOp .Mult) (rI nL fun i j=>.int (i*j)):=FY fun _ _ _ _ _ _ _ hc q=>mul_int q hc.ok
theorem dX:cE X (binaryOp .Mod) (rI (fun _ j=>0<j) fun i j=>.int (i % j)):=FY fun i j _ _ _ _ _ hc q=>by
 have h1:(0:Int)<j:=hc;exact mod_int' (by lia) (by rw[Int.fmod_eq_emod_of_nonneg i (by lia)];exact q)
theorem DQ:cE X (binaryOp .Pow) (rI Hl fun i j=>.int (i^j.toNat)):=FY fun _ _ _ _ _ _ _ hc q=>pow_int_small hc.1 hc.2.1 hc.2.2 q
theorem E8:cE X (binaryOp .LShift) (rI Hl fun i j=>.int (i*2^j.toNat)):=FY fun _ _ _ _ _ _ _ hc q=>lshift_int_small hc.1 hc.2.1 hc.2.2 q
theorem K4{f:Value->Sem Value}{g:Int->Int}
  (rule:∀(i:Int) (t:Tok) (s:Shared) (Q:Value->Shared->Prop) (E:Value->Shared->Prop),Q (.int (g i) s.toks) {s with toks:=s.toks+1}->wpAny (model X.prog X.w) X.A (f (.int i t)) Q E s) :
  Ij X f (rU fun i=>.int (g i)):=by
 intro pins s σ H x v Q I rx h;obtain⟨i,rfl,q⟩:=h;obtain⟨t,rfl⟩:=rx;exact rule i t s _ _ ⟨.int (g i),H,I.tok _,⟨_,rfl⟩,q⟩
theorem EA:Ij X (unaryOp .USub) (rU fun i=>.int (-i)):=K4 fun _ _ _ _ _ q=>neg_int q
end
noncomputable def Gd:V->V->Bool
 |.aC,.aC=>true|.aC,.int _=>true|.int _,.aC=>true|.aC,.bl _=>true|.bl _,.aC=>true|.aC,.str _=>true|.str _,.aC=>true
 |.int _,.int _=>true|.bl _,.bl _=>true|.str _,.str _=>true|.uq _,.uq _=>true
 |.int _,.str _=>true|.str _,.int _=>true|.bl _,.str _=>true|.str _,.bl _=>true
 |_,_=>false
noncomputable def Kl:R2:=fun x y H Q=>Gd x y=true/\Q (.bl (decide (x=y))) H
noncomputable def Kn:R2:=fun x y H Q=>Gd x y=true/\Q (.bl (!decide (x=y))) H
theorem tF{i j:Int}:decide (V.int i=V.int j)=(i == j):=by
 rw[Ni];simp
theorem w4{i j:Bool}:decide (V.bl i=V.bl j)=(i == j):=by
 rw[Ni];simp
theorem sH{i j:Str}:decide (V.str i=V.str j)=(i == j):=by
 rw[Ni];simp
theorem t8{i j:Array UInt8}:decide (V.uq i=V.uq j)=(i.toList == j.toList):=by
 rw[Ni];cases i;cases j;simp
section
variable {X:Cx} {a b c:Expr} {ta tb tc:TE} {pos:Pos}
theorem aF{Q:VK}{k k':Bool}(I:Inv X pins σ H s)(q:Q (.bl k) H)(e:k=k'):EP X pins σ Q (.bool k') s:=by
 subst e;exact⟨.bl k,H,I,rfl,q⟩
theorem GF:cE X (compareOp .Eq) Kl:=by
 intro pins s σ H x y v u Q I rx ry h;obtain⟨hs,q⟩:=h
 cases x with
 |aC =>
  cases rx
  cases y with
  |aC=>cases ry;exact PySem.EqNone.eq_none_none (aF I q (by simp))
  |bl j=>cases ry;exact PySem.EqNone.eq_none_bool (aF I q (by simp))
  |int j=>obtain⟨t',rfl⟩:=ry;exact PySem.EqNone.eq_none_int (aF I q (by simp))
  |str j=>obtain⟨t',rfl⟩:=ry;exact PySem.EqNone.eq_none_str (aF I q (by simp))
  |_=>exact absurd (show false=true from hs) Lg
 |bl i =>
  cases rx
  cases y with
  |aC=>cases ry;exact PySem.EqNone.eq_bool_none (aF I q (by simp))
  |bl j=>cases ry;exact eq_bool (aF I q w4)
  |str j=>obtain⟨t',rfl⟩:=ry;exact PySem.EqMixed.eq_bool_str (aF I q (by simp))
  |_=>exact absurd (show false=true from hs) Lg
 |int i =>
  obtain⟨t,rfl⟩:=rx
  cases y with
  |aC=>cases ry;exact PySem.EqNone.eq_int_none (aF I q (by simp))
  |int j=>obtain⟨t',rfl⟩:=ry;exact eq_int (aF I q tF)
  |str j=>obtain⟨t',rfl⟩:=ry;exact PySem.EqMixed.eq_int_str (aF I q (by simp))
  |_=>exact absurd (show false=true from hs) Lg
 |str i =>
  obtain⟨t,rfl⟩:=rx
  cases y with
  |aC=>cases ry;exact PySem.EqNone.eq_str_none (aF I q (by simp))
  |bl j=>cases ry;exact PySem.EqMixed.eq_str_bool (aF I q (by simp))
  |int j=>obtain⟨t',rfl⟩:=ry;exact PySem.EqMixed.eq_str_int (aF I q (by simp))
  |str j=>obtain⟨t',rfl⟩:=ry;exact eq_str (aF I q sH)
  |_=>exact absurd (show false=true from hs) Lg
 |uq i =>
  obtain⟨t,rfl⟩:=rx
  cases y with
  |uq j=>obtain⟨t',rfl⟩:=ry;exact PySem.W.eq_bytes (aF I q t8)
  |_=>exact absurd (show false=true from hs) Lg
 |_=>cases y<;>exact absurd (show false=true from hs) Lg
theorem FI:cE X (compareOp .NotEq) Kn:=by
 intro pins s σ H x y v u Q I rx ry h;obtain⟨hs,q⟩:=h
 cases x with
 |aC =>
  cases rx
  cases y with
  |aC=>cases ry;exact PySem.EqNone.ne_none_none (aF I q (by simp))
  |bl j=>cases ry;exact PySem.EqNone.ne_none_bool (aF I q (by simp))
  |int j=>obtain⟨t',rfl⟩:=ry;exact PySem.EqNone.ne_none_int (aF I q (by simp))
  |str j=>obtain⟨t',rfl⟩:=ry;exact PySem.EqNone.ne_none_str (aF I q (by simp))
  |_=>exact absurd (show false=true from hs) Lg
 |bl i =>
  cases rx
  cases y with
  |aC=>cases ry;exact PySem.EqNone.ne_bool_none (aF I q (by simp))
  |bl j=>cases ry;exact ne_bool (aF I q (L0 not w4))
  |str j=>obtain⟨t',rfl⟩:=ry;exact PySem.EqMixed.ne_bool_str (aF I q (by simp))
  |_=>exact absurd (show false=true from hs) Lg
 |int i =>
  obtain⟨t,rfl⟩:=rx
  cases y with
  |aC=>cases ry;exact PySem.EqNone.ne_int_none (aF I q (by simp))
  |int j=>obtain⟨t',rfl⟩:=ry;exact ne_int (aF I q (L0 not tF))
  |str j=>obtain⟨t',rfl⟩:=ry;exact PySem.EqMixed.ne_int_str (aF I q (by simp))
  |_=>exact absurd (show false=true from hs) Lg
 |str i =>
  obtain⟨t,rfl⟩:=rx
  cases y with
  |aC=>cases ry;exact PySem.EqNone.ne_str_none (aF I q (by simp))
  |bl j=>cases ry;exact PySem.EqMixed.ne_str_bool (aF I q (by simp))
  |int j=>obtain⟨t',rfl⟩:=ry;exact PySem.EqMixed.ne_str_int (aF I q (by simp))
  |str j=>obtain⟨t',rfl⟩:=ry;exact ne_str (aF I q (L0 not sH))
  |_=>exact absurd (show false=true from hs) Lg
 |uq i =>
  obtain⟨t,rfl⟩:=rx
  cases y with
  |uq j=>obtain⟨t',rfl⟩:=ry;exact PySem.W.ne_bytes (aF I q (L0 not t8))
  |_=>exact absurd (show false=true from hs) Lg
 |_=>cases y<;>exact absurd (show false=true from hs) Lg
theorem kC:cE X (compareOp .Lt) (zv fun i j=>.bl (decide (i<j))):=BK fun _ _ _ _ _ _ _ q=>lt_int q
theorem H_:cE X (compareOp .LtE) (zv fun i j=>.bl (decide (i<=j))):=BK fun _ _ _ _ _ _ _ q=>le_int q
theorem Cy:cE X (compareOp .Gt) (zv fun i j=>.bl (decide (j<i))):=BK fun _ _ _ _ _ _ _ q=>gt_int q
theorem CH:cE X (compareOp .GtE) (zv fun i j=>.bl (decide (j<=i))):=BK fun _ _ _ _ _ _ _ q=>ge_int q
theorem uV:cE X (compareOp .In) (fun x y H Q=>∃ i j,x=.str i/\y=.str j/\Q (.bl (!(Builtin.Str.occurrences j i 0 j.length 1).isEmpty)) H):=by
 intro pins s σ H x y v u Q I rx ry h;obtain⟨i,j,rfl,rfl,q⟩:=h;obtain⟨t,rfl⟩:=rx;obtain⟨t',rfl⟩:=ry;exact in_str (aF I q rfl)
theorem d7:cE X (compareOp .Is) (fun x y H Q=>y=.aC/\Q (.bl (decide (x=.aC))) H):=by
 intro pins s σ H x y v u Q I rx ry h;obtain⟨rfl,q⟩:=h;cases ry;refine is_none_gen (aF I q ?_)
 cases x<;>first
  | (cases rx;rfl)
  | (obtain⟨t,rfl⟩:=rx;rfl)
theorem mw:cE X (compareOp .IsNot) (fun x y H Q=>y=.aC/\Q (.bl (!decide (x=.aC))) H):=by
 intro pins s σ H x y v u Q I rx ry h;obtain⟨rfl,q⟩:=h;cases ry;refine isnot_none_gen (aF I q ?_)
 cases x<;>first
  | (cases rx;rfl)
  | (obtain⟨t,rfl⟩:=rx;rfl)
theorem cE.or{r':R2}(h:cE X f r)(h':cE X f r'):cE X f (fun x y H Q=>r x y H Q\/r' x y H Q):=by
 intro pins s σ H x y v u Q I rx ry q;rcases q with q|q
 ·exact h pins s σ H x y v u Q I rx ry q
 ·exact h' pins s σ H x y v u Q I rx ry q
theorem Bw{op:CmpOp}(ho:cE X (compareOp op) r)(ha:PE X a ta)(hb:PE X b tb)(hm:behindInMarks op b=false):PE X (.Compare a [op] [b] pos) (Br r ta tb):=by
 intro pins s σ H Q I h;exact wpAny_Compare1 (Dy ha hb I h fun v u s2 x y H2 I2 rx ry q=>ho pins s2 σ H2 x y v u Q I2 rx ry q) hm
noncomputable def mV(t:TE):TT:=fun σ H Q=>t σ H fun x H'=>∃ k,x=.bl k/\Q k H'
theorem By{op:CmpOp}(ho:cE X (compareOp op) r)(ha:PE X a ta)(hb:PE X b tb)(hm:behindInMarks op b=false):PT X (.Compare a [op] [b] pos) (mV (Br r ta tb)):=by
 intro pins s σ H Q I h;refine wpAny_isTrue_Compare1 (bu (ha pins s σ H _ I h) fun v s1 ⟨x,H1,I1,r1,q1⟩=>bu (hb pins s1 σ H1 _ I1 q1) fun u s2 ⟨y,H2,I2,r2,q2⟩=>
  bu (ho pins s2 σ H2 x y v u _ I2 r1 r2 q2) fun c s3 ⟨z,H3,I3,r3,k,e,q3⟩=>?_) hm
 subst e;cases r3;exact MO ⟨H3,I3,q3⟩
noncomputable def p6(r r':R2)(ta tb tc:TE):TE:=fun σ H Q=>ta σ H fun x H1=>tb σ H1 fun y H2=>r x y H2 fun z H3=>∃ k,z=.bl k /\
 (if k=true then tc σ H3 fun w' H4=>r' y w' H4 Q else Q (.bl false) H3)
theorem xq{op op':CmpOp}{r':R2}(ho:cE X (compareOp op) r)(ho':cE X (compareOp op') r')(ha:PE X a ta)(hb:PE X b tb)(hc:PE X c tc)
  (hm:autoParam (lastMarks [op,op'] [b,c]=false) ℜ5):PT X (.Compare a [op,op'] [b,c] pos) (mV (p6 r r' ta tb tc)):=by
 intro pins s σ H Q I h;refine isTrue_chain (bu (ha pins s σ H _ I h) fun v s1 ⟨x,H1,I1,r1,q1⟩=>test_link (bu (hb pins s1 σ H1 _ I1 q1) fun u s2 ⟨y,H2,I2,r2,q2⟩=>
  bu (ho pins s2 σ H2 x y v u _ I2 r1 r2 q2) fun d s3 ⟨z,H3,I3,r3,k,e,q3⟩=>?_)) hm
 subst e;cases r3;refine MO ?_
 cases k with
 |false =>
  obtain⟨k',e',q'⟩:=q3;cases e';exact ite_ff ⟨H3,I3,q'⟩
 |true =>
  refine ite_tt (test_last (bu (hc pins s3 σ H3 _ I3 q3) fun w' s4 ⟨z',H4,I4,r4,q4⟩=>bu (ho' pins s4 σ H4 y z' u w' _ I4 r2 r4 q4) fun d' s5 ⟨z2,H5,I5,r5,k2,e2,q5⟩=>?_));subst e2;cases r5;exact MO ⟨H5,I5,q5⟩
noncomputable def x3(K:Qf)(x:V)(H:Hp)(k:Bool):Prop:=
 match x with
 |.aC=>k=false
 |.bl b=>k=b
 |.int i=>k=(i != 0)
 |.str y=>y.length<=sizeLine/\k=((y.length:Int) != 0)
 |.uq y=>y.size<=sizeLine/\k=((y.size:Int) != 0)
 |.ref p=>(∃ xs,bH K H p xs/\k=!xs.isEmpty)\/(∃ xs,bL K H p xs/\k=!xs.isEmpty)\/∃ kvs,H p=some (.dK kvs)/\k=!kvs.isEmpty
 |_=>False
theorem qR{κ:Type}{kvs:List (κ×V)}{vs:List (κ×Value)}(r:KV kvs vs):(!vs.isEmpty)=!kvs.isEmpty:=by
 cases r<;>rfl
theorem j5{its:List Value}(r:Vals xs its):(!its.toArray.isEmpty)=!xs.isEmpty:=by
 cases r<;>simp
theorem gA:(sizeLine:Nat)<2^63:=by rw[M4];decide
theorem Eg:Ki X (fun x H Q=>∃ k,x3 X.K x H k/\Q k H):=by
 intro pins s σ H x v Q I rx h;obtain⟨k,e,q⟩:=h;have hl:=gA;have hs:sizeLine=16777216:=M4
 cases x with
 |aC =>
  cases rx;have e':k=false:=e;subst e';exact truthy_none ⟨H,I,q⟩
 |bl b =>
  cases rx;have e':k=b:=e;subst e';exact MO ⟨H,I,q⟩
 |int i =>
  obtain⟨t,rfl⟩:=rx;have e':k=(i != 0):=e;subst e';exact PySem.P.truthy_int ⟨H,I,q⟩
 |str y =>
  obtain⟨t,rfl⟩:=rx;obtain⟨hy,e'⟩:y.length<=sizeLine/\k=((y.length:Int) != 0):=e;subst e';exact PySem.P.truthy_str (by lia) ⟨H,I.tok _,q⟩
 |uq y =>
  obtain⟨t,rfl⟩:=rx;obtain⟨hy,e'⟩:y.size<=sizeLine/\k=((y.size:Int) != 0):=e;subst e';exact PySem.W.truthy_bytes (by lia) ⟨H,I.tok _,q⟩
 |ref p =>
  cases rx;have e':(∃ xs,bH X.K H p xs/\k=!xs.isEmpty)\/(∃ xs,bL X.K H p xs/\k=!xs.isEmpty)\/∃ kvs,H p=some (.dK kvs)/\k=!kvs.isEmpty:=e;rcases e' with ⟨xs,hx,e'⟩|⟨xs,hx,e'⟩|⟨kvs,hx,e'⟩
  ·subst e';obtain⟨its,r,pl,hz⟩:=I.list hx;have hlen:=r.length;exact wpAny_truthy_list pl.isList (by simp only[Ld];lia) ⟨H,I.tok _,by rw[j5 r];exact q⟩
  ·subst e';obtain⟨its,r,pl,hz⟩:=I.tuple hx;have hlen:=r.length;exact truthy_tuple pl (by simp only[Ld];lia) ⟨H,I.tok _,by rw[j5 r];exact q⟩
  ·subst e';obtain⟨hz,hS,vs,r,m⟩:kvs.length<=sizeLine/\(p == sysModules)=false/\∃ vs,KV kvs vs/\s.heap.DictOf (bR X.prog X.w) p vs:=I.aJ p _ hx;have hlen:kvs.length=vs.length:=Paired.length r;exact wpAny_truthy_dict hS m (by lia) ⟨H,I.tok _,by rw[qR r];exact q⟩
 |_=>exact (show False from e).elim
theorem xa(ha:PE X a ta)(he:∀ whole,isTrue a X.env whole=(do let v <- whole;standAt a.pos;holding [v] (truthy v))):
  PT X a (fun σ H Q=>ta σ H fun x H'=>∃ k,x3 X.K x H' k/\Q k H'):=by
 intro pins s σ H Q I h;exact isTrue_plain (bu (ha pins s σ H _ I h) fun v s1 ⟨x,H1,I1,r1,q1⟩=>Eg pins s1 σ H1 x v Q I1 r1 q1) (he _)
theorem pS:cE X (binaryOp .Add) (fun x y H Q=>∃ i j,x=.str i/\y=.str j/\i.length+j.length<=sizeLine/\Q (.str (i++j)) H):=by
 intro pins s σ H x y v u Q I rx ry h;obtain⟨i,j,rfl,rfl,hz,q⟩:=h;obtain⟨t,rfl⟩:=rx;obtain⟨t',rfl⟩:=ry;exact add_str (fun t' tk=>⟨.str (i++j),H,I.tok _,⟨_,rfl⟩,q⟩) hz
theorem vals1{x:V}(r:Vals [x] us):∃ u,us=[u]/\RelV x u:=by
 cases r with
 |cons r1 r2=>cases r2;exact⟨_,rfl,r1⟩
theorem vals2{x y:V}(r:Vals [x,y] us):∃ u w',us=[u,w']/\RelV x u/\RelV y w':=by
 cases r with
 |cons r1 r2 =>
  cases r2 with
  |cons r3 r4=>cases r4;exact⟨_,_,rfl,r1,r3⟩
theorem zl:aQ X (.builtin "abs") (fun xs H Q=>∃ i,xs=[.int i]/\Q (.int (if i<0 then -i else i)) H):=by
 intro pins s σ H xs us Q I r h;obtain⟨i,rfl,q⟩:=h;obtain⟨u,rfl,t,rfl⟩:=vals1 r;exact call_abs_int fun u tk=>⟨.int (if i<0 then -i else i),H,I.tok _,⟨_,rfl⟩,q⟩
theorem uv(hc:X.calm=true):aQ X (.builtin "min") (fun xs H Q=>∃ i j,xs=[.int i,.int j]/\Q (.int (if j<i then j else i)) H):=by
 intro pins s σ H xs us Q I r h;obtain⟨i,j,rfl,q⟩:=h;obtain⟨u,w',rfl,⟨t,rfl⟩,⟨t',rfl⟩⟩:=vals2 r;refine min_two_ints (I.ok.hd hc) fun h' tk k=>⟨_,H,I.kept k,?_,q⟩;by_cases hj:j<i
 ·rw[Li hj,Li hj];exact⟨_,rfl⟩
 ·rw[Lc hj,Lc hj];exact⟨_,rfl⟩
theorem lr:aQ X (.type "int") (fun xs H Q=>(∃ i,xs=[.int i]/\Q (.int i) H)\/∃ k,xs=[.bl k]/\Q (.int (if k then 1 else 0)) H):=by
 intro pins s σ H xs us Q I r h;rcases h with ⟨i,rfl,q⟩|⟨k,rfl,q⟩
 ·obtain⟨u,rfl,t,rfl⟩:=vals1 r;exact call_int_int ⟨.int i,H,I,⟨_,rfl⟩,q⟩
 ·obtain⟨u,rfl,r1⟩:=vals1 r;cases r1;exact call_int_bool ⟨.int (if k then 1 else 0),H,I.tok _,⟨_,rfl⟩,q⟩
end
structure DE (h:Heap) (x dx C:Addr) (mA:Str->Option Value):Prop where
 obj:h.get? x=some (PySem.W.instObj C dx)
 ns:h.Ns1 dx mA
 ne:dx≠x
theorem tS{dx:Addr}(n:h.Ns1 dx mA):∃ od,h.get? dx=some od/\∀ name,PySem.W.lookIn name od=some (mA name):=by
 obtain⟨o,es,ep,ho,hd,hk,_,hm⟩:=n;refine⟨o,ho,fun name=>?_⟩;have e:=hm name;unfold nsFind findBy at e;rw[<- Array.find?_toList] at e;unfold PySem.W.lookIn;rw[hd];dsimp only;split
 ·rename_i y q;rw[q] at e;exact L0 some e
 ·rename_i q;rw[q] at e;have a:es.toList.any (·.refKey)=false:=by
   rw[List.any_eq_false];intro y hy;obtain⟨z,t,hkey⟩:=hk y (Array.mem_toList_iff.mp hy);simp[DictEntry.refKey,hkey]
  have a':¬ es.toList.any (·.refKey)=true:=by rw[a];exact Lg
  rw[Lc a'];exact L0 some e
theorem DE.look{x dx C:Addr}(I:DE h x dx C mA):∃ od,PySem.W.InstAt h x (PySem.W.instObj C dx) C (some od)/\∀ name,PySem.W.lookIn name od=some (mA name):=
 let ⟨od,ho,hl⟩:=tS I.ns
 ⟨od,⟨I.obj,rfl,rfl,ho⟩,hl⟩
theorem jN.some_of{v:V}{o:Option Value}(r:jN (some v) o):∃ u,o=some u/\RelV v u:=by
 cases o with
 |none=>exact (show False from r).elim
 |some u=>exact⟨u,rfl,r⟩
section
variable {P:Program} {w:World} {H H':Hp} {h h':Heap} {a C dx:Addr} {fs fs':List (Str×V)}
theorem z_(aJ:ij P w H h)(e:H a=some (.ins C dx fs)):∃ mA,DE h a dx C mA/\(∀ f,jN (fs.lookup f) (mA f))/\PySem.Within mA (fs.map (·.1))/\fs.length<=1000/\H dx=some (.own a):=by
 obtain⟨d,z,ne,ob,mA,n,r,q⟩:=(show aP P w H h a (.ins C dx fs) from aJ a _ e);exact⟨mA,⟨ob,n,ne⟩,r,q,z,d⟩
end
structure Kb (K:Qf) (C:Addr):Prop where
 pg:PySem.W.plainGet K C Str.empty=true
 hd:PySem.W.hasDictIn K C=true
 po:PySem.W.plainOver K C=true
 sa:PySem.W.findIn K (.ref C) "__setattr__"=some (some (.builtin "object.__setattr__"))
theorem Kb.get{C:Addr}(c:Kb K C)(f:Str):PySem.W.plainGet K C f=true:=c.pg
section
variable {X:Cx} {pins:List (Addr×Obj)} {σ:St} {H:Hp} {s:Shared} {A:Around} {E:Value->Shared->Prop} {Q:Value->Shared->Prop} {c:Value} {b:Bool}
inductive ib (K:Qf) (H:Hp):V->Value->Prop where
 |aC:ib K H .aC (.type "NoneType")
 |bl (x:Bool):ib K H (.bl x) (.type "bool")
 |int (i:Int):ib K H (.int i) (.type "int")
 |str (x:Str):ib K H (.str x) (.type "str")
 |Fu (x:UInt64):ib K H (.Fu x) (.type "float")
 |lst {a:Addr} {xs:List V} (e:H a=some (.lst xs)):ib K H (.ref a) (.type "list")
 |gK {a:Addr} {o:Obj} {xs:List V} (e:H a=some (.gK o (.lst xs))):ib K H (.ref a) (.type "list")
 |tup {a:Addr} {xs:List V} (e:H a=some (.tup xs)):ib K H (.ref a) (.type "tuple")
 |dK {a:Addr} {kvs:List (Key×V)} (e:H a=some (.dK kvs)):ib K H (.ref a) (.type "dict")
 |dT {a:Addr} {kvs:List (List Key×V)} (e:H a=some (.dT kvs)):ib K H (.ref a) (.type "dict")
 |ins {a C dx:Addr} {fs:List (Str×V)} (e:H a=some (.ins C dx fs)) (cl:Kb K C) (ha:PySem.W.findIn K (.ref C) "__class__"=some (some (.builtin "object.__class__")))
   (hn:PySem.W.specialIn K (.builtin "object.__class__") "__get__"=some (some (.builtin "getset_descriptor.__get__"))) (htk:PySem.W.takesIn K (.builtin "object.__class__")=some true)
   (hm:PySem.W.mroIn K C (.type "object")=some true):ib K H (.ref a) (.ref C)
theorem kR{x:V}{t:Value}(I:Inv X pins σ H s)(rx:RelV x u)(ty:ib X.K H x t)(e:PySem.W.kitOne X.K t c=some b)(h:∀ tk,Q (.bool b) {s with toks:=tk}):
  wpAny (model X.prog X.w) A (call (.builtin "isinstance") [u,c]) Q E s:=by
 cases ty with
 |aC=>cases (show u=Value.none from rx);exact PySem.W.kia_one PySem.W.kitx_none I.ki True.intro e (fun z=>nomatch z) h
 |bl y=>cases (show u=Value.bool y from rx);exact PySem.W.kia_one PySem.W.kitx_bool I.ki True.intro e (fun z=>nomatch z) h
 |int i=>obtain⟨t,q⟩:=(show ∃ t,u=Value.int i t from rx);cases q;exact PySem.W.kia_one PySem.W.kitx_int I.ki True.intro e (fun z=>nomatch z) h
 |str y=>obtain⟨t,q⟩:=(show ∃ t,u=Value.str y t from rx);cases q;exact PySem.W.kia_one PySem.W.kitx_str I.ki True.intro e (fun z=>nomatch z) h
 |Fu y=>obtain⟨t,q⟩:=(show ∃ t,u=Value.float y t from rx);cases q;exact PySem.W.kia_one PySem.W.kitx_float I.ki True.intro e (fun z=>nomatch z) h
 |@lst a xs ea =>
  cases (show u=Value.ref a from rx)
  obtain⟨_,_,n,_,h1⟩:=(show aP X.prog X.w H s.heap a (.lst xs) from I.aJ a _ ea);exact PySem.W.kia_one PySem.W.kitx_list I.ki ⟨_,h1,rfl⟩ e (fun z=>nomatch z) h
 |@gK a ob xs ea =>
  cases (show u=Value.ref a from rx)
  obtain⟨_,_,_,n,_,h1⟩:=(show aP X.prog X.w H s.heap a (.gK ob (.lst xs)) from I.aJ a _ ea);exact PySem.W.kia_one PySem.W.kitx_list I.ki ⟨_,h1,rfl⟩ e (fun z=>nomatch z) h
 |@tup a xs ea =>
  cases (show u=Value.ref a from rx)
  obtain⟨_,_,_,p⟩:=(show aP X.prog X.w H s.heap a (.tup xs) from I.aJ a _ ea);obtain⟨o,h1,h2,_⟩:=p;exact PySem.W.kia_one PySem.W.kitx_tuple I.ki ⟨o,h1,h2⟩ e (fun z=>nomatch z) h
 |@dK a kvs ea =>
  cases (show u=Value.ref a from rx)
  obtain⟨_,_,vs,_,p⟩:=(show aP X.prog X.w H s.heap a (.dK kvs) from I.aJ a _ ea);obtain⟨o,es,ep,h1,h2,_⟩:=p;exact PySem.W.kia_one PySem.W.kitx_dict I.ki ⟨o,h1,h2.1⟩ e (fun z=>nomatch z) h
 |@dT a kvs ea =>
  cases (show u=Value.ref a from rx)
  obtain⟨_,_,xs,_,o,es,ep,h1,h2,_⟩:=(show aP X.prog X.w H s.heap a (.dT kvs) from I.aJ a _ ea);exact PySem.W.kia_one PySem.W.kitx_dict I.ki ⟨o,h1,h2.1⟩ e (fun z=>nomatch z) h
 |@ins a C dx fs ea cl ha hn htk hm =>
  cases (show u=Value.ref a from rx)
  obtain⟨mA,O,_⟩:=z_ I.aJ ea;obtain⟨od,J,_⟩:=O.look;exact PySem.W.kia_one (PySem.W.kitx_own (cl.get _) cl.hd ha hn htk hm) I.ki J e (fun z=>nomatch z) h
end
structure bG (k:Nat) (A:Around):Prop where
 hd:A.handled=none
 dp:A.depth+3*k+5<recursionLimit
 un:A.units+16*k+200<cLine
 gd:A.guards=some []
theorem bG.mono{A:Around}(r:bG k A)(h:j<=k):bG j A:=⟨r.hd,by have:=r.dp;lia,by have:=r.un;lia,r.gd⟩
theorem bG.deeper{A:Around}(r:bG (k+1) A)(env:Env):bG k (A.deeper env):=
 ⟨r.hd,by have:=r.dp;show A.depth+1+3*k+5<_;lia,by have:=r.un;show A.units+3+16*k+200<_;lia,r.gd⟩
theorem bG.in1{A:Around}(r:bG (k+1) A):bG k A.in1:=
 ⟨r.hd,by have:=r.dp;show A.depth+3*k+5<_;lia,by have:=r.un;show A.units+1+16*k+200<_;lia,r.gd⟩
theorem bG.depth{A:Around}(r:bG k A):A.depth<recursionLimit:=by have:=r.dp;lia
theorem bG.units{A:Around}(r:bG k A):A.units+64<cLine:=by have:=r.un;lia
noncomputable def ot:TA:=fun _ H Q=>Q [] H
noncomputable def hU(ta:TE)(tr:TA):TA:=fun σ H Q=>ta σ H fun x H1=>tr σ H1 fun xs H2=>Q (x::xs) H2
section
variable {X:Cx} {e:Expr} {es:List Expr} {te:TE} {t:TA} {pos:Pos}
theorem wb:PA X [] ot:=fun _ _ _ _ H Q I h=>Calls.spliced_nil ⟨[],H,I,.nil,h⟩
theorem tD(ha:PE X e te)(hr:PA X es t)(hs:autoParam (starEach (e::es) X.env=(false,eval e X.env)::starEach es X.env) ℜ0):PA X (e::es) (hU te t):=by
 intro pos pins s σ H Q I h;rw[hs];show wpAny _ _ (spliced ((false,eval e X.env)::backTo pos (starEach es X.env))) _ _ s;refine Calls.spliced_cons (bu (ha pins s σ H _ I h) fun u s1 ⟨x,H1,I1,r1,q1⟩=>?_);exact bu (hr pos pins s1 σ H1 _ I1 q1) fun us s2 ⟨xs,H2,I2,r2,q2⟩=>⟨x::xs,H2,I2,.cons r1 r2,q2⟩
noncomputable def Ha(t:TA):TE:=fun σ H Q=>t σ H fun xs H1=>xs.length<=sizeLine/\∀ p,H1 p=none->Q (.ref p) (upd H1 p (.tup xs))
noncomputable def y6(t:TA):TE:=fun σ H Q=>t σ H fun xs H1=>xs.length<=sizeLine/\∀ p,H1 p=none->Q (.ref p) (upd H1 p (.lst xs))
theorem Ez{x1}(h:PA X es t):PE X (.Tuple es x1 pos) (Ha t):=by
 intro pins s σ H Q I hq;refine wpAny_Tuple_spliced (bu (h pos pins s σ H _ I hq) fun us s1 ⟨xs,H1,I1,r,z,q⟩=>⟨by rw[<- r.length];exact z,?_⟩)
 have hf:H1 s1.heap.objs.size=none:=I1.aJ.fresh (Lj _);refine⟨.ref s1.heap.objs.size,upd H1 s1.heap.objs.size (.tup xs),I1.laid (t':=s1.toks) (fun b u e=>La _ e) (Lj _) ?_,rfl,q _ hf⟩;exact⟨z,us,r,⟨_,Lq _ rfl,rfl,_,rfl,rfl⟩⟩
theorem D9(h:PA X es t):PE X (.List es pos) (y6 t):=by
 intro pins s σ H Q I hq;refine wpAny_List_spliced (bu (h pos pins s σ H _ I hq) fun us s1 ⟨xs,H1,I1,r,z,q⟩=>⟨by rw[<- r.length];exact z,?_⟩)
 have hf:H1 s1.heap.objs.size=none:=I1.aJ.fresh (Lj _);refine⟨.ref s1.heap.objs.size,upd H1 s1.heap.objs.size (.lst xs),I1.laid (t':=s1.toks) (fun b u e=>La _ e) (Lj _) ?_,rfl,q _ hf⟩;exact⟨z,us,0,r,Lq _ rfl⟩
end
abbrev Sp:=List V->Hp->VK->XK->Prop
variable{sp:Sp}
abbrev mC:=List Env->Hp->Shared->XK->Value->Shared->Prop
variable{CX:mC}
structure AA (P:Program) (w:World) (K:Qf) (mg:Str->Option Value) (base:Heap) (A:Around) (outer:List Env) (s:Shared) (H:Hp):Prop where
 frames:A.frames=some outer
 mod:Mod K mg base
 bs:∀ b o,base.get? b=some o->s.heap.get? b=some o/\H b=none
 An:base.objs.size<=s.heap.objs.size
 jO:s.heap.FunFrames base outer
 Fh:∀ b∈xo outer,H b=none
 aJ:ij P w H s.heap
 bare:AllBare s.gens
 tabs:TabsOk K H
noncomputable def CE(outer:List Env)(P:Program)(w:World)(H:Hp)(s:Shared)(Q:VK)(u:Value)(s':Shared):Prop:=
 ∃ v H',s'.os=s.os/\AllBare s'.gens/\Un (xo outer) [] H H' s.heap s'.heap/\ij P w H' s'.heap/\RelV v u/\Q v H'
noncomputable def CR(CX:mC)(outer:List Env)(P:Program)(w:World)(H:Hp)(s:Shared)(Q:VK)(E:XK)(r:Result)(s':Shared):Prop:=
 match r with
 |.ok (.ret u)=>CE outer P w H s Q u s'
 |.ok _=>False
 |.error e=>CX outer H s E e s'
structure dZ (P:Program) (w:World) (K:Qf) (mg:Str->Option Value) (base:Heap) (CX:mC) (k:Nat) (f:Addr) (fd:FuncData) (ps:List Str) (sp:Sp):Prop where
 len:∀ vs H Q E,sp vs H Q E->vs.length=ps.length
 run:∀(A:Around) (outer:List Env) (s:Shared) (H:Hp) (args:Args) (us:List Value) (vs:List V) (Q:VK) (E:XK),bG k A->AA P w K mg base A outer s H->BindsTo s fd args (ps.zip us)->Vals vs us->sp vs H Q E ->
  codeAny (model P w) A (.call (.ref f) args) (CR CX outer P w H s Q E) s
theorem dZ.mono{f:Addr}{ps:List Str}(F:dZ P w K mg base CX j f fd ps sp)(h:j<=k):
  dZ P w K mg base CX k f fd ps sp:=⟨F.len,fun A outer s H args us vs Q E hr=>F.run A outer s H args us vs Q E (hr.mono h)⟩
theorem dZ.imp{f:Addr}{ps:List Str}{sp':Sp}(F:dZ P w K mg base CX k f fd ps sp)
  (h:∀ vs H Q E,sp' vs H Q E->sp vs H Q E):dZ P w K mg base CX k f fd ps sp':=
 ⟨fun vs H Q E q=>F.len vs H Q E (h _ _ _ _ q),fun A outer s H args us vs Q E hr he hb hv hs=>F.run A outer s H args us vs Q E hr he hb hv (h _ _ _ _ hs)⟩
section
variable {X:Cx} {pins:List (Addr×Obj)} {σ:St} {H:Hp} {s s':Shared}
theorem Inv.Jr(I:Inv X pins σ H s):AA X.prog X.w X.K X.mg X.base X.A X.stack s H:=
 ⟨I.ok.frames,I.ok.mod,I.bs,Lk I.ok.An I.sz,I.stack,I.mI,I.aJ,I.bare,I.ok.tabs.un I.base⟩
theorem Inv.after{Q:VK}(I:Inv X pins σ H s)(h:CE X.stack X.prog X.w H s Q u s'):EP X pins σ Q u s':=by
 obtain⟨v,H',os,bare,un,aJ,r,q⟩:=h;obtain⟨hh,g,d,t,os'⟩:=s';obtain rfl:os'=s.os:=os;exact⟨v,H',I.call (h':=hh) (g':=g) (d':=d) (t':=t) (ch:=[]) un aJ bare (fun b z=>absurd z (by simp)),r,q⟩
end
noncomputable def jF(sp:Sp)(dvs:List V)(E:XK)(t:TA):TE:=fun σ H Q=>t σ H fun vs H1=>sp (vs++dvs) H1 Q E
noncomputable def Binds(K:Qf)(fd:FuncData)(ps:List Str)(ds:List Value):Prop:=
 ∀(s:Shared) (us:List Value),K.In s.heap->(us++ds).length=ps.length->BindsTo s fd ⟨us,[]⟩ (ps.zip (us++ds))
theorem Binds.all{ps:List Str}(h:∀ us:List Value,us.length=ps.length->bindArgs fd ⟨us,[]⟩=pure (ps.zip us)):Binds K fd ps []:=fun s us _ hl=>by
 rw[L8] at hl ⊢;exact .of_eq (h us hl)
noncomputable def Passes(CX:mC)(X:Cx)(E:XK):Prop:=∀(pins:List (Addr×Obj)) (σ:St) (H:Hp) (s:Shared) (e:Value) (s':Shared),Inv X pins σ H s->CX X.stack H s E e s'->X.xe e s'
section
variable {X:Cx} {CX:mC} {k:Nat} {f C:Addr} {fd:FuncData} {ps:List Str} {sp:Sp} {dvs:List V} {ds:List Value} {E:XK} {x m:Str} {p pos apos:Pos} {e o:Expr} {es:List Expr} {ta:TE} {t:TA}
theorem vy{Q:VK}(F:dZ X.prog X.w X.K X.mg X.base CX k f fd ps sp)(hr:bG k X.A)(hb:Binds X.K fd ps ds)(hd:Vals dvs ds)(hx:Passes CX X E)
  (I:Inv X pins σ H s) (r:Vals vs us) (h:sp (vs++dvs) H Q E):wpAny (model X.prog X.w) X.A (call (.ref f) us) (EP X pins σ Q) X.xe s:=by
 have r2:Vals (vs++dvs) (us++ds):=r.append hd;have hl:(us++ds).length=ps.length:=by rw[<- r2.length];exact F.len _ _ _ _ h
 refine wpAny_call (codeAny_mono (F.run X.A X.stack s H ⟨us,[]⟩ (us++ds) (vs++dvs) Q E hr I.Jr (hb s us I.ki hl) r2 h) fun r s' hq=>?_)
 cases r with
 |error e=>exact hx pins σ H s e s' I hq
 |ok fl =>
  cases fl with
  |ret u=>exact I.after hq
  |next=>exact False.elim hq
  |brk=>exact False.elim hq
  |cont=>exact False.elim hq
theorem zV(F:dZ X.prog X.w X.K X.mg X.base CX k f fd ps sp)(hr:bG k X.A)(hg:Gl X x)(hm:X.mg x=some (.ref f))(hk:PySem.W.keepIn X.K (.ref f)=true)(hb:Binds X.K fd ps ds)(hd:Vals dvs ds)(hx:Passes CX X E)
  (ha:PA X (e::es) t) (hdb:autoParam ((x ==("__debug__":Str))=false) ℜ1) (he:autoParam (starEach (e::es) X.env=(false,eval e X.env)::starEach es X.env) ℜ0) (hpl:autoParam ((backTo pos (starEach es X.env)).any (·.1)=false) ℜ0) :
  PE X (.Call (.Name x p) (e::es) [] pos) (jF sp dvs E t):=by
 intro pins s σ H Q I h;refine Nj (lZ I hg hm ?_ hdb);refine PySem.W.callWith_K (h₀:=X.base) I.ok.mod.J8 hk (bu (ha pos pins s σ H _ I h) fun us s1 ⟨vs,H1,I1,r,q⟩=>⟨I1.ki,?_⟩) he hpl;exact vy F hr hb hd hx I1 r q
theorem yt(F:dZ X.prog X.w X.K X.mg X.base CX k f fd ps sp)(hr:bG k X.A)(hg:Gl X x)(hm:X.mg x=some (.ref f))(hk:PySem.W.keepIn X.K (.ref f)=true)(hb:Binds X.K fd ps ds)(hd:Vals dvs ds)(hx:Passes CX X E)
  (hdb:autoParam ((x ==("__debug__":Str))=false) ℜ1):PE X (.Call (.Name x p) [] [] pos) (jF sp dvs E ot):=by
 intro pins s σ H Q I h;refine Nj (lZ I hg hm ?_ hdb);exact PySem.W.callWith_K0 I.ki hk (vy (us:=[]) F hr hb hd hx I .nil h)
end
noncomputable def PK(X:Cx)(kws:List Keyword)(t:TA):Prop:=
 ∀(pos:Pos) (pins:List (Addr×Obj)) (s:Shared) (σ:St) (H:Hp) (Q:List V->Hp->Prop),Inv X pins σ H s->t σ H Q->wpAny (model X.prog X.w) X.A (evalAll ((backToKw pos (keywordEach kws X.env)).map (·.2))) (AP X pins σ Q) X.xe s
section
variable {X:Cx} {CX:mC} {k:Nat} {f C:Addr} {fd:FuncData} {ps ks:List Str} {sp:Sp} {E:XK} {x m:Str} {p pos apos kpos:Pos} {e o:Expr} {es:List Expr} {kws:List Keyword} {te ta:TE} {t tk:TA} {nm:Option Str}
theorem Ec:PK X [] ot:=fun _ _ _ _ H Q I h=>wpAny_evalAll_nil ⟨[],H,I,.nil,h⟩
theorem zA(ha:PE X e te)(hr:PK X kws t):PK X (⟨nm,e,kpos⟩::kws) (hU te t):=by
 intro pos pins s σ H Q I h;show wpAny _ _ (evalAll ((do let v <- eval e X.env;standAt pos;pure v)::(backToKw pos (keywordEach kws X.env)).map (·.2))) _ _ s
 refine wpAny_evalAll_cons (KU (bu (ha pins s σ H _ I h) fun u s1 ⟨x,H1,I1,r1,q1⟩=>KU (NZ (Lh ?_))));exact bu (hr pos pins s1 σ H1 _ I1 q1) fun us s2 ⟨xs,H2,I2,r2,q2⟩=>⟨x::xs,H2,I2,.cons r1 r2,q2⟩
variable {g:List Value->List Value->List Value} {gV:List V->List V->List V}
end
structure ar (N P:List Str) (sc:Scope):Prop where
 kind:sc.kind=.function
 co:sc.isCoroutine=false
 gen:sc.isGenerator=false
 nd:N.Nodup
 pre:N.take P.length=P
 par:∀ x∈P,sc.names.lookup x=some .local\/sc.names.lookup x=some .cell
 EM:∀ y∈sc.names,y.2≠.free
theorem lB:∀{binds:List (Str×Value)} {m:Str->Option Value},(∀ v,(x,v)∉binds)->bindL kindOf binds m x=m x
 |[],_,_=>rfl
 | (n,v)::r,m,h=>by
  unfold bindL;rw[lB fun w hw=>h w (KZ _ hw)];split
  ·have:x≠n:=by rintro rfl;exact h v K_
   simp[this]
  ·rfl
theorem la:∀{binds:List (Str×Value)} {m:Str->Option Value},(∀ v,(x,v)∉binds)->bindC kindOf binds m x=m x
 |[],_,_=>rfl
 | (n,v)::r,m,h=>by
  unfold bindC;rw[la fun w hw=>h w (KZ _ hw)];split
  ·rfl
  ·have:x≠n:=by rintro rfl;exact h v K_
   simp[this]
theorem lp{v:Value}:∀{P:List Str} {vs:List Value} {i:Nat} {m:Str->Option Value},P.Nodup->P[i]?=some x->vs[i]?=some v->kindOf x=some .local ->
  bindL kindOf (P.zip vs) m x=some v
 |[],_,_,_,_,h,_,_=>by simp at h
 |_::_,[],_,_,_,_,h,_=>by simp at h
 |p::P,w::vs,0,m,nd,h1,h2,hk=>by
  simp at h1 h2;subst h1;subst h2;show bindL kindOf ((p,w)::P.zip vs) m p=_;unfold bindL;rw[lB fun v hv=>(LP.mp nd).1 (Oq hv).1,Li hk];simp
 |p::P,w::vs,i+1,m,nd,h1,h2,hk=>by
  show bindL kindOf ((p,w)::P.zip vs) m x=_;unfold bindL;exact lp (i:=i) (LP.mp nd).2 (by simpa using h1) (by simpa using h2) hk
theorem kx{v:Value}:∀{P:List Str} {vs:List Value} {i:Nat} {m:Str->Option Value},P.Nodup->P[i]?=some x->vs[i]?=some v->kindOf x≠some .local ->
  bindC kindOf (P.zip vs) m x=some v
 |[],_,_,_,_,h,_,_=>by simp at h
 |_::_,[],_,_,_,_,h,_=>by simp at h
 |p::P,w::vs,0,m,nd,h1,h2,hk=>by
  simp at h1 h2;subst h1;subst h2;show bindC kindOf ((p,w)::P.zip vs) m p=_;unfold bindC;rw[la fun v hv=>(LP.mp nd).1 (Oq hv).1,Lc hk];simp
 |p::P,w::vs,i+1,m,nd,h1,h2,hk=>by
  show bindC kindOf ((p,w)::P.zip vs) m x=_;unfold bindC;exact kx (i:=i) (LP.mp nd).2 (by simpa using h1) (by simpa using h2) hk
noncomputable def start(N:List Str)(vs:List V):St:=vs.map some++List.replicate (N.length-vs.length) none
noncomputable def lL(CX:mC)(P:Program)(w:World)(K:Qf)(mg:Str->Option Value)(base:Heap)(N:List Str)(qual:Str)(scope:Scope)(f:Addr)(cd:Value)(A:Around)(outer:List Env)(s:Shared)(H:Hp)(E:XK):Cx where
 prog:=P
 w:=w
 K:=K
 mg:=mg
 base:=base
 A:=A.deeper (envOfC qual scope s.heap.objs.size f cd)
 N:=N
 s₀:=s
 H₀:=H
 env:=envOfC qual scope s.heap.objs.size f cd
 outer:=outer
 stack:=envOfC qual scope s.heap.objs.size f cd::outer
 ex:=[]
 calm:=true
 fn:=fun _=>true
 pn:=[]
 xe:=fun e s'=>wpAny (model P w) (A.deeper (envOfC qual scope s.heap.objs.size f cd)) (leaving (envOfC qual scope s.heap.objs.size f cd) e) (fun _ s''=>CX outer H s E e s'') (fun e' s''=>CX outer H s E e' s'') s'
theorem oN{sc:Scope}{n:Nat}(h:sc.names.lookup x=some .cell):∃ c,(cellsFrom n sc.names []).lookup x=some c:=by
 have q:=PySem.W.cellsFrom_some sc.names n [] (.inl h);exact OX.mp q
theorem u0{ps:List Str}{qual:Str}{f:Addr}{cd:Value}{A:Around}{outer:List Env}{s1:Shared}{E:XK}
  (S:ar N ps scope) (hd:A.handled=none) (e0:AA P w K mg base A outer s H) (hl:vs.length=ps.length) (r:Vals vs us)
  (x:InCallC s s.heap.objs.size (bindL (envOfC qual scope s.heap.objs.size f cd).kindOf (ps.zip us) fun _=>none) (cellsFrom (s.heap.objs.size+1) scope.names []) (bindC (envOfC qual scope s.heap.objs.size f cd).kindOf (ps.zip us) fun _=>none) s1) :
  Inv (lL CX P w K mg base N qual scope f cd A outer s H E) [] (start N vs) H s1:=by
 have hpl:ps.length<=N.length:=by have:=L0 List.length S.pre;rw[L7] at this;lia
 obtain⟨h1,tk,rfl,hk⟩:=x.done;have noA:∀ b:Addr,b∉(lL CX P w K mg base N qual scope f cd A outer s H E).ex:=fun b z=>absurd (show b∈([]:List Addr) from z) (by simp)
 refine⟨⟨e0.mod,S.kind,rfl,rfl,Lj _,fun y z c h1 h2=>?_,fun y hy=>?_,fun y c _ h=>?_,fun _=>hd,Around.frames_deeper e0.frames,.inr ⟨rfl,rfl⟩,fun b z=>absurd z (noA b),e0.bs,e0.An,fun b _ _=>noA b,fun b z=>absurd z (noA b),e0.jO,e0.Fh,e0.tabs⟩,
  rfl,e0.bare,Un.kept hk,⟨_,x.toInCall.ns,fun i y v h1 h2 h3=>?_⟩,fun y c h=>⟨_,x.cell y c h⟩,e0.aJ.fresh (Lj _),fun y c h=>?_,fun p hp=>absurd (show p∈([]:List (Addr×Obj)) from hp) (by simp),e0.aJ.kept hk,?_⟩
 ·exact name_of_addr x.apart (PySem.mem_of_lookup h1) (PySem.mem_of_lookup h2)
 ·have hy:scope.names.lookup y=some .cell\/scope.names.lookup y=some .free:=hy;rcases hy with hy|hy
  ·exact oN hy
  ·exact absurd rfl (S.EM _ (PySem.mem_of_lookup hy))
 ·exact MI (x.above y c (PySem.mem_of_lookup h))
 ·have hi:i<vs.length:=by
   unfold start at h2;by_cases hi:i<vs.length
   ·exact hi
   ·rw[Ml (by simpa using hi)] at h2
    rw[Nd] at h2
    split at h2<;>cases h2
  have ha:vs[i]?=some v:=by
   unfold start at h2;rw[MQ (by simpa using hi),Lr] at h2
   cases e:vs[i]? with
   |none=>rw[e] at h2;cases h2
   |some a=>rw[e] at h2;cases h2;rfl
  obtain⟨u,hu,rv⟩:=r.get ha;have hp:ps[i]?=some y:=by
   rw[<- S.pre,List.getElem?_take_of_lt (by lia)];exact h1
  have ndP:ps.Nodup:=by rw[<- S.pre];exact S.nd.sublist (List.take_sublist _ _)
  refine⟨u,rv,?_⟩;rcases S.par y (LW hp) with k|k
  ·exact .inl ⟨k,lp ndP hp hu k⟩
  ·obtain⟨c,e⟩:=oN (n:=s.heap.objs.size+1) k;refine .inr ⟨.inl k,c,e,?_⟩;have q:=x.cell y c e;rw[kx ndP hp hu (by show scope.names.lookup y≠_;rw[k];decide)] at q
   exact q
 ·exact e0.aJ.fresh (MI (x.above y c (PySem.mem_of_lookup h)))
 ·unfold start;show _=N.length;rw[KY,Lb,Ln];lia
theorem Gw{f:Addr}{name qual:Str}{params:Arguments}{dV kV doc pm cdv ct oc:Value}{an od:Option Addr}
  {osl:Array (Option Value)} {ps:List Str}  (lk:K.lookup f=some ⟨oc,od,.func (PySem.W.fnOf name qual params body scope dV kV doc pm an cdv ct),osl⟩) (gJ:PySem.W.codeIn K cdv qual=true) (S:ar N ps scope)
  (len:∀ vs H Q E,sp vs H Q E->vs.length=ps.length)
  (hbody:∀(A:Around) (outer:List Env) (s:Shared) (H:Hp) (vs:List V) (Q:VK) (E:XK),bG k (A.deeper (envOfC qual scope s.heap.objs.size f cdv))->sp vs H Q E ->
   ∃ t,u5 (lL CX P w K mg base N qual scope f cdv A outer s H E) body t/\t {nx:=fun _ H'=>Q .aC H',rt:=Q} (start N vs) H) :
  dZ P w K mg base CX (k+1) f (PySem.W.fnOf name qual params body scope dV kV doc pm an cdv ct) ps sp:=by
 refine⟨len,fun A outer s H args us vs Q E hr e0 hb r uU=>?_⟩;have hl:=len _ _ _ _ uU;have KX:K.In s.heap:=e0.mod.J8.keeps fun b o e=>(e0.bs b o e).1;have lim:s.heap.NoLimit:=e0.mod.nolimit.keeps fun b o e=>(e0.bs b o e).1;have hkind:∀ y∈ps.zip us,scope.names.lookup y.1=some .local\/(scope.names.lookup y.1=some .cell/\((cellsFrom (s.heap.objs.size+1) scope.names []).lookup y.1).isSome=true):=fun⟨n,v⟩ hy=>by
  rcases S.par n (Oq hy).1 with q|q
  ·exact .inl q
  ·exact .inr ⟨q,PySem.W.cellsFrom_some _ _ _ (.inl q)⟩
 refine codeAny_call_function hr.depth (KX _ _ lk) rfl S.co S.gen rfl (PySem.W.codeRec_of KX gJ) (hb _ _ _ _ ?_);refine wpAny_newFunctionEnv_cells S.kind hkind fun env he s1 x=>?_;subst he;refine⟨lim.keeps x.toInCall.keep,codeAny_func ?_⟩;obtain⟨t,ht,hq⟩:=hbody A outer s H vs Q E (hr.deeper _) uU;have I:Inv (lL CX P w K mg base N qual scope f cdv A outer s H E) [] (start N vs) H s1:=u0 S hr.hd e0 hl r x;refine Me (ht [] s1 (start N vs) H _ I hq) (fun fl s' hs=>?_) fun e s' hs=>hs;have fin:∀{σ':St} {H':Hp} {v:V} {u:Value},Inv (lL CX P w K mg base N qual scope f cdv A outer s H E) [] σ' H' s'->RelV v u->Q v H'->CE outer P w H s Q u s':=
  fun {σ' H' v u} J rv q=>⟨v,H',J.os,J.bare,J.base,J.aJ,rv,q⟩
 cases fl with
 |ret u =>
  obtain⟨v,σ',H',J,rv,q⟩:=hs;exact fin J rv q
 |next =>
  obtain⟨σ',H',J,q⟩:=hs;exact fin (v:=V.aC) (u:=Value.none) J rfl q
 |brk =>
  obtain⟨_,_,_,q⟩:=hs;exact False.elim q
 |cont =>
  obtain⟨_,_,_,q⟩:=hs;exact False.elim q
section
variable {X:Cx} {x:Str} {p pos:Pos} {e:Expr} {es:List Expr} {t:TA} {id T:String} {r:List V->Hp->VK->Prop}
noncomputable def Cu(r:List V->Hp->VK->Prop)(t:TA):TE:=fun σ H Q=>t σ H fun vs H1=>r vs H1 Q
theorem yx(hc:aQ X (.builtin id) r)(hg:Gl X x)(hm:X.mg x=none)(hv:bootBuiltins x=some (.builtin id))(ha:PA X (e::es) t)(hn:autoParam (x≠"__name__") ℜ1)(hdb:autoParam ((x ==("__debug__":Str))=false) ℜ1)
  (he:autoParam (starEach (e::es) X.env=(false,eval e X.env)::starEach es X.env) ℜ0) (hpl:autoParam ((backTo pos (starEach es X.env)).any (·.1)=false) ℜ0):PE X (.Call (.Name x p) (e::es) [] pos) (Cu r t):=by
 intro pins s σ H Q I h;refine Nj (eM I hg hm hv ?_ hn hdb);exact PyProof.Rows.callWith_builtin1 (bu (ha pos pins s σ H _ I h) fun us s1 ⟨vs,H1,I1,r1,q1⟩=>hc pins s1 σ H1 vs us Q I1 r1 q1) he hpl
theorem uL(hc:aQ X (.type T) r)(hg:Gl X x)(hm:X.mg x=none)(hv:bootBuiltins x=some (.type T))(ha:PA X (e::es) t)(hn:autoParam (x≠"__name__") ℜ1)(hdb:autoParam ((x ==("__debug__":Str))=false) ℜ1)
  (he:autoParam (starEach (e::es) X.env=(false,eval e X.env)::starEach es X.env) ℜ0) (hpl:autoParam ((backTo pos (starEach es X.env)).any (·.1)=false) ℜ0):PE X (.Call (.Name x p) (e::es) [] pos) (Cu r t):=by
 intro pins s σ H Q I h;refine Nj (eM I hg hm hv ?_ hn hdb);exact Mh (bu (ha pos pins s σ H _ I h) fun us s1 ⟨vs,H1,I1,r1,q1⟩=>hc pins s1 σ H1 vs us Q I1 r1 q1) he hpl
end
end L2
namespace HT
open PySem PyProof.Rows
section
variable {prog:Program} {w:World} {A:Around} {E:Value->Shared->Prop} {s:Shared}
theorem B4{t b:Addr}{vs ws:List Value}{Q:Value->Shared->Prop}(ht:IsTup s.heap t vs.toArray)(hb:IsTup s.heap b ws.toArray)(hv:vs≠[])
  (h1:ws=[]->Q (.ref t) s) (h2:ws≠[]->Q (.ref s.heap.objs.size) {s with heap:=s.heap.push {cls:=.type "tuple",data:=.seq (vs++ws).toArray}})
  (hsz:vs.length+ws.length<=sizeLine):wpAny (model prog w) A (binaryOp .Add (.ref t) (.ref b)) Q E s:=by
 obtain⟨⟨cls,dd,data,sl⟩,ho,hc,n,hd⟩:=id ht;obtain⟨⟨cls2,dd2,data2,sl2⟩,ho2,hc2,n2,hd2⟩:=id hb;simp only at hc hd hc2 hd2;subst hc hd hc2 hd2;have e:vs.toArray++ws.toArray=(vs++ws).toArray:=by simp
 by_cases hw:ws=[]
 ·exact concat_meets ⟨_,ho,rfl⟩ ⟨_,ho2,rfl⟩ noFill_tuple_add seq_tuple_add PySem.F.slot_tuple_add PySem.F.entry_tuple_add (PySem.F.args_tuple_add_2 _ _)
   (tuple_addW1 t b vs.toArray ws.toArray n n2 dd dd2 sl sl2 (by simpa using hv) (by simp[hw])) ⟨ho,ho2,h1 hw⟩
 ·refine concat_meets ⟨_,ho,rfl⟩ ⟨_,ho2,rfl⟩ noFill_tuple_add seq_tuple_add PySem.F.slot_tuple_add PySem.F.entry_tuple_add (PySem.F.args_tuple_add_2 _ _)
   (tuple_addW2 t b vs.toArray ws.toArray n n2 dd dd2 sl sl2 (by simpa using hv) (by simpa using hw) (by rw[List.size_toArray,List.size_toArray];exact hsz)) ⟨ho,ho2,?_⟩
  rw[e];exact h2 hw
noncomputable def bq(n d:Nat):Option Int->Nat
 |none=>d
 |some v=>if v<0 then (v+(n:Int)).toNat else min v.toNat n
theorem fO(n d:Nat):bq n d none=d:=rfl
theorem gP(n d k:Nat):bq n d (some (k:Int))=min k n:=by
 show (if (k:Int)<0 then ((k:Int)+(n:Int)).toNat else min (k:Int).toNat n)=min k n
 rw[if_neg (by lia),Int.toNat_natCast]
theorem pU(n d:Nat)(hd:d<=n)(o:Option Int):bq n d o<=n:=by
 cases o with
 |none=>exact hd
 |some v =>
  show (if v<0 then (v+(n:Int)).toNat else min v.toNat n)<=n
  by_cases hv:v<0
  ·rw[if_pos hv];lia
  ·rw[if_neg hv];exact Nat.min_le_right _ _
theorem se(v:Int)(n d:Nat):(if v<0 then max (v+(n:Int)) 0 else min v (n:Int))=((bq n d (some v):Nat):Int):=by
 show (if v<0 then max (v+(n:Int)) 0 else min v (n:Int))=(((if v<0 then (v+(n:Int)).toNat else min v.toNat n):Nat):Int)
 by_cases hv:v<0
 ·simp only[if_pos hv];lia
 ·simp only[if_neg hv];lia
theorem pd(lo hi:Option Int)(n:Nat):Builtin.Slice.sliceAdjust lo hi 1 (n:Int)=(((bq n 0 lo:Nat):Int),((bq n n hi:Nat):Int)):=by
 have h1:¬ ((1:Int)<0):=by lia
 unfold Builtin.Slice.sliceAdjust;simp only[h1,if_false];refine Prod.ext ?_ ?_
 ·cases lo with
  |none=>rfl
  |some v=>exact se v n 0
 ·cases hi with
  |none=>rfl
  |some v=>exact se v n n
theorem qy(i j:Nat):Builtin.Slice.slicePlaces (i:Int) (j:Int) 1=j-i:=by
 unfold Builtin.Slice.slicePlaces;have h1:(1:Int) > 0:=by lia
 simp only[h1,if_true,Int.ediv_one]
 split<;>lia
theorem jL{v:Value}{o:Option Int}{Q:Option Int->Shared->Prop}(p:IsPart v o)(h:Q o s):wpAny (model prog w) A (Builtin.Slice.slicePartIndex v) Q E s:=by
 cases p with
 |none=>exact slicePart_none h
 |int i t=>exact slicePart_int h
theorem eH{sl:Addr}{vl vu:Value}{lo hi:Option Int}{n:Nat}{Q:Int×Int×Nat->Shared->Prop}(hs:s.heap.IsSliceOf sl vl vu .none)(pl:IsPart vl lo)(pu:IsPart vu hi)
  (h:Q (((bq n 0 lo:Nat):Int),1,bq n n hi-bq n 0 lo) s):wpAny (model prog w) A (Builtin.Slice.sliceApplied (.ref sl) (pure (n:Int))) Q E s:=by
 obtain⟨os,hos,hcs,qK⟩:=id hs;unfold Builtin.Slice.sliceApplied Builtin.Slice.sliceFields;refine wpAny_bind (wpAny_bind (wpAny_field hos qK (x:=vl) rfl (wpAny_bind (wpAny_field hos qK (x:=vu) rfl (wpAny_bind (wpAny_field hos qK (x:=.none) rfl (wpAny_pure ?_)))))));refine wpAny_bind (slicePart_none ?_);show wpAny _ _ (if ((1:Int) == 0)=true then _ else _) _ _ s
 rw[if_neg (by decide)]
 refine wpAny_bind (jL pl (wpAny_bind (jL pu (wpAny_bind (wpAny_pure ?_)))));show wpAny _ _ (match Builtin.Slice.sliceAdjust lo hi 1 (n:Int) with | (lo,hi)=>pure (lo,(1:Int),Builtin.Slice.slicePlaces lo hi 1)) _ _ s
 rw[pd lo hi n];show wpAny _ _ (pure (((bq n 0 lo:Nat):Int),(1:Int),Builtin.Slice.slicePlaces ((bq n 0 lo:Nat):Int) ((bq n n hi:Nat):Int) 1)) _ _ s;rw[qy];exact wpAny_pure h
theorem xY(xs:Array Value)(i k:Nat):((List.range k).filterMap fun (m:Nat)=>xs[((i:Int)+(m:Int)*1).toNat]?).toArray=((xs.toList.drop i).take k).toArray:=by
 have e:(fun (m:Nat)=>xs[((i:Int)+(m:Int)*1).toNat]?)=fun m=>xs[i+m]?:=by
  funext m
  have:((i:Int)+(m:Int)*1).toNat=i+m:=by lia
  rw[this]
 rw[e];have:=pick_run xs i k;rw[List.filterMap_map] at this;have e2:((fun x=>xs[x]?) ∘ fun x=>i+x)=fun m=>xs[i+m]?:=rfl;rw[e2] at this;rw[this]
theorem gY{t sl:Addr}{items:Array Value}{vl vu:Value}{lo hi:Option Int}{Q:Value->Shared->Prop}(ht:IsTup s.heap t items)(hs:s.heap.IsSliceOf sl vl vu .none)(pl:IsPart vl lo)(pu:IsPart vu hi)
  (hw:¬ (bq items.size 0 lo=0/\bq items.size items.size hi=items.size))
  (h:Q (.ref s.heap.objs.size) {s with heap:=s.heap.push {cls:=.type "tuple",data:=.seq ((items.toList.drop (bq items.size 0 lo)).take (bq items.size items.size hi-bq items.size 0 lo)).toArray}})
  (hsz:items.size<=sizeLine):wpAny (model prog w) A (getItem (.ref t) (.ref sl)) Q E s:=by
 have htake:sizeOk (.seq ((items.toList.drop (bq items.size 0 lo)).take (bq items.size items.size hi-bq items.size 0 lo)).toArray):=by
  show ((items.toList.drop (bq items.size 0 lo)).take (bq items.size items.size hi-bq items.size 0 lo)).toArray.size<=sizeLine;rw[List.size_toArray,List.length_take,List.length_drop,Array.length_toList];exact Nat.le_trans (Nat.min_le_right _ _) (Nat.le_trans (Nat.sub_le _ _) hsz)
 have hj:bq items.size items.size hi<=items.size:=pU _ _ (Nat.le_refl _) hi;obtain⟨os,hos,hcs,qK⟩:=id hs;have hTs:s.TypeIs (.ref sl) "slice":=⟨os,hos,hcs⟩;unfold getItem
 try with_reducible refine wpAny_holding ?_
 first|refine wpAny_bind (wpAny_pure ?_)|skip
 refine wpAny_bind (wpAny_sequenceKey ht.typeIs (by decide) ?_)
 refine wpAny_bind (wpAny_callSpecial?_slot (name:=Str.ofString "__getitem__") ht.typeIs PyProof.Rows.slot_tuple_getitem
  (wpAny_call_entry PyProof.Rows.slot_tuple_getitem ht.typeIs entry_tuple_getitem ?_ (args_tuple_getitem _ _)))
 show wpAny _ _ (Builtin.Tuple.tupleItemsOf (.ref t) >>= _) _ _ s;refine wpAny_bind (tupleItemsOf_ ht ?_);refine wpAny_bind (wpAny_typeOf hTs ?_);rw[if_pos (by decide)]
 refine wpAny_bind (eH hs pl pu ?_);have hno:¬ ((((bq items.size 0 lo:Nat):Int) == 0 && (1:Int) == 1 && (bq items.size items.size hi-bq items.size 0 lo) == items.size)=true):=by
  intro q;rw[Bool.and_eq_true,Bool.and_eq_true] at q;have q1:((bq items.size 0 lo:Nat):Int)=0:=eq_of_beq q.1.1;have q2:bq items.size items.size hi-bq items.size 0 lo=items.size:=eq_of_beq q.2;exact hw ⟨by lia,by lia⟩
 show wpAny _ _ (if (((bq items.size 0 lo:Nat):Int) == 0 && (1:Int) == 1 && (bq items.size items.size hi-bq items.size 0 lo) == items.size)=true then _ else _) _ _ s
 rw[if_neg hno,xY]
 first
  |exact wpAny_bind (m:=Builtin.Tuple.tupleExact _) (wpAny_newObj_type (wpAny_pure ⟨_,rfl,wpAny_pure h⟩) htake)
  |exact wpAny_bind (m:=Builtin.Tuple.tupleExact _) (wpAny_newObj_type (wpAny_bind (wpAny_pure (wpAny_pure ⟨_,rfl,wpAny_pure h⟩))) htake)
  |exact wpAny_bind (wpAny_bind (m:=Builtin.Tuple.tupleExact _) (wpAny_newObj_type (wpAny_pure (wpAny_pure ⟨_,rfl,wpAny_pure h⟩)) htake))
  |exact wpAny_bind (wpAny_bind (m:=Builtin.Tuple.tupleExact _) (wpAny_newObj_type (wpAny_pure ⟨_,rfl,wpAny_pure h⟩) htake))
end
end HT
namespace L2
open PySem PySem.Spec PyProof.Rows
variable{r:V->Option Int->Option Int->Hp->VK->Prop}{xs:List V}{its its' us:List Value}{α:Type}{n:Nat}{pins:List (Addr×Obj)}{σ:St}{H:Hp}{s:Shared}{x y:V}{u:Value}{o:Option V}{P:Program}{w:World}{kvs:List (List Key×V)}{Q:Value->Shared->Prop}
abbrev TO:=St->Hp->(Option Int->Hp->Prop)->Prop
noncomputable def PO(X:Cx)(e:Option Expr)(t:TO):Prop:=
 ∀(pins:List (Addr×Obj)) (s:Shared) (σ:St) (H:Hp) (Q:Option Int->Hp->Prop),Inv X pins σ H s->t σ H Q ->
  wpAny (model X.prog X.w) X.A (evalPart e X.env) (fun u s'=>∃ o H',Inv X pins σ H' s'/\IsPart u o/\Q o H') X.xe s
noncomputable def rS:TO:=fun _ H Q=>Q none H
noncomputable def CL(t:TE):TO:=fun σ H Q=>t σ H fun x H1=>∃ i,x=.int i/\Q (some i) H1
theorem intsAre_of{ns:List Int}:∀{us:List Value},Vals (ns.map V.int) us->IntsAre us ns:=by
 induction ns with
 |nil=>intro us r;rw[Nu] at r;cases r;exact .nil
 |cons n ns ih =>
  intro us r;rw[L3] at r
  cases r with
  |cons r1 r2 =>
   obtain⟨t,e⟩:=r1;subst e;exact .cons n t (ih r2)
section
variable {X:Cx} {e:Expr} {te:TE} {lo hi:Option Expr} {tl th:TO} {pos p2:Pos}
theorem zB:PO X none rS:=by
 intro pins s σ H Q I h;rw[evalPart_none];exact Lh ⟨none,H,I,.none,h⟩
theorem zR(h:PE X e te):PO X (some e) (CL te):=by
 intro pins s σ H Q I hw;rw[evalPart_some];refine bu (h pins s σ H _ I hw) fun u s1 ⟨x,H1,I1,r1,q1⟩=>?_;obtain⟨i,rfl,q⟩:=q1;obtain⟨t,rfl⟩:=r1;exact⟨some i,H1,I1,.int i t,q⟩
noncomputable def vo(X:Cx)(r:V->Option Int->Option Int->Hp->VK->Prop):Prop:=
 ∀(pins:List (Addr×Obj)) (s:Shared) (σ:St) (H:Hp) (x:V) (v vl vu:Value) (lo hi:Option Int) (sl:Addr) (Q:VK),Inv X pins σ H s->RelV x v->s.heap.IsSliceOf sl vl vu .none->IsPart vl lo->IsPart vu hi->r x lo hi H Q ->
  ∃ T id,typeLookup (.type T) "__getitem__"=pure (some (.builtin id))/\s.TypeIs v T/\wpAny (model X.prog X.w) X.A (getItem v (.ref sl)) (EP X pins σ Q) X.xe s
theorem vo.or{r':V->Option Int->Option Int->Hp->VK->Prop}(h:vo X r)(h':vo X r'):vo X (fun x lo hi H Q=>r x lo hi H Q\/r' x lo hi H Q):=by
 intro pins s σ H x v vl vu lo hi sl Q I rx hs pl pu q;rcases q with q|q
 ·exact h pins s σ H x v vl vu lo hi sl Q I rx hs pl pu q
 ·exact h' pins s σ H x v vl vu lo hi sl Q I rx hs pl pu q
noncomputable def Km(r:V->Option Int->Option Int->Hp->VK->Prop)(te:TE)(tl th:TO):TE:=fun σ H Q=>te σ H fun x H1=>tl σ H1 fun l H2=>th σ H2 fun u H3=>r x l u H3 Q
theorem yB(hr:vo X r)(he:PE X e te)(hl:PO X lo tl)(hu:PO X hi th):PE X (.Subscript e (.Slice lo hi none p2) pos) (Km r te tl th):=by
 intro pins s σ H Q I h;refine Subscript_ (bu (he pins s σ H _ I h) fun v s1 ⟨x,H1,I1,r1,q1⟩=>?_);refine wpAny_Slice (bu (hl pins s1 σ H1 _ I1 q1) fun vl s2 ⟨l,H2,I2,pl,q2⟩=>bu (hu pins s2 σ H2 _ I2 q2) fun vu s3 ⟨u,H3,I3,pu,q3⟩=>?_);rw[evalPart_none];refine Lh ?_;have I4:Inv X pins σ H3 {s3 with heap:=s3.heap.push {cls:=.type "slice",data:=.fields #[vl,vu,.none]}}:=I3.kept (t':=s3.toks) fun b ob q=>La _ q
 obtain⟨T,id,hT,ht,hg⟩:=hr pins {s3 with heap:=s3.heap.push {cls:=.type "slice",data:=.fields #[vl,vu,.none]}} σ H3 x v vl vu l u s3.heap.objs.size Q I4 r1 (Heap.IsSliceOf.new ..) pl pu q3
 show wpAny (model X.prog X.w) X.A (subscriptTail e (.Slice lo hi none p2) v (.ref s3.heap.objs.size)) (EP X pins σ Q) X.xe {s3 with heap:=s3.heap.push {cls:=.type "slice",data:=.fields #[vl,vu,.none]}}
 exact tail_any (ops:=[.ref s3.heap.objs.size,v]) ht hT hg (by with_unfolding_all rfl)
noncomputable def lO(xs:List V)(lo hi:Option Int):List V:=(xs.drop (HT.bq xs.length 0 lo)).take (HT.bq xs.length xs.length hi-HT.bq xs.length 0 lo)
theorem iI(xs:List V)(lo hi:Option Int):(lO xs lo hi).length<=xs.length:=by
 unfold lO;rw[L7,LS];exact Lk (Nat.min_le_right _ _) (Nat.sub_le _ _)
noncomputable def AI(K:Qf):V->Option Int->Option Int->Hp->VK->Prop:=fun x lo hi H Q=>∃ a xs,x=.ref a/\bL K H a xs /\
 ¬ (HT.bq xs.length 0 lo=0/\HT.bq xs.length xs.length hi=xs.length)/\∀ p,H p=none->Q (.ref p) (upd H p (.tup (lO xs lo hi)))
theorem Fd:vo X (AI X.K):=by
 intro pins s σ H x v vl vu lo hi sl Q I rx hs pl pu h;obtain⟨a,xs,rfl,hx,hw,q⟩:=h;cases rx;obtain⟨its,r,ht,hz⟩:=I.tuple hx;have hlen:its.toArray.size=xs.length:=by rw[Ld];exact r.length.symm
 refine⟨"tuple",_,M0.lookup,ht.typeIs,?_⟩;refine HT.gY ht hs pl pu (by rw[hlen];exact hw) ?_ (by rw[hlen];exact hz)
 rw[hlen];refine⟨.ref s.heap.objs.size,_,I.laid (t':=s.toks) (o:=.tup (lO xs lo hi)) (fun b ob q=>La _ q) (Lj _) ?_,rfl,q _ (I.aJ.fresh (Lj _))⟩;exact⟨Lk (iI xs lo hi) hz,_,(r.drop (HT.bq xs.length 0 lo)).take (HT.bq xs.length xs.length hi-HT.bq xs.length 0 lo),cU.new _ _⟩
noncomputable def Hd(K:Qf):R2:=fun x y H Q=>∃ a b xs ys,x=.ref a/\y=.ref b/\bL K H a xs/\bL K H b ys/\xs≠[]/\xs.length+ys.length<=sizeLine /\
 (ys=[]->Q (.ref a) H)/\(ys≠[]->∀ p,H p=none->Q (.ref p) (upd H p (.tup (xs++ys))))
theorem Vals.lR(r:Vals xs us):us=[] ↔ xs=[]:=by
 cases r with
 |nil=>simp
 |cons _ _=>simp
theorem zU:cE X (binaryOp .Add) (Hd X.K):=by
 intro pins s σ H x y v u Q I rx ry h;obtain⟨a,b,xs,ys,rfl,rfl,ha,hb,hx,hz,q1,q2⟩:=h;cases rx;cases ry;obtain⟨its,r1,p1,_⟩:=I.tuple ha;obtain⟨its2,r2,p2,_⟩:=I.tuple hb;refine HT.B4 p1 p2 (fun z=>hx (r1.lR.mp z)) (fun z=>⟨.ref a,H,I,rfl,q1 (r2.lR.mp z)⟩) (fun z=>?_) (by rw[<- r1.length,<- r2.length];exact hz)
 refine⟨.ref s.heap.objs.size,_,I.laid (t':=s.toks) (o:=.tup (xs++ys)) (fun b ob q=>La _ q) (Lj _) ?_,rfl,q2 (fun w=>z (r2.lR.mpr w)) _ (I.aJ.fresh (Lj _))⟩;exact⟨by rw[KY];exact hz,_,r1.append r2,cU.new _ _⟩
end
noncomputable def ie(n:Nat)(i:Int):Option Nat:=if 0<=i then (if i<n then some i.toNat else none) else if -(n:Int)<=i then some (i+n).toNat else none
noncomputable def aY(xs:List α)(i:Int):Option α:=(ie xs.length i).bind fun j=>xs[j]?
theorem su{i:Int}{j:Nat}(h:ie n i=some j):seqIndex? i n=some j/\j<n/\-(n:Int)<=i/\i<n:=by
 unfold ie at h;by_cases h0:0<=i
 ·rw[Li h0] at h;by_cases h1:i<n
  ·rw[Li h1] at h;have e:i.toNat=j:=Option.some.inj h;exact⟨by rw[seqIndex_of h0 h1,e],by lia,by lia,h1⟩
  ·rw[Lc h1] at h;cases h
 ·rw[Lc h0] at h;by_cases h1:-(n:Int)<=i
  ·rw[Li h1] at h;have e:(i+n).toNat=j:=Option.some.inj h;exact⟨by rw[Qa (by lia) h1,e],by lia,h1,by lia⟩
  ·rw[Lc h1] at h;cases h
theorem m3{xs:List α}{i:Int}{v:α}(h:aY xs i=some v):∃ j,seqIndex? i xs.length=some j/\xs[j]?=some v/\j<xs.length/\-(xs.length:Int)<=i/\i<xs.length:=by
 unfold aY at h
 cases e:ie xs.length i with
 |none=>rw[e] at h;cases h
 |some j =>
  rw[e] at h;obtain⟨h1,h2,h3,h4⟩:=su e;exact⟨j,h1,h,h2,h3,h4⟩
theorem aW{xs:List α}{j:Nat}{v:α}(h:xs[j]?=some v):aY xs (j:Int)=some v:=by
 have hj:j<xs.length:=(Ll.mp h).1;have e:ie xs.length (j:Int)=some j:=by
  unfold ie;rw[Li (by lia),Li (by lia)];simp
 unfold aY;rw[e];exact h
noncomputable def sg(b:Expr):Prop:=∀ o i,subscripted b false o i=operate [o,i] (getItem o i)
noncomputable def uW(X:Cx)(r:R2):Prop:=
 ∀(value slice:Expr) (pins:List (Addr×Obj)) (s:Shared) (σ:St) (H:Hp) (x y:V) (v u:Value) (Q:VK),Inv X pins σ H s->RelV x v->RelV y u->r x y H Q ->
  subscripted slice false v u=operate [v,u] (getItem v u)->wpAny (model X.prog X.w) X.A (subscriptTail value slice v u) (EP X pins σ Q) X.xe s
noncomputable def vt(X:Cx)(id:String)(r:V->List V->Hp->VK->Prop):Prop:=
 ∀(pins:List (Addr×Obj)) (s:Shared) (σ:St) (H:Hp) (x:V) (xs:List V) (v:Value) (us:List Value) (Q:VK),Inv X pins σ H s->RelV x v->Vals xs us->r x xs H Q ->
  wpAny (model X.prog X.w) X.A (call (.builtin id) (v::us)) (EP X pins σ Q) X.xe s
section
variable {X:Cx} {a b:Expr} {ta tb:TE} {pos:Pos}
theorem uW.or{r r':R2}(h:uW X r)(h':uW X r'):uW X (fun x y H Q=>r x y H Q\/r' x y H Q):=by
 intro value slice pins s σ H x y v u Q I rx ry q hs;rcases q with q|q
 ·exact h value slice pins s σ H x y v u Q I rx ry q hs
 ·exact h' value slice pins s σ H x y v u Q I rx ry q hs
theorem BX{r:R2}(hr:uW X r)(ha:PE X a ta)(hb:PE X b tb)(hs:sg b):PE X (.Subscript a b pos) (Br r ta tb):=by
 intro pins s σ H Q I h;exact Subscript_ (Dy ha hb I h fun v u s2 x y H2 I2 rx ry q=>hr a b pins s2 σ H2 x y v u Q I2 rx ry q (hs _ _))
noncomputable def FX(K:Qf):R2:=fun x y H Q=>∃ p xs i v,x=.ref p/\y=.int i/\bH K H p xs/\aY xs i=some v/\Q v H
noncomputable def Hr(K:Qf):R2:=fun x y H Q=>∃ p xs i v,x=.ref p/\y=.int i/\bL K H p xs/\aY xs i=some v/\Q v H
noncomputable def G0:R2:=fun x y H Q=>∃ z i c,x=.str z/\y=.int i/\z.length<=sizeLine/\aY z.cps.toList i=some c/\Q (.str ⟨#[c]⟩) H
theorem s_:uW X (FX X.K):=by
 intro value slice pins s σ H x y v u Q I rx ry h hs;obtain⟨p,xs,i,z,rfl,rfl,hq,he,q⟩:=h;cases rx;obtain⟨t,rfl⟩:=ry;obtain⟨its,r,pl,hz⟩:=I.list hq;obtain⟨j,h1,h2,h3,h4,h5⟩:=m3 he;obtain⟨w,ew,rw'⟩:=r.get h2;have hl:=r.length;have hn:=gA;have fin:EP X pins σ Q w s:=⟨z,H,I,rw',q⟩;by_cases h0:0<=i
 ·have hj:i.toNat=j:=by
   rw[seqIndex_of h0 h5] at h1;exact Option.some.inj h1
  exact item_listR pl.isList h0 (by lia) (by rw[hj];simpa using ew) fin hs
 ·have hj:(i+(its.toArray.size:Int)).toNat=j:=by
   rw[Qa (by lia) h4] at h1
   rw[Ld,<- hl];exact Option.some.inj h1
  exact subscriptTail_builtinR (x:=w) pl.isList.typeIs slot_list_getitem.lookup
   (wpAny_getItem_list_neg (Q:=fun r s'=>r=w/\EP X pins σ Q r s') pl.isList (by lia) (by rw[Ld]<;>lia) (by lia) (by rw[hj];simpa using ew) ⟨rfl,fin⟩) hs
theorem xT:uW X (Hr X.K):=by
 intro value slice pins s σ H x y v u Q I rx ry h hs;obtain⟨p,xs,i,z,rfl,rfl,hq,he,q⟩:=h;cases rx;obtain⟨t,rfl⟩:=ry;obtain⟨its,r,pl,hz⟩:=I.tuple hq;obtain⟨j,h1,h2,h3,h4,h5⟩:=m3 he;obtain⟨w,ew,rw'⟩:=r.get h2;have hl:=r.length;have hn:=gA;have fin:EP X pins σ Q w s:=⟨z,H,I,rw',q⟩;exact subscriptTail_builtinR (x:=w) pl.typeIs slot_tuple_getitem.lookup
  (getItem_tuple (j:=j) (Q:=fun r s'=>r=w/\EP X pins σ Q r s') pl (by lia) (by lia) (by rw[Ld,<- hl];exact h1) (by simpa using ew) ⟨rfl,fin⟩) hs
theorem CY:uW X G0:=by
 intro value slice pins s σ H x y v u Q I rx ry h hs;obtain⟨z,i,c,rfl,rfl,hz,he,q⟩:=h;obtain⟨t,rfl⟩:=rx;obtain⟨t',rfl⟩:=ry;obtain⟨j,h1,h2,h3,h4,h5⟩:=m3 he;have hl:z.cps.toList.length=z.length:=by simp[Str.length]
 rw[hl] at h1 h4 h5;have hn:=gA;exact tail_any (PM s z t) slot_str_getitem.lookup (getItem_str (c:=c) (by
  have e1:decide (i < -(2^63:Int))=false:=Lu (by lia)
  have e2:decide (i >= 2^63)=false:=Lu (by lia)
  rw[e1,e2,Bool.or_false]) (by rw[h1];simpa using h2) ⟨.str ⟨#[c]⟩,H,I.tok _,⟨_,rfl⟩,q⟩) hs
noncomputable def Iy(K:Qf):R2:=fun x y H Q=>FX K x y H Q\/Hr K x y H Q\/G0 x y H Q
theorem D5:uW X (Iy X.K):=s_.or (xT.or CY)
theorem pZ(its:List Value)(n j:Nat)(u:Value):Obj.mapSeq (·.setIfInBounds j u) {cls:=.type "list",data:=.seq its.toArray n}={cls:=.type "list",data:=.seq (its.set j u).toArray n}:=by
 simp[Obj.mapSeq]
theorem Inv.lst{p:Addr}(I:Inv X pins σ H s)(h:H p=some (.lst xs)):
  ∃(its:List Value) (n:Nat),Vals xs its/\s.heap.get? p=some {cls:=.type "list",data:=.seq its.toArray n}/\xs.length<=sizeLine:=by
 obtain⟨z,its,n,r,e⟩:=I.aJ p _ h;exact⟨its,n,r,e,z⟩
theorem Inv.Df{p:Addr}{ys:List V}{n':Nat}{f:Obj->Obj}(I:Inv X pins σ H s)(h:H p=some (.lst xs))
  (ho:s.heap.get? p=some {cls:=.type "list",data:=.seq its.toArray n}) (hf:f {cls:=.type "list",data:=.seq its.toArray n}={cls:=.type "list",data:=.seq its'.toArray n'}) (r:Vals ys its') (hz:ys.length<=sizeLine) (t:Nat) :
  Inv X pins σ (upd H p (.lst ys)) {s with heap:=s.heap.update p f,toks:=t}:=by
 have e:(s.heap.update p f).get? p=some {cls:=.type "list",data:=.seq its'.toArray n'}:=by
  rw[Nv f ho (by rw[hf]<;>rfl),hf]
 refine I.write (x:=p) (e:=p) (by rw[h];trivial) (.inl rfl) (fun b u hb q=>(NX _ _ (Ne.symm hb)).trans q) ⟨_,e⟩ ?_
 exact⟨hz,its',n',r,e⟩
noncomputable def HI:V->V->V->Hp->(Hp->Prop)->Prop:=fun o i v H Q=>∃ p xs k j,o=.ref p/\i=.int k/\H p=some (.lst xs)/\ie xs.length k=some j/\Q (upd H p (.lst (xs.set j v)))
theorem set_list:AH X HI:=by
 intro pins s σ H o i v ov iv u Q I ro ri rv h;obtain⟨p,xs,k,j,rfl,rfl,hp,hj,q⟩:=h;cases ro;obtain⟨t,rfl⟩:=ri;obtain⟨its,n,r,ho,hz⟩:=I.lst hp;obtain⟨h1,h2,h3,h4⟩:=su hj;have hl:=r.length;have hn:=gA;have I':Inv X pins σ (upd H p (.lst (xs.set j v))) {s with heap:=s.heap.update p (Obj.mapSeq (·.setIfInBounds j u))}:=
  I.Df hp ho (pZ its n j u) (r.set rv j) (by rw[LV];exact hz) s.toks
 by_cases h0:0<=k
 ·have hk:k.toNat=j:=by
   rw[seqIndex_of h0 h4] at h1;exact Option.some.inj h1
  exact PySem.W.ki_setAt ho h0 (by lia) (by rw[Ld,<- hl];exact h4) (by rw[hk];exact⟨_,I',q⟩)
 ·have hk:(k+(its.toArray.size:Int)).toNat=j:=by
   rw[Qa (by lia) h3] at h1
   rw[Ld,<- hl];exact Option.some.inj h1
  exact PySem.W.ki_setBack ho (by lia) (by rw[Ld,<- hl];exact h3) (by lia) (by rw[hk];exact⟨_,I',q⟩)
theorem ma(lo hi:Option Int)(n:Nat):(sliceBounds lo hi none n).1=((HT.bq n 0 lo:Nat):Int)/\(sliceBounds lo hi none n).2.1=((HT.bq n n hi:Nat):Int)/\(sliceBounds lo hi none n).2.2=1:=by
 refine⟨?_,?_,rfl⟩
 ·cases lo with
  |none=>simp[sliceBounds,HT.bq]
  |some i =>
   simp only[sliceBounds,HT.bq,Option.getD_none,show (1:Int) > 0 by decide,MV]
   by_cases h:i<0
   ·simp only[h,MV]<;>lia
   ·simp only[h,M7]<;>lia
 ·cases hi with
  |none=>simp[sliceBounds,HT.bq]
  |some i =>
   simp only[sliceBounds,HT.bq,Option.getD_none,show (1:Int) > 0 by decide,MV]
   by_cases h:i<0
   ·simp only[h,MV]<;>lia
   ·simp only[h,M7]<;>lia
theorem km(its:List Value)(lo hi:Option Int):slicePick its.toArray lo hi none=((its.drop (HT.bq its.length 0 lo)).take (HT.bq its.length its.length hi-HT.bq its.length 0 lo)).toArray:=by
 obtain⟨h1,h2,h3⟩:=ma lo hi its.toArray.size;unfold slicePick;rw[h1,h2,h3];simp only[sliceRange_one,pick_run,Ld]<;>rfl
noncomputable def Gb(K:Qf):V->Option Int->Option Int->Hp->VK->Prop:=fun x lo hi H Q=>∃ a xs,x=.ref a/\bH K H a xs/\∀ p,H p=none->Q (.ref p) (upd H p (.lst (lO xs lo hi)))
theorem AK:vo X (Gb X.K):=by
 intro pins s σ H x v vl vu lo hi sl Q I rx hs pl pu h;obtain⟨a,xs,rfl,hx,q⟩:=h;cases rx;obtain⟨its,r,ht,hz⟩:=I.list hx;have hlen:=r.length;refine⟨"list",_,slot_list_getitem.lookup,ht.isList.typeIs,?_⟩;refine wpAny_getItem_list_slice ht.isList hs pl pu .none (by simp) ?_ (by rw[Ld]<;>lia)
 rw[km,<- hlen];refine⟨.ref s.heap.objs.size,_,I.laid (t':=s.toks) (o:=.lst (lO xs lo hi)) (fun b ob q=>La _ q) (Lj _) ?_,rfl,q _ (I.aJ.fresh (Lj _))⟩;exact⟨Lk (iI xs lo hi) hz,_,0,(r.drop (HT.bq xs.length 0 lo)).take (HT.bq xs.length xs.length hi-HT.bq xs.length 0 lo),Lq _ rfl⟩
noncomputable def dF:V->Bool
 |.aC=>true
 |.bl _=>true
 |.int _=>true
 |.str _=>true
 |_=>false
noncomputable def vb:V->V->Bool
 |.aC,.aC=>true
 |.bl a,.bl b=>a == b
 |.bl a,.int b=>(if a then 1 else 0) == b
 |.int a,.bl b=>a ==(if b then 1 else 0)
 |.int a,.int b=>a == b
 |.str a,.str b=>a == b
 |_,_=>false
theorem pq{A:Around}{v:Value}(ry:RelV y u)(rx:RelV x v)(fy:dF y=true)(fx:dF x=true):SeqAt.EqAt A s u v (vb y x):=by
 cases y with
 |aC =>
  cases ry
  cases x with
  |aC=>cases rx;exact SeqAt.EqAt.same _
  |bl b=>cases rx;exact SeqAt.EqAt.none_bool b
  |int b=>obtain⟨t,rfl⟩:=rx;exact SeqAt.EqAt.none_int b t
  |str b=>obtain⟨t,rfl⟩:=rx;exact SeqAt.EqAt.none_str b t
  |_=>exact absurd (show false=true from fx) Lg
 |bl a =>
  cases ry
  cases x with
  |aC=>cases rx;exact SeqAt.EqAt.bool_none a
  |bl b=>cases rx;exact SeqAt.EqAt.bool_bool a b
  |int b=>obtain⟨t,rfl⟩:=rx;exact SeqAt.EqAt.bool_int a b t
  |str b=>obtain⟨t,rfl⟩:=rx;exact SeqAt.EqAt.bool_str a b t
  |_=>exact absurd (show false=true from fx) Lg
 |int a =>
  obtain⟨t',rfl⟩:=ry
  cases x with
  |aC=>cases rx;exact SeqAt.EqAt.int_none a t'
  |bl b=>cases rx;exact SeqAt.EqAt.int_bool a t' b
  |int b=>obtain⟨t,rfl⟩:=rx;exact SeqAt.EqAt.int_int a t' b t
  |str b=>obtain⟨t,rfl⟩:=rx;exact SeqAt.EqAt.int_str a t' b t
  |_=>exact absurd (show false=true from fx) Lg
 |str a =>
  obtain⟨t',rfl⟩:=ry
  cases x with
  |aC=>cases rx;exact SeqAt.EqAt.str_none a t'
  |bl b=>cases rx;exact SeqAt.EqAt.str_bool a t' b
  |int b=>obtain⟨t,rfl⟩:=rx;exact SeqAt.EqAt.str_int a t' b t
  |str b=>obtain⟨t,rfl⟩:=rx;exact SeqAt.EqAt.str_str a t' b t
  |_=>exact absurd (show false=true from fx) Lg
 |_=>exact absurd (show false=true from fy) Lg
noncomputable def B9(x:V)(u:Value):Bool:=match u with
 |.none=>vb .aC x
 |.bool b=>vb (.bl b) x
 |.int i _=>vb (.int i) x
 |.str z _=>vb (.str z) x
 |_=>false
theorem wN(r:RelV y u)(f:dF y=true):B9 x u=vb y x:=by
 cases y with
 |aC=>cases r;rfl
 |bl b=>cases r;rfl
 |int i=>obtain⟨t,rfl⟩:=r;rfl
 |str z=>obtain⟨t,rfl⟩:=r;rfl
 |_=>exact absurd (show false=true from f) Lg
theorem lV:∀{xs:List V} {us:List Value},Vals xs us->xs.all dF=true->us.any (B9 x)=xs.any fun y=>vb y x
 |_,_,.nil,_=>rfl
 |y::xs,u::us,.cons r t,f=>by
  rw[L_,LQ] at f;rw[Nh,Nh,wN r f.1,lV t f.2]
theorem jq{A:Around}{v:Value}(rx:RelV x v)(fx:dF x=true):∀{xs:List V} {us:List Value},Vals xs us->xs.all dF=true->∀ u∈us,SeqAt.EqAt A s u v (B9 x u)
 |_,_,.nil,_=>fun u hu=>by cases hu
 |y::xs,u::us,.cons r t,f=>fun u' hu=>by
  rw[L_,LQ] at f;rcases Le.mp hu with rfl|hu
  ·rw[wN r f.1];exact pq r rx f.1 fx
  ·exact jq rx fx t f.2 u' hu
noncomputable def Ii(x:V)(xs:List V):Bool:=xs.any fun y=>vb y x
noncomputable def Ku(K:Qf)(neg:Bool):R2:=fun x y H Q=>∃ p xs,y=.ref p/\(bH K H p xs\/bL K H p xs)/\dF x=true/\xs.all dF=true/\Q (.bl (if neg then !Ii x xs else Ii x xs)) H
theorem u9:cE X (compareOp .In) (Ku X.K false):=by
 intro pins s σ H x y v u Q I rx ry h;obtain⟨p,xs,rfl,hq,fx,fs,q⟩:=h;cases ry;rcases hq with hq|hq
 ·obtain⟨its,r,pl,hz⟩:=I.list hq;refine SeqAt.in_listAt (B9 x) pl.isList (fun w hw=>jq rx fx r fs w (by simpa using hw)) ⟨.bl _,H,I,rfl,?_⟩
  rw[show its.toArray.any (B9 x)=its.any (B9 x) by simp,lV r fs]
  exact q
 ·obtain⟨its,r,pl,hz⟩:=I.tuple hq;refine SeqAt.in_tupleAt (B9 x) pl (fun w hw=>jq rx fx r fs w (by simpa using hw)) ⟨.bl _,H,I,rfl,?_⟩
  rw[show its.toArray.any (B9 x)=its.any (B9 x) by simp,lV r fs]
  exact q
theorem gO:aQ X (.builtin "len") (fun xs H Q=>∃ p ys,xs=[.ref p]/\(bH X.K H p ys\/bL X.K H p ys)/\Q (.int ys.length) H):=by
 intro pins s σ H xs us Q I r h;obtain⟨p,ys,rfl,hq,q⟩:=h;obtain⟨u,rfl,rx⟩:=vals1 r;cases rx;have hn:=gA;rcases hq with hq|hq
 ·obtain⟨its,r',pl,hz⟩:=I.list hq;have hlen:=r'.length;exact Calls.call_len_list pl.isList (by simp only[Ld]<;>lia) ⟨.int ys.length,H,I.tok _,⟨s.toks+1,by rw[Ld,hlen]⟩,q⟩
 ·obtain⟨its,r',pl,hz⟩:=I.tuple hq;have hlen:=r'.length;exact len_tuple pl (by simp only[Ld]<;>lia) ⟨.int ys.length,H,I.tok _,⟨s.toks+1,by rw[Ld,hlen]⟩,q⟩
theorem lS:aQ X (.builtin "len") (fun xs H Q=>∃ z,xs=[.str z]/\z.length<=sizeLine/\Q (.int z.length) H):=by
 intro pins s σ H xs us Q I r h;obtain⟨z,rfl,hz,q⟩:=h;obtain⟨u,rfl,t,rfl⟩:=vals1 r;have hn:=gA;exact len_str (by lia) ⟨.int z.length,H,I.tok _,⟨_,rfl⟩,q⟩
theorem aQ.or{f:Value}{r r':List V->Hp->VK->Prop}(h:aQ X f r)(h':aQ X f r'):aQ X f (fun xs H Q=>r xs H Q\/r' xs H Q):=by
 intro pins s σ H xs us Q I rs q;rcases q with q|q
 ·exact h pins s σ H xs us Q I rs q
 ·exact h' pins s σ H xs us Q I rs q
theorem mx:aQ X (.type "list") (fun xs H Q=>∃ p ys,xs=[.ref p]/\(bH X.K H p ys\/bL X.K H p ys)/\∀ l,H l=none->Q (.ref l) (upd H l (.lst ys))):=by
 intro pins s σ H xs us Q I r h;obtain⟨p,ys,rfl,hq,q⟩:=h;obtain⟨u,rfl,rx⟩:=vals1 r;cases rx;have fin:∀(its:List Value),Vals ys its->ys.length<=sizeLine->∀(h':Heap) (c':Nat),(∀ b o',s.heap.get? b=some o'->h'.get? b=some o') ->
   h'.get? s.heap.objs.size=some {cls:=.type "list",dict:=none,data:=.seq its.toArray c',slots:=#[]}->EP X pins σ Q (.ref s.heap.objs.size) {s with heap:=h'}:=fun its r' hz h' c' kp e =>
  ⟨.ref s.heap.objs.size,_,I.laid (t':=s.toks) kp (Lj _) (show aP X.prog X.w _ h' _ (.lst ys) from⟨hz,its,c',r',e⟩),rfl,q _ (I.aJ.fresh (Lj _))⟩
 rcases hq with hq|hq
 ·obtain⟨its,r',pl,hz⟩:=I.list hq;have hlen:=r'.length;obtain⟨o,ho,hc,n,hd⟩:=pl.isList;exact call_list_seq p (.inl rfl) ho hc hd (fun h' c' kp e=>fin its r' hz h' c' kp e) (by simp only[Ld]<;>lia)
 ·obtain⟨its,r',pl,hz⟩:=I.tuple hq;have hlen:=r'.length;obtain⟨o,ho,hc,n,hd⟩:=pl;exact call_list_seq p (.inr rfl) ho hc hd (fun h' c' kp e=>fin its r' hz h' c' kp e) (by simp only[Ld]<;>lia)
theorem ke:aQ X (.type "tuple") (fun xs H Q=>∃ p ys,xs=[.ref p]/\((bH X.K H p ys/\∀ l,H l=none->Q (.ref l) (upd H l (.tup ys)))\/(bL X.K H p ys/\Q (.ref p) H))):=by
 intro pins s σ H xs us Q I r h;obtain⟨p,ys,rfl,h⟩:=h;obtain⟨u,rfl,rx⟩:=vals1 r;cases rx;rcases h with ⟨hq,q⟩|⟨hq,q⟩
 ·obtain⟨its,r',pl,hz⟩:=I.list hq;have hlen:=r'.length;refine call_tuple_list pl.isList (fun h' kp=>?_) (by simp only[Ld]<;>lia)
  have I1:Inv X pins σ H {s with heap:=h'}:=I.kept (t':=s.toks) kp
  have I2:Inv X pins σ (upd H h'.objs.size (.tup ys)) {s with heap:=h'.push {cls:=.type "tuple",data:=.seq its.toArray}}:=
   I1.laid (t':=s.toks) (fun b o e=>La _ e) (Lj _) (show aP X.prog X.w _ _ _ (.tup ys) from⟨hz,its,r',cU.new _ _⟩)
  exact⟨.ref h'.objs.size,_,I2,rfl,q _ (I1.aJ.fresh (Lj _))⟩
 ·obtain⟨its,r',pl,hz⟩:=I.tuple hq;exact call_tuple_same pl ⟨.ref p,H,I,rfl,q⟩
noncomputable def JJ(K:Qf)(T:String)(x:V)(H:Hp):Prop:=match x with
 |.str _=>T="str"
 |.int _=>T="int"
 |.ref p=>(T="list"/\∃ xs,bH K H p xs)\/(T="tuple"/\∃ o,K.lookup p=some o/\o.cls=.type "tuple"/\o.dict=none) \/
   (T="dict"/\((∃ kvs,H p=some (.dK kvs))\/∃ kvs,H p=some (.dT kvs)))\/(T="set"/\∃ S n,H p=some (.set S n))
 |_=>False
theorem xh{T:String}{v:Value}(I:Inv X pins σ H s)(r:RelV x v)(ty:JJ X.K T x H):
  s.TypeIs v T/\∀ a,v=.ref a->∃ ob,s.heap.get? a=some ob/\ob.dict=none:=by
 cases x with
 |str z =>
  obtain⟨t,rfl⟩:=r
  cases (show T="str" from ty)
  exact⟨PM s z t,fun _ e=>nomatch e⟩
 |int i =>
  obtain⟨t,rfl⟩:=r
  cases (show T="int" from ty)
  exact⟨Nk s i t,fun _ e=>nomatch e⟩
 |ref p =>
  cases r;rcases ty with ⟨rfl,xs,hq⟩|⟨rfl,o,hk,hc,hd⟩|⟨rfl,hk⟩|⟨rfl,S,n,hk⟩
  ·obtain⟨its,_,pl,_⟩:=I.list hq;refine⟨pl.isList.typeIs,fun a e=>?_⟩;cases e;obtain⟨o,n,e,c,hd,_⟩:=pl;exact⟨o,e,hd⟩
  ·refine⟨⟨o,I.ki p o hk,hc⟩,fun a e=>?_⟩;cases e;exact⟨o,I.ki _ o hk,hd⟩
  ·have z:∃ o,s.heap.get? p=some o/\o.ExactDict:=by
    rcases hk with ⟨kvs,hk⟩|⟨kvs,hk⟩
    ·obtain⟨_,_,_,_,o,_,_,e,ex,_⟩:=I.aJ p _ hk;exact⟨o,e,ex⟩
    ·obtain⟨_,_,_,_,o,_,_,e,ex,_⟩:=I.aJ p _ hk;exact⟨o,e,ex⟩
   obtain⟨o,e,ex⟩:=z;refine⟨⟨o,e,ex.1⟩,fun a e2=>?_⟩;cases e2;exact⟨o,e,ex.2.1⟩
  ·obtain⟨o,_,_,_,e,ex,_⟩:=I.aJ p _ hk;refine⟨⟨o,e,ex.1⟩,fun a e2=>?_⟩;cases e2;exact⟨o,e,ex.2.1⟩
 |_=>exact False.elim ty
noncomputable def Jm(K:Qf)(T:String)(r:V->List V->Hp->VK->Prop)(to:TE):TE:=fun σ H Q=>to σ H fun x H1=>JJ K T x H1/\r x [] H1 Q
noncomputable def JI(K:Qf)(T:String)(r:V->List V->Hp->VK->Prop)(to:TE)(t:TA):TE:=fun σ H Q=>to σ H fun x H1=>JJ K T x H1/\t σ H1 fun xs H2=>r x xs H2 Q
variable {o e:Expr} {es:List Expr} {to:TE} {t:TA} {name:Str} {apos cpos:Pos} {T id:String} {r:V->List V->Hp->VK->Prop}
theorem E4(pa:PlainAttrs T)(slot:Slot T name id)(hty:typeOf (.builtin id)=pure (.type "method_descriptor"))(hm:vt X id r)(ho:PE X o to)
  (hbase:autoParam (attributeBase o name X.env (eval o X.env)=eval o X.env) ℜ0) (hline:autoParam ((apos.endLine == cpos.line)=true) ℜ0):PE X (.Call (.Attribute o name apos) [] [] cpos) (Jm X.K T r to):=by
 intro pins s σ H Q I h;refine wpAny_Call_method0_late hbase hline (bu (ho pins s σ H _ I h) fun v s1 ⟨x,H1,I1,r1,ty,q1⟩=>?_);obtain⟨h1,h2⟩:=xh I1 r1 ty;exact⟨T,id,pa,slot,hty,h1,h2,Pz rfl (PySem.evalArgs_none (hm pins s1 σ H1 x [] v [] Q I1 r1 .nil q1))⟩
theorem Hx(pa:PlainAttrs T)(slot:Slot T name id)(hty:typeOf (.builtin id)=pure (.type "method_descriptor"))(hm:vt X id r)(ho:PE X o to)(ha:PA X (e::es) t)
  (hbase:autoParam (attributeBase o name X.env (eval o X.env)=eval o X.env) ℜ0)
  (hfew:autoParam (((backTo cpos (starEach (e::es) X.env)).all (fun x=>!x.1) && (backToKw cpos (keywordEach [] X.env)).all (fun x=>x.1.isSome)
   && decide ((e::es).length+([]:List Keyword).length+(if ([]:List Keyword).isEmpty then 0 else 1)<30))=true) ℜ0)
  (hline:autoParam ((apos.endLine == cpos.line)=true) ℜ0) (hs:autoParam (starEach (e::es) X.env=(false,eval e X.env)::starEach es X.env) ℜ0) (hplain:autoParam ((backTo cpos (starEach es X.env)).any (·.1)=false) ℜ0) :
  PE X (.Call (.Attribute o name apos) (e::es) [] cpos) (JI X.K T r to t):=by
 intro pins s σ H Q I h;refine wpAny_Call_method_late hbase hfew hline rfl (bu (ho pins s σ H _ I h) fun v s1 ⟨x,H1,I1,r1,ty,q1⟩=>?_);obtain⟨h1,h2⟩:=xh I1 r1 ty;refine⟨T,id,pa,slot,hty,h1,h2,?_⟩;have hA:=ha cpos pins s1 σ H1 _ I1 q1;rw[hs] at hA ⊢;refine Pz (by show (false || (backTo cpos (starEach es X.env)).any (·.1))=false;rw[hplain]<;>rfl) (Calls.evalArgs_plain ?_)
 exact bu hA fun us s2 ⟨vs,H2,I2,r2,q2⟩=>hm pins s2 σ H2 x vs v us Q I2 r1 r2 q2
/- xs.append(e),list.index on a module's tuple .. are vt facts of 06m -/
end
noncomputable def Ip(X:Cx)(id:String)(r:V->List V->Hp->VK->Prop):Prop:=
 ∀(pins:List (Addr×Obj)) (s:Shared) (σ:St) (H:Hp) (x:V) (xs:List V) (v:Value) (us:List Value) (Q:VK),Inv X pins σ H s->RelV x v->Vals xs us->r x xs H Q ->
  wpAny (model X.prog X.w) X.A (call (.builtin id) (v::us)) (EP X pins σ Q) X.xe s
theorem Vals.one:∀{x:V} {us:List Value},Vals [x] us->∃ u,us=[u]/\RelV x u
 |_,_,.cons r .nil=>⟨_,rfl,r⟩
theorem Vals.eraseIdx:∀{xs:List V} {us:List Value} (i:Nat),Vals xs us->Vals (xs.eraseIdx i) (us.eraseIdx i)
 |_,_,_,.nil=>.nil
 |_,_,0,.cons _ t=>t
 |_,_,i+1,.cons r t=>.cons r (Vals.eraseIdx i t)
theorem Vals.rep(h:Vals xs us):∀ k:Nat,Vals (List.replicate k xs).flatten (List.replicate k us).flatten
 |0=>.nil
 |k+1=>by
  rw[LN,LN,Mt,Mt];exact Vals.append h (Vals.rep h k)
theorem k_:∀(l:List α) (i:Nat),(l.eraseIdx i).length<=l.length
 |[],_=>Lj _
 |_::_,0=>MH _
 |_::r,i+1=>Nat.succ_le_succ (k_ r i)
theorem foldl_rep(its:List Value):∀(k:Nat) (acc:List Value),
  List.foldl (fun x1 x2=>x1++x2) acc.toArray (List.replicate k its.toArray)=(acc++(List.replicate k its).flatten).toArray
 |0,acc=>by simp
 |k+1,acc=>by
  have e:acc.toArray++its.toArray=(acc++its).toArray:=by simp
  have e2:(acc++its)++(List.replicate k its).flatten=acc++(List.replicate (k+1) its).flatten:=by
   rw[LN,Mt,Ls]
  rw[<- e2,<- foldl_rep its k (acc++its),<- e,LN,Ot]
section
variable {X:Cx} {pins:List (Addr×Obj)} {σ:St} {H:Hp} {s:Shared} {l b:Addr} {xs ys zs:List V}
theorem Inv.E1{f:Array Value->Array Value}{t':Nat}(I:Inv X pins σ H s)(hH:H l=some (.lst xs))
  (e:s.heap.get? l=some {cls:=.type "list",data:=.seq its.toArray n}) (hf:f its.toArray=its'.toArray) (hv:Vals ys its') (hz:ys.length<=sizeLine) :
  Inv X pins σ (upd H l (.lst ys)) {s with heap:=s.heap.update l (Obj.mapSeq f),toks:=t'}:=by
 have q:=PySem.IsL.update e f;rw[hf] at q;refine I.write (x:=l) (e:=l) (by rw[hH];exact trivial) (.inl rfl) (fun b' u hb hu=>(NX s.heap (Obj.mapSeq f) (Ne.symm hb)).trans hu) ⟨_,q⟩ ?_
 exact⟨hz,its',_,hv,q⟩
theorem Inv.CW{t':Nat}(I:Inv X pins σ H s)(hv:Vals ys its)(hz:ys.length<=sizeLine):
  Inv X pins σ (upd H s.heap.objs.size (.lst ys)) {s with heap:=s.heap.push {cls:=.type "list",data:=.seq its.toArray},toks:=t'}:=
 I.laid (fun _ _ q=>La _ q) (Lj _) ⟨hz,its,0,hv,Lq _ rfl⟩
theorem Inv.fresh(I:Inv X pins σ H s):H s.heap.objs.size=none:=I.aJ.fresh (Lj _)
theorem Inv.pR(I:Inv X pins σ H s)(hH:H l=some (.lst xs)):xs.length<=sizeLine/\∃(its:List Value) (n:Nat),Vals xs its/\xs.length=its.length/\s.heap.get? l=some {cls:=.type "list",data:=.seq its.toArray n}:=by
 obtain⟨z,its,n,r,e⟩:=I.aJ l _ hH;exact⟨z,its,n,r,r.length,e⟩
theorem yb(h:n<=sizeLine):Builtin.List.listTooLong n=false:=by
 unfold Builtin.List.listTooLong;exact Lu (by lia)
end
section
variable {X:Cx}
noncomputable def sQ:V->List V->Hp->VK->Prop:=fun x vs H Q=>∃ l xs y,x=.ref l/\vs=[y]/\H l=some (.lst xs)/\xs.length<sizeLine/\Q .aC (upd H l (.lst (xs++[y])))
theorem e9:Ip X "list.append" sQ:=by
 intro pins s σ H x vs v us Q I rx rv h;obtain⟨l,xs,y,rfl,rfl,hH,hz,q⟩:=h;cases rx;obtain⟨u,rfl,ru⟩:=rv.one;obtain⟨z,its,n,r,hl,e⟩:=I.pR hH;refine M8 F.slot_list_append ⟨_,e,rfl⟩ F.entry_list_append (F.args_list_append_2 _ _) (PySem.list_append l its.toArray n u (by rw[Ld];lia)) ⟨e,?_⟩
 refine⟨.aC,_,I.E1 (its':=its++[u]) hH e (by simp) (r.append (.cons ru .nil)) ?_,rfl,q⟩
 rw[KY,LD];lia
noncomputable def xZ:V->List V->Hp->VK->Prop:=fun x vs H Q=>∃ l xs i k y,x=.ref l/\vs=[.int i]/\H l=some (.lst xs)/\-(2^63)<=i/\i<2^63/\seqIndex? i xs.length=some k/\xs[k]?=some y/\Q y (upd H l (.lst (xs.eraseIdx k)))
theorem zo:Ip X "list.pop" xZ:=by
 intro pins s σ H x vs v us Q I rx rv h;obtain⟨l,xs,i,k,y,rfl,rfl,hH,h1,h2,hk,hy,q⟩:=h;cases rx;obtain⟨u,rfl,ru⟩:=rv.one;obtain⟨t,rfl⟩:=ru;obtain⟨z,its,n,r,hl,e⟩:=I.pR hH;obtain⟨w,hw,rw'⟩:=r.get hy;refine M8 F.slot_list_pop ⟨_,e,rfl⟩ F.entry_list_pop (F.args_list_pop_2 _ _)
  (MeetsSeq.list_pop_at l its.toArray n i t k w (P7 h1 h2) (by rw[Ld,<- hl];exact hk) (by rw[<- LF];exact hw) (by rw[Ld];lia)) ⟨e,?_⟩
 refine⟨y,_,I.E1 (its':=its.eraseIdx k) hH e ?_ (r.eraseIdx k) ?_,rw',q⟩
 ·show its.toArray.eraseIdxIfInBounds k=(its.eraseIdx k).toArray;rw[List.eraseIdxIfInBounds_toArray]
 ·have:=k_ xs k;lia
noncomputable def FT:R2:=fun x y H Q=>∃ l b xs zs,x=.ref l/\y=.ref b/\H l=some (.lst xs)/\H b=some (.lst zs)/\xs.length+zs.length<=sizeLine/\∀ p,H p=none->Q (.ref p) (upd H p (.lst (xs++zs)))
theorem EK:cE X (binaryOp .Add) FT:=by
 intro pins s σ H x y v u Q I rx ry h;obtain⟨l,b,xs,zs,rfl,rfl,hH,hB,hz,q⟩:=h;cases rx;cases ry;obtain⟨z,its,n,r,hl,e⟩:=I.pR hH;obtain⟨z2,its2,n2,r2,hl2,e2⟩:=I.pR hB;refine PySem.P.add_list e e2 ?_ (by rw[Ld,Ld];lia)
 have ea:its.toArray++its2.toArray=(its++its2).toArray:=by simp
 rw[ea];exact⟨.ref _,_,I.CW (t':=s.toks) (r.append r2) (by rw[KY];lia),rfl,q _ I.fresh⟩
noncomputable def FV:R2:=fun x y H Q=>∃ l k xs,x=.ref l/\y=.int k/\H l=some (.lst xs)/\-(2^63)<=k/\k<2^63/\xs.length*k.toNat<=sizeLine /\
 ∀ p,H p=none->Q (.ref p) (upd H p (.lst (List.replicate k.toNat xs).flatten))
theorem len_rep(xs:List α)(k:Nat):(List.replicate k xs).flatten.length=k*xs.length:=by
 induction k with
 |zero=>simp
 |succ k ih=>rw[LN,Mt,KY,ih,OY,Nat.add_comm]
theorem DD:cE X (binaryOp .Mult) FV:=by
 intro pins s σ H x y v u Q I rx ry h;obtain⟨l,k,xs,rfl,rfl,hH,h1,h2,hz,q⟩:=h;cases rx;obtain⟨t,rfl⟩:=ry;obtain⟨z,its,n,r,hl,e⟩:=I.pR hH;have hlen:its.toArray.size*k.toNat<=sizeLine:=by rw[Ld,<- hl];exact hz
 have hcap:¬ its.toArray.size*k.toNat >(2^63-1) / 8:=by
  have:(sizeLine:Nat)<=(2^63-1) / 8:=by decide
  lia
 have hfit:¬ (!Builtin.List.listFitsIndex k)=true:=by
  rw[P7 h1 h2];exact Lg
 have hlong:¬ Builtin.List.listTooLong (its.toArray.size*k.toNat)=true:=by
  rw[yb hlen];exact Lg
 have hnew:List.foldl (fun x1 x2=>x1++x2) #[] (List.replicate (if its.toArray.isEmpty=true then 0 else k.toNat) its.toArray)=(List.replicate k.toNat its).flatten.toArray:=by
  have f0:∀ m:Nat,List.foldl (fun x1 x2=>x1++x2) #[] (List.replicate m its.toArray)=(List.replicate m its).flatten.toArray:=fun m=>by
   have:=foldl_rep its m [];rw[Mg] at this;exact this
  rw[f0]
  cases its with
  |nil=>simp
  |cons a r'=>rw[Lc (by simp)]
 refine MR (T:="list") (U:="int") (by decide) ⟨_,e,rfl⟩ (fun s'=>Nk s' k t) noFill_list_mul F.fills_int_mul F.slot_int_rmul repeat_list F.slot_int_index.lookup
  (M8 F.slot_int_rmul (Nk s k t) F.entry_int_rmul (F.args_int_rmul_2 _ _) (int___rmul___int_list k t l its.toArray n)
   ⟨e,rfl,⟨_,e,rfl⟩,M8 F.slot_list_mul ⟨_,e,rfl⟩ F.entry_list_mul (F.args_list_mul_2 _ _) (AutoListH.list___mul___list_int_3 l its.toArray n k t hfit hcap hlong) ⟨e,?_⟩⟩)
 rw[hnew];exact⟨.ref _,_,I.CW (t':=s.toks) (r.rep k.toNat) (by rw[len_rep,Nat.mul_comm];exact hz),rfl,q _ I.fresh⟩
end
section
variable {κ:Type} [DecidableEq κ]
noncomputable def fq(kvs:List (κ×V))(k:κ):Option V:=(kvs.find? fun kv=>decide (kv.1=k)).map (·.2)
noncomputable def putK(kvs:List (κ×V))(k:κ)(v:V):List (κ×V):=
 if (kvs.any fun kv=>decide (kv.1=k))=true then kvs.map (fun kv=>if kv.1=k then (kv.1,v) else kv) else kvs++[(k,v)]
theorem hW{p:κ×V}{r:List (κ×V)}{k:κ}(e:p.1=k):fq (p::r) k=some p.2:=by simp[fq,Nl,e]
theorem fQ{p:κ×V}{r:List (κ×V)}{k:κ}(e:¬ p.1=k):fq (p::r) k=fq r k:=by simp[fq,Nl,e]
theorem jH(k:κ):∀ kvs:List (κ×V),(kvs.any fun kv=>decide (kv.1=k))=(fq kvs k).isSome
 |[]=>rfl
 |p::r=>by
  rw[Nh];by_cases e:p.1=k
  ·simp only[hW e,LG e,Bool.true_or,Option.isSome_some]
  ·rw[fQ e,Lu e,Bool.false_or];exact jH k r
theorem nW(kvs:List (κ×V))(k:κ)(v:V):(putK kvs k v).length<=kvs.length+1:=by
 unfold putK;split
 ·rw[Lb];lia
 ·rw[KY,Lf,LC];lia
theorem vH{kvs:List (κ×V)}{k:κ}(v:V)(h:fq kvs k=none):putK kvs k v=kvs++[(k,v)]:=by
 unfold putK;rw[jH,h];exact Lc (by decide)
theorem jN.lH{u:Option Value}(r:jN o u):o.isSome=u.isSome:=by
 cases o with
 |none=>cases u with
  |none=>rfl
  |some _=>exact (show False from r).elim
 |some _=>cases u with
  |none=>exact (show False from r).elim
  |some _=>rfl
theorem KV.val{kvs:List (κ×V)}{vs:List (κ×Value)}(r:KV kvs vs)(k:κ):jN (fq kvs k) (valueAt vs k):=by
 unfold KV at r
 induction r with
 |nil=>exact True.intro
 |@cons p q ps qs h t ih =>
  obtain⟨h1,h2⟩:=h;by_cases e:p.1=k
  ·have e':q.1=k:=h1.symm.trans e;have b:valueAt (q::qs) k=some q.2:=by simp[valueAt,Nl,e']
   rw[hW e,b];exact h2
  ·have e':¬ q.1=k:=fun z=>e (h1.trans z);have b:valueAt (q::qs) k=valueAt qs k:=by simp[valueAt,Nl,e']
   rw[fQ e,b];exact ih
theorem KV.any{kvs:List (κ×V)}{vs:List (κ×Value)}(r:KV kvs vs)(k:κ):(kvs.any fun kv=>decide (kv.1=k))=vs.any fun kv=>decide (kv.1=k):=by
 unfold KV at r
 induction r with
 |nil=>rfl
 |cons h t ih=>rw[Nh,Nh,ih,h.1]
theorem KV.Jt{kvs:List (κ×V)}{vs:List (κ×Value)}(r:KV kvs vs)(k:κ)(ry:RelV y u):
  KV (kvs.map fun kv=>if kv.1=k then (kv.1,y) else kv) (vs.map fun kv=>if kv.1=k then (kv.1,u) else kv):=by
 unfold KV at r ⊢
 induction r with
 |nil=>exact .nil
 |@cons p q ps qs h t ih =>
  rw[L3,L3];refine .cons ?_ ih;obtain⟨h1,h2⟩:=h;by_cases e:p.1=k
  ·rw[Li e,Li (h1.symm.trans e)];exact⟨h1,ry⟩
  ·rw[Lc e,Lc (fun z=>e (h1.trans z))];exact⟨h1,h2⟩
theorem KV.put{kvs:List (κ×V)}{vs:List (κ×Value)}(r:KV kvs vs)(k:κ)(ry:RelV y u):KV (putK kvs k y) (stored vs k u):=by
 unfold putK stored;rw[r.any k];by_cases e:(vs.any fun kv=>decide (kv.1=k))=true
 ·rw[Li e,Li e];exact r.Jt k ry
 ·rw[Lc e,Lc e];exact Paired.snoc r ⟨rfl,ry⟩
end
theorem sU{k:Key}(r:RelV (kV k) u):(bR P w).is k u=true:=by
 cases k with
 |inl i=>obtain⟨t,e⟩:=(show ∃ t,u=Value.int i t from r);subst e;exact nV P w i t
 |inr x=>obtain⟨t,e⟩:=(show ∃ t,u=Value.str x t from r);subst e;exact nU P w x t
theorem lg:∀{ks:List Key} {us:List Value},Vals (ks.map kV) us->ItemsAre (bR P w) ks us
 |[],_,r=>by rw[Nu] at r;cases r;exact .nil
 |k::ks,_,r=>by
  rw[L3] at r
  cases r with
  |cons h t=>exact .cons (sU h) (lg t)
abbrev KT(H:Hp):List (List Key×V)->List (List Key×Addr×Value)->Prop:=Paired fun p q=>p.1=q.1/\H q.2.1=some (.tup (p.1.map kV))/\RelV p.2 q.2.2
theorem KT.val{xs:List (List Key×Addr×Value)}(r:KT H kvs xs)(k:List Key):jN (fq kvs k) ((atKey xs k).map (·.2)):=by
 induction r with
 |nil=>exact True.intro
 |@cons p q ps qs h t ih =>
  obtain⟨h1,_,h2⟩:=h;by_cases e:p.1=k
  ·have e':q.1=k:=h1.symm.trans e;have b:atKey (q::qs) k=some q.2:=by simp[atKey,Nl,e']
   rw[hW e,b];exact h2
  ·have e':¬ q.1=k:=fun z=>e (h1.trans z);have b:atKey (q::qs) k=atKey qs k:=by simp[atKey,Nl,e']
   rw[fQ e,b];exact ih
section
variable {P:Program} {w:World} {H:Hp} {h:Heap} {a:Addr}
theorem Cr{u:HO}(ok:ij P w H h)(e:Rd H a u):aP P w H h a u:=e.ok ok
theorem vU{kvs:List (Key×V)}(ok:ij P w H h)(e:Rd H a (.dK kvs)):kvs.length<=sizeLine/\(a == sysModules)=false/\∃ vs,KV kvs vs/\h.DictOf (bR P w) a vs:=
 show aP P w H h a (.dK kvs) from Cr ok e
theorem qP{ks:List Key}(ok:ij P w H h)(e:H a=some (.tup (ks.map kV))):(tupleKind (bR P w)).is h ks a:=by
 obtain⟨_,its,r,o,h1,h2,n,h3,_⟩:=(show aP P w H h a (.tup (ks.map kV)) from ok a _ e);exact⟨o,its.toArray,n,h1,h2,h3,by simpa using lg r⟩
theorem yW(ok:ij P w H h)(e:Rd H a (.dT kvs)):kvs.length<=sizeLine/\(a == sysModules)=false /\
  ∃ xs,KT H kvs xs/\h.DictOfH (tupleKind (bR P w)) a xs:=by
 obtain⟨z,y,xs,r,o,es,ep,h1,h2,h3,h4,h5⟩:=(show aP P w H h a (.dT kvs) from Cr ok e);refine⟨z,y,xs,r,o,es,ep,h1,h2,h3,h4,fun x hx=>?_,h5⟩;have all:∀{l:List (List Key×V)} {m:List (List Key×Addr×Value)},KT H l m->∀ x∈m,(tupleKind (bR P w)).is h x.1 x.2.1:=by
  intro l m q
  induction q with
  |nil=>intro x hx;exact nomatch hx
  |@cons p q ps qs hq t ih =>
   intro x hx;rcases Le.mp hx with e|hx
   ·subst e;exact qP ok (by rw[<- hq.1];exact hq.2.1)
   ·exact ih x hx
 exact all r x hx
end
noncomputable def xG(H:Hp)(a:Addr)(y:V)(r:Option V):Prop:=
 (∃ kvs k,Rd H a (.dK kvs)/\y=kV k/\r=fq kvs k)\/∃ kvs k b,Rd H a (.dT kvs)/\y=.ref b/\H b=some (.tup (k.map kV))/\r=fq kvs k
section
variable {X:Cx} {pins:List (Addr×Obj)} {σ:St} {H:Hp} {s:Shared} {a:Addr} {y v:V} {u r:Value} {o:Option V} {A:Around} {E:Value->Shared->Prop}
theorem Inv.big(I:Inv X pins σ H s):sysModules<s.heap.objs.size:=by
 have h:mainGlobals<s.heap.objs.size:=(I.mod.glob.keeps I.bk).lt;exact MW (by decide) h
theorem uD(hu:A.units+1<cLine)(I:Inv X pins σ H s)(g:xG H a y (some v))(ry:RelV y u)(h:∀ w' s',Inv X pins σ H s'->RelV v w'->Q w' s'):
  wpAny (model X.prog X.w) A (getItem (.ref a) u) Q E s:=by
 rcases g with ⟨kvs,k,e,ey,l⟩|⟨kvs,k,b,e,ey,eb,l⟩
 ·subst ey;obtain⟨z,hd,vs,rel,dd⟩:=vU I.aJ e;obtain⟨w',hw,rw'⟩:=jN.some_of (v:=v) (o:=valueAt vs k) (by rw[l];exact rel.val k)
  exact wpAny_getItem_of (sU ry) dd.mapOf hw (h w' _ (I.tok _) rw')
 ·subst ey
  cases (show u=Value.ref b from ry)
  obtain⟨z,hd,xs,rel,dd⟩:=yW I.aJ e;obtain⟨w',hw,rw'⟩:=jN.some_of (v:=v) (o:=(atKey xs k).map (·.2)) (by rw[l];exact rel.val k)
  obtain⟨p,hp,hp2⟩:=P0.mp hw;refine wpAny_getItem_heap (tupleKind_room_in1 hu) (qP I.aJ eb) dd hp ?_;rw[hp2];exact h w' _ (I.tok _) rw'
theorem zS(hu:A.units+1<cLine)(I:Inv X pins σ H s)(g:xG H a y o)(ry:RelV y u)(h:∀ s',Inv X pins σ H s'->Q (.bool (!o.isSome)) s'):
  wpAny (model X.prog X.w) A (compareOp .NotIn u (.ref a)) Q E s:=by
 rcases g with ⟨kvs,k,e,ey,l⟩|⟨kvs,k,b,e,ey,eb,l⟩
 ·subst ey;obtain⟨z,hd,vs,rel,dd⟩:=vU I.aJ e;refine wpAny_notIn_of (sU ry) hd dd.mapOf ?_;rw[<- (rel.val k).lH,<- l];exact h _ (I.tok _)
 ·subst ey
  cases (show u=Value.ref b from ry)
  obtain⟨z,hd,xs,rel,dd⟩:=yW I.aJ e;refine wpAny_notIn_heap (tupleKind_room_in1 hu) (qP I.aJ eb) hd dd ?_;have q:=(rel.val k).lH;rw[Option.isSome_map] at q;rw[<- q,<- l];exact h _ (I.tok _)
theorem Dt{H':Hp}{h':Heap}{kvs:List (Key×V)}{vs:List (Key×Value)}(z:kvs.length<=sizeLine)(hd:(a == sysModules)=false)(rel:KV kvs vs)(dd:h'.DictOf (bR P w) a vs):
  aP P w H' h' a (.dK kvs):=⟨z,hd,vs,rel,dd⟩
end
noncomputable def yD(i:Expr):Prop:=∀ ov iv,subscripted i false ov iv=operate [ov,iv] (getItem ov iv)
theorem rn{prog:Program}{A:Around}{E:Value->Shared->Prop}{env:Env}{value slice:Expr}{pos:Pos}{T id:String}
  (hl:typeLookup (.type T) "__getitem__"=pure (some (.builtin id))) (hs:yD slice)
  (h:wpAny (model prog w) A (eval value env) (fun o s₁=>wpAny (model prog w) A (eval slice env) (fun i s₂=>s₂.TypeIs o T/\wpAny (model prog w) A (getItem o i) Q E s₂) E s₁) E s) :
  wpAny (model prog w) A (eval (.Subscript value slice pos) env) Q E s:=by
 refine Subscript_ (Me h (fun o s₁ h₁=>Me h₁ (fun i s₂ h₂=>?_) fun _ _ x=>x) fun _ _ x=>x);obtain⟨hT,h₂⟩:=h₂;unfold subscriptTail;refine KU ?_;rw[getitemInPython_of_ne hT.not_modules];refine KU (wpAny_specialOf hT hl ?_);have fin:wpAny (model prog w) A (subscripted slice false o i) (fun r s₃=>wpAny (model prog w) A (letTemporaryGo value o r >>= fun _=>pure r) Q E s₃) E s₂:=by
  rw[hs o i];exact wpAny_operating (Me h₂ (fun r s₃ h₃=>KU (wpAny_letTemporaryGo (Lh h₃))) fun _ _ x=>x)
 first
  |exact Lh (KU fin)
  |exact KU (Lh (KU fin))
  |exact KU fin
theorem oz{X:Cx}{a:Addr}(I:Inv X pins σ H s)(g:xG H a y o):s.TypeIs (.ref a) "dict":=by
 rcases g with ⟨kvs,k,e,_,_⟩|⟨kvs,k,b,e,_,_,_⟩
 ·obtain⟨_,_,vs,_,dd⟩:=vU I.aJ e;exact dd.typeIs
 ·obtain⟨_,_,xs,_,dd⟩:=yW I.aJ e;exact dd.typeIs
noncomputable def G_(td ty:TE):TE:=fun σ H Q=>td σ H fun x H1=>ty σ H1 fun y H2=>∃ a v,x=.ref a/\xG H2 a y (some v)/\Q v H2
section
variable {X:Cx} {o i e value:Expr} {pos pos' tpos:Pos} {td ty tv:TE}
theorem AM(hu:X.A.units+1<cLine)(ho:PE X o td)(hi:PE X i ty)(hs:yD i):PE X (.Subscript o i pos) (G_ td ty):=by
 intro pins s σ H Q I h;refine rn PySem.F.slot_dict_getitem.lookup hs (bu (ho pins s σ H _ I h) fun u s1 ⟨x,H1,I1,rx,q1⟩=>bu (hi pins s1 σ H1 _ I1 q1) fun iv s2 ⟨y,H2,I2,ry,a,v,ex,g,q2⟩=>?_);subst ex;obtain rfl:u=Value.ref a:=rx;exact⟨oz I2 g,uD hu I2 g ry fun w' s3 I3 rw'=>⟨v,H2,I3,rw',q2⟩⟩
end
noncomputable def fN(kvs more:List (Key×V)):List (Key×V):=more.foldl (fun acc kv=>putK acc kv.1 kv.2) kvs
theorem KV.merge:∀{more:List (Key×V)} {rs:List (Key×Value)} {kvs:List (Key×V)} {vs:List (Key×Value)},KV more rs->KV kvs vs->KV (fN kvs more) (merged vs rs):=by
 intro more rs kvs vs r;unfold KV at r
 induction r generalizing kvs vs with
 |nil=>intro q;exact q
 |@cons p q ps qs h t ih =>
  intro r0;have e:KV (putK kvs p.1 p.2) (stored vs q.1 q.2):=by
   have:=r0.put p.1 h.2;rw[<- h.1];exact this
  exact ih e
theorem gm:∀(more kvs:List (Key×V)),(fN kvs more).length<=kvs.length+more.length
 |[],kvs=>by show kvs.length<=kvs.length+0;lia
 |p::r,kvs=>by
  have h1:=gm r (putK kvs p.1 p.2);have h2:=nW kvs p.1 p.2;show (fN (putK kvs p.1 p.2) r).length<=_;rw[Lf];lia
end L2
namespace Att
open PySem PySem.W PySem.Calls PyProof.Rows
variable{l:OpenLaw}
theorem iN{P:Params}{h:Heap}:∀(ns:List Int) (vs:List Value),WellAll P h vs (ns.map WData.int)->IntsAre vs ns:=by
 intro ns
 induction ns with
 |nil =>
  intro vs w;rw[List.map_nil] at w;cases w;exact .nil
 |cons n ns ih =>
  intro vs w;rw[List.map_cons] at w
  cases w with
  |cons a b =>
   cases a;exact .cons _ _ (ih _ b)
theorem tP{n:Nat}(hn:l.most=some n){P:Params}{h:Heap}{args:List WData}{vals:List Value}
  (hpre:l.row.toRowW.claim.pre args=true) (hwl:WellAll P h vals args) :
  ∃ a vs ns,vals=[Value.ref a]/\args=[WData.list (ns.map WData.int)]/\h.get? a=some {cls:=.type "list",data:=.seq vs.toArray}/\IntsAre vs ns/\ns.length<=n:=by
 have hsh:WShape.hasAll [] args [.list .int]=true:=(pre_splitW hpre).1;have hc:l.pre.holds [] {args:=args}=true:=(pre_splitW hpre).2;obtain⟨d,r,rfl,h1,h2⟩:=hasAllW_cons hsh;obtain rfl:=hasAllW_nil h2;obtain⟨xs,rfl,h3⟩:=hasW_list h1;obtain⟨ns,rfl⟩:=items_int h3;have hlen:ns.length<=n:=by
  unfold OpenLaw.pre at hc;have h4:(WTm.not (.lt (.lit (.int (n:Int))) (.len (.arg 0)))).holds [] {args:=[.list (ns.map .int)]}=true:=by
   have h4:=(holds_andW hc).1;rw[hn] at h4;exact h4
  have h5:=condW_of h4 (w_not (w_lt w_lit (w_len_list (w_arg rfl))));rw[List.length_map] at h5;refine Nat.le_of_not_lt fun q=>?_;have q':(n:Int)<((ns.length:Nat):Int):=by lia
  first
   | (rw[decide_eq_true q'] at h5;exact absurd h5 (by decide))
   | (simp at h5;lia)
 cases hwl with
 |cons w1 w2 =>
  cases w2
  cases w1 with
  |list ho hall=>exact⟨_,_,ns,rfl,rfl,ho,iN ns _ hall,hlen⟩
theorem tZ(l:OpenLaw)(args:List WData):l.row.toRowW.claim.post args (.bool true) args=true:=
 postW_of (r:=l.row.toRowW) (X:=(true == true))
  (show WShape.has [] (.bool true) .bool=true by first|rfl|decide|simp[WShape.has,WShape.arms,WShape.armsAll])
  (show (WTm.eq .res (.lit (.bool true))).value [] {args:=args,res:=some (.bool true),after:=args}=some (.bool (true == true)) from w_eq_bool (w_res rfl) w_lit) rfl
theorem oW{n:Nat}{q:Program}{loose:List Str}{XP:(Str->Option Value)->Heap->Prop}{YP:World->Heap->Prop}{d:DefRec}
  (hn:l.most=some n) (hdf:d.params.defaults=[])
  (call:∀(w:World) (s₀ s₁:Shared) (mg mb:Str->Option Value) (fa:Addr) (o:Obj) (pm cd doc:Value) (a:Addr) (vs:List Value) (ns:List Int),
   Ground q loose [] XP w s₀ mg mb s₁.heap->YP w s₁.heap ->
   s₁.heap.get? fa=some o->o.data=.func (docDef d.name d.params d.body d.scope pm cd doc)->s₁.heap.CodeRec cd d.name->mg d.name=some (.ref fa) ->
   s₁.heap.get? a=some {cls:=.type "list",data:=.seq vs.toArray}->IntsAre vs ns->ns.length<=n->s₁.gens=#[] ->
   codeAny (model l.prog w) callerA (.call (.ref fa) ⟨[.ref a],[]⟩) (fun r s'=>r=.ok (.ret (.bool true))/\OldK s₁.heap s'.heap/\s'.os=s₁.os/\AllBare s'.gens) s₁) :
  WalkO q loose XP YP l.row.toRowW d [] (fun f vs=>PySem.call f vs):=by
 intro w s₀ s₁ mg mb G Y fa o pm cd doc dV kV ho hd gJ hD hmg hg args vals as hpre hlay hrd hwl hlo;obtain rfl:dV=.none:=Dflts.none hD hdf;obtain rfl:kV=.none:=Dflts.noKw hD;obtain⟨a,vs,ns,rfl,rfl,hobj,hints,hlen⟩:=tP hn hpre hwl;refine enter_call (codeAny_mono (call w s₀ s₁ mg mb fa o pm cd doc a vs ns G Y ho (fd_plain hd) gJ hmg hobj hints hlen hg) fun r s' hq=>?_);obtain⟨rfl,h2,h3,h4⟩:=hq;exact⟨.inl ⟨.bool true,.bool true,[],rfl,fun _=>rfl,.bool true,tZ l _,fun _=>⟨List.Pairwise.nil,fun _ hm=>(nomatch hm)⟩⟩,h2,h3,h4⟩
end Att
namespace L2
open PySem PySem.Spec PyProof.Rows
variable{P prog q:Program}{K:Qf}{N ON loose:List Str}{mb mg:Str->Option Value}{base h:Heap}{b e elt iter tg:Expr}{o:HO}{w:World}{CX:mC}{i j k n:Nat}{a fa it l p:Addr}{fd:FuncData}{name x:Str}{sp:Sp}{vs xs ys:List V}{ns:List Int}{X:Cx}{st:Stmt}{osc scope:Scope}{env:Env}{cells:List (Str×Addr)}{s:Shared}{es ifs:List Expr}{tc:TT}{te:TE}{pins:List (Addr×Obj)}{σ:St}{H H':Hp}{E Q:Value->Shared->Prop}{r:List V->Hp->VK->Prop}{apos tp:Pos}{items:Array Value}{fp:List Addr}{α β:Type}{lo:Int}{hi:Option Expr}{r':R2}{ad:Nat->Addr}{md:List Bool}
theorem kQ:∀{vs:List Value} {ns:List Int},IntsAre vs ns->Vals (ns.map V.int) vs
 |_,_,.nil=>.nil
 |_,_,.cons n t h=>.cons ⟨t,rfl⟩ (kQ h)
structure hX (q:Program) (K:Qf):Prop where
 nt:PySem.W.noTabs K=true
 nd:((bz K).map (·.2.1)).Nodup
 fd:∀ x∈dE,PySem.W.tabIn K x=none\/((recsOf q).find? (fun e=>e.name == x)).isSome=true
theorem hX.at{mean:ExcName->Option Value}(L:hX q K)(T:Top q loose mean mg mb h)(X:K.In h):∀ t∈bz K,PySem.W.CodeHd h t.1 t.2.1/\h.get? t.2.1=some (PySem.W.tabObj #[]):=fun t ht=>by
 unfold bz at ht;obtain⟨x,hx,e⟩:=NF.mp ht;obtain⟨p,e1,e2⟩:=P0.mp e;obtain⟨c,Pt⟩:=p;subst e2;rcases L.fd x hx with z|z
 ·rw[z] at e1;cases e1
 ·obtain⟨d,hd⟩:=OX.mp z;exact PySem.W.tab_of T X hd e1
noncomputable def mr:List (Addr×Addr×Str)->Addr->Option HO
 |[],_=>none
 |t::r,b=>if b=t.2.1 then some (.vD #[.str t.2.2 0]) else mr r b
theorem fX{b:Addr}:∀{l:List (Addr×Addr×Str)},mr l b=some o->∃ t∈l,b=t.2.1/\o=.vD #[.str t.2.2 0]
 |t::r,e=>by
  unfold mr at e;by_cases z:b=t.2.1
  ·rw[Li z] at e;cases e;exact⟨t,.head _,z,rfl⟩
  ·rw[Lc z] at e;obtain⟨u,hu,q⟩:=fX e;exact⟨u,.tail _ hu,q⟩
theorem n_{t:Addr×Addr×Str}:∀{l:List (Addr×Addr×Str)},(l.map (·.2.1)).Nodup->t∈l->mr l t.2.1=some (.vD #[.str t.2.2 0])
 |u::r,nd,m=>by
  obtain⟨n1,n2⟩:=LP.mp nd;unfold mr;rcases Le.mp m with rfl|m
  ·rw[Li rfl]
  ·rw[Lc fun z=>n1 (L6.mpr ⟨t,m,z⟩)];exact n_ n2 m
theorem xc{s₁:Shared}{vs:List Value}
  (KX:K.In s₁.heap) (hns:s₁.heap.Ns mainGlobals mg) (hb:s₁.heap.Ns builtinsNs mb) (hbb:∀ x:Str,x≠"__name__"->mb x=bootBuiltins x) (hlim:s₁.heap.NoLimit) (hbm:Et mg s₁.heap)
  (hT:∀ t∈bz K,PySem.W.CodeHd s₁.heap t.1 t.2.1/\s₁.heap.get? t.2.1=some (PySem.W.tabObj #[])) (L:hX q K) (hg:s₁.gens=#[])
  (ha:s₁.heap.get? a=some {cls:=.type "list",data:=.seq vs.toArray}) (hi:IntsAre vs ns) (hl:ns.length<=sizeLine) (hr:bG k callerA)
  (F:∀ base:Heap,K.In base->base.Ns mainGlobals mg->dZ P w K mg base CX k fa fd [x] sp) (hbind:∀(s:Shared) (u:Value),BindsTo s fd ⟨[u],[]⟩ [(x,u)])
  (uU:∀ H:Hp,True->bH K H a (ns.map V.int)->sp [.ref a] H (fun v _=>v=.bl true) fun _ _ _=>False)
  (hCX:∀ H e s',CX [] H s₁ (fun _ _ _=>False) e s'->False) :
  codeAny (model P w) callerA (.call (.ref fa) ⟨[.ref a],[]⟩) (fun r s'=>r=.ok (.ret (.bool true))/\OldK s₁.heap s'.heap/\s'.os=s₁.os/\AllBare s'.gens) s₁:=by
 have rv:=kQ hi;have lenV:=hi.length;have naT:∀ t∈bz K,t.2.1≠a:=fun t ht z=>by
  have e:=(hT t ht).2;rw[z,ha] at e;cases e
 let oS:Obj:={cls:=.type "list",data:=.seq vs.toArray}
 have core:∀ S:Option HO,(S=none\/S=some (.gK oS (.lst (ns.map V.int))))->(S≠none->K.lookup a=none)->bH K (fun b=>if b=a then S else mr (bz K) b) a (ns.map V.int) ->
   codeAny (model P w) callerA (.call (.ref fa) ⟨[.ref a],[]⟩) (fun r s'=>r=.ok (.ret (.bool true))/\OldK s₁.heap s'.heap/\s'.os=s₁.os/\AllBare s'.gens) s₁:=by
  intro S hS hK hSq;generalize hH:(fun b=>if b=a then S else mr (bz K) b)=H at hSq
  have hA:H a=S:=by rw[<- hH];exact Li rfl
  have hB:∀ b,b≠a->H b=mr (bz K) b:=fun b z=>by rw[<- hH];exact Lc z
  have free:∀{b:Addr} {o:Obj},s₁.heap.get? b=some o->o≠PySem.W.tabObj #[]->(b=a->S=none)->H b=none:=fun {b o} e hn hz=>by
   by_cases z:b=a
   ·rw[z,hA];exact hz z
   ·rw[hB b z]
    cases q:mr (bz K) b with
    |none=>rfl
    |some u =>
     obtain⟨t,ht,e1,_⟩:=fX q;have e2:=(hT t ht).2;rw[<- e1,e] at e2;exact absurd (Option.some.inj e2) hn
  have nsK:∀{b:Addr} {m:Str->Option Value},s₁.heap.Ns b m->(jX s₁.heap H).Ns b m:=fun {b m} ⟨o,es,ep,e,d,r⟩=>⟨o,es,ep,hG e (free e (fun z=>by rw[z] at d;cases d) fun z=>by rw[z,ha] at e;cases e;cases d),d,r⟩
  have hKb:K.In (jX s₁.heap H):=fun b o e=>hG (KX b o e) (free (KX b o e) (fun z=>by
    have h2:=Mj.mp L.nt (b,o) (PySem.W.mem_of_lookupK e);subst z;exact absurd (show false=true from h2) Lg) fun z=>by
    cases q:S with
    |none=>rfl
    |some u=>rw[z,hK (by rw[q];simp)] at e;cases e)
  have gJ:∀ t∈bz K,PySem.W.CodeHd (jX s₁.heap H) t.1 t.2.1:=fun t ht=>by
   obtain⟨o,us,fl,tf,fg,tg,fJ,tx,tt,e1,e2,r⟩:=(hT t ht).1;exact⟨o,us,fl,tf,fg,tg,fJ,tx,tt,hG e1 (free e1 (fun z=>by rw[z] at e2;cases e2) fun z=>by rw[z,ha] at e1;cases e1;exact absurd (Value.type.inj e2) (by decide)),e2,r⟩
  have hbm':Et mg (jX s₁.heap H):=by
   obtain⟨bm,ob,b1,b2,b3,b4,b5⟩:=hbm;exact⟨bm,ob,b1,b2,hG b3 (free b3 (fun z=>by rw[z] at b4;cases b4) fun z=>by rw[z,ha] at b3;cases b3;exact absurd (Value.type.inj b4) (by decide)),b4,b5⟩
  have aJ:ij P w H s₁.heap:=fun b u e=>by
   by_cases z:b=a
   ·rw[z,hA] at e;rcases hS with h0|h0
    ·rw[h0] at e;cases e
    ·rw[h0] at e;cases e;subst z;exact⟨ha,by rw[Lb];exact hl,vs,_,rv,ha⟩
   ·rw[hB b z] at e;obtain⟨t,ht,e1,e2⟩:=fX e;subst e2;exact⟨#[],by rw[e1];exact (hT t ht).2,trivial,fun pos cv c=>by cases (show (none:Option Value)=some cv from c)⟩
  have hM:Mod K mg (jX s₁.heap H):=⟨hKb,nsK hns,⟨mb,nsK hb,hbb⟩,let ⟨mc,h1,h2⟩:=hlim;⟨mc,nsK h1,h2⟩,gJ,hbm'⟩
  have e0:AA P w K mg (jX s₁.heap H) callerA [] s₁ H:=⟨rfl,hM,fun b o e=>B7 e,Qb (vc _ _),trivial,fun b hb=>absurd (show b∈([]:List Addr) from hb) (by simp),aJ,.of_eq hg,fun t ht=>⟨#[],by
   rw[hB _ (naT t ht),n_ L.nd ht,OG]⟩⟩
  refine codeAny_mono ((F _ hKb (nsK hns)).run callerA [] s₁ H ⟨[.ref a],[]⟩ [.ref a] [.ref a] _ _ hr e0 (hbind s₁ (.ref a)) (.cons rfl .nil) (uU H trivial hSq)) fun r s' h=>?_
  cases r with
  |error e=>exact (hCX H e s' h).elim
  |ok fl =>
   cases fl with
   |next=>exact False.elim h
   |brk=>exact False.elim h
   |cont=>exact False.elim h
   |ret u =>
    obtain⟨v,H',os,bare,un,hok',r',qv⟩:=h;have q':v=.bl true:=qv;subst q';obtain rfl:u=Value.bool true:=r';have each:∀ b o,s₁.heap.get? b=some o->s'.heap.get? b=some o\/∃ c,PySem.W.CodeHd s₁.heap c b/\o=PySem.W.tabObj #[]/\∃ ps,s'.heap.get? b=some (PySem.W.tabObj ps):=fun b o e=>by
     cases qb:H b with
     |none=>exact .inl (un.keep b o e qb (by intro z;exact absurd (show b∈([]:List Addr) from z) (by simp)) (by simp))
     |some u =>
      by_cases z:b=a
      ·rw[z,hA] at qb;rcases hS with h0|h0
       ·rw[h0] at qb;cases qb
       ·have z2:=un.kj a oS _ (by rw[hA,h0])
        obtain⟨e2,_⟩:=hok' a _ z2;rw[z,ha] at e;cases e;exact .inl (by rw[z];exact e2)
      ·have qt:=qb;rw[hB b z] at qt;obtain⟨t,ht,e1,e2⟩:=fX qt;obtain⟨h1,h2⟩:=hT t ht;rw[<- e1] at h1 h2;rw[e] at h2;cases h2;subst e2;obtain⟨more,e3⟩:=un.jg b _ qb;obtain⟨qs,e4,_⟩:=hok' b _ e3;exact .inr ⟨_,h1,rfl,qs,e4⟩
    refine⟨rfl,⟨fun b o e=>?_,fun b o e=>?_⟩,os,bare⟩
    ·rcases each b o e with z|⟨c,hc,z,ps,hp⟩
     ·exact .inl z
     ·subst z;exact .inr (.inl ⟨(hc.tab e).isCodeTable,rfl,#[],ps,rfl,by rw[Array.empty_append];exact hp⟩)
    ·rcases each b o e with z|⟨c,hc,z,ps,hp⟩
     ·exact⟨o,z⟩
     ·exact⟨_,hp⟩
 cases hk:K.lookup a with
 |some o =>
  have e:=KX a o hk;rw[ha] at e;cases e;exact core none (.inl rfl) (fun z=>absurd rfl z) (.inr ⟨_,vs.toArray,_,hk,rfl,rfl,rfl,by rw[Ld,lenV];exact hl,by simpa using rv⟩)
 |none=>exact core (some (.gK oS (.lst (ns.map V.int)))) (.inr rfl) (fun _=>hk) (.inl (.inr ⟨oS,Li rfl⟩))
theorem AR{l:PySem.W.OpenLaw}{XP:(Str->Option Value)->Heap->Prop}{YP:World->Heap->Prop}{d:DefRec}{K:Params->Qf}{CX:World->mC}{sp:World->Sp}
  (hn:l.most=some n) (hn2:n<=sizeLine) (hdf:d.params.defaults=[]) (hr:bG k callerA)
  (hY:∀(w:World) (h:Heap),YP w h->(K w.params).In h)
  (F:∀(w:World) (mg:Str->Option Value) (fa:Addr) (h:Heap),(K w.params).In h->h.Ns mainGlobals mg->mg d.name=some (.ref fa) ->
   ∃ fd:FuncData,(∀(s:Shared) (u:Value),BindsTo s fd ⟨[u],[]⟩ [(x,u)]) /\
    ∀ base:Heap,(K w.params).In base->base.Ns mainGlobals mg->dZ l.prog w (K w.params) mg base (CX w) k fa fd [x] (sp w))
  (uU:∀(w:World) (H:Hp) (a:Addr) (ns:List Int),ns.length<=n->True->bH (K w.params) H a (ns.map V.int)->sp w [.ref a] H (fun v _=>v=.bl true) fun _ _ _=>False)
  (hCX:∀(w:World) (H:Hp) (s:Shared) (e:Value) (s':Shared),CX w [] H s (fun _ _ _=>False) e s'->False) (hL:∀(w:World) (h:Heap),(K w.params).In h->hX q (K w.params)) :
  PySem.W.WalkO q loose XP YP l.row.toRowW d [] (fun f vs=>PySem.call f vs):=by
 refine Att.oW hn hdf fun w s₀ s₁ mg mb fa o pm cd doc a vs ns G Y ho hd gJ hmg hobj hints hlen hg=>?_;have KX:=hY w _ Y;obtain⟨fd,hb,hF⟩:=F w mg fa _ KX G.T.g hmg;have L:=hL w _ KX;exact xc KX G.T.g G.T.b G.T.builtins G.T.nolimit G.T.bmain (L.at G.T KX) L hg hobj hints (Lk hlen hn2) hr hF hb (fun H hO hS=>uU w H a ns hlen hO hS) fun H e s'=>hCX w H s₁ e s'
noncomputable def dc(s:Stmt):Arguments:=match s with
 |.FunctionDef _ a _ _ _ _ _ _ _ _=>a
 |_=>{posonlyargs:=[],args:=[],vararg:=none,kwonlyargs:=[],kw_defaults:=[],kwarg:=none,defaults:=[]}
noncomputable def bP(s:Stmt):List Stmt:=match s with
 |.FunctionDef _ _ b _ _ _ _ _ _ _=>b
 |_=>[]
noncomputable def aa(s:Stmt):Scope:=match s with
 |.FunctionDef _ _ _ _ _ _ sc _ _ _=>sc
 |_=>{kind:=.function,names:=[],isGenerator:=false,isCoroutine:=false}
abbrev aX:mC:=fun _ _ _ _ _ _=>False
abbrev E0:XK:=fun _ _ _=>False
theorem ay:Passes aX X E0:=fun _ _ _ _ _ _ _ h=>h.elim
structure CK (K:Qf) (x qual:Str) (st:Stmt) (f:Addr) (fd:FuncData):Prop where
 ex:∃(oc:Value) (od:Option Addr) (kV doc pm:Value) (an:Option Addr) (cdv ct:Value) (osl:Array (Option Value)),
  fd=PySem.W.fnOf x qual (dc st) (bP st) (aa st) .none kV doc pm an cdv ct/\K.lookup f=some ⟨oc,od,.func fd,osl⟩/\PySem.W.codeIn K cdv qual=true
 kp:PySem.W.keepIn K (.ref f)=true
section
variable {P:Program} {w:World} {K:Qf} {mg:Str->Option Value} {base:Heap}
theorem CK.binds{qual:Str}{f:Addr}{ps:List Str}(F:CK K x qual st f fd)
  (h:∀(kV doc pm:Value) (an:Option Addr) (cdv ct:Value) (us:List Value),us.length=ps.length->bindArgs (PySem.W.fnOf x qual (dc st) (bP st) (aa st) .none kV doc pm an cdv ct) ⟨us,[]⟩=pure (ps.zip us)):Binds K fd ps []:=by
 obtain⟨oc,od,kV,doc,pm,an,cdv,ct,osl,rfl,lk,gJ⟩:=F.ex;exact .all (h kV doc pm an cdv ct)
theorem qz{qual:Str}{f:Addr}{oc:Value}{od an:Option Addr}{osl:Array (Option Value)}{kV doc pm cdv ct:Value}(l:K.lookup f=some ⟨oc,od,.func (PySem.W.fnOf x qual (dc st) (bP st) (aa st) .none kV doc pm an cdv ct),osl⟩)
  (c:PySem.W.codeIn K cdv qual=true) (k:PySem.W.keepIn K (.ref f)=true):CK K x qual st f (PySem.W.fnOf x qual (dc st) (bP st) (aa st) .none kV doc pm an cdv ct):=⟨⟨oc,od,kV,doc,pm,an,cdv,ct,osl,rfl,l,c⟩,k⟩
end
theorem aZ{A:Around}(hr:bG k A):A.units+1<cLine:=LX (Nat.add_le_add_left (by decide:1<=64) _) hr.units
section
variable {X:Cx}
theorem pv(i:Nat){pos:Pos}(hN:autoParam (X.N[i]?=some x) ℜ0)(hv:autoParam (Es X.env.scope x) ℜ4)(hd:autoParam ((x ==("__debug__":Str))=false) ℜ1)
  (gJ:autoParam ((x ==("__classdict__":Str))=false) ℜ1):PE X (.Name x pos) (E9 i):=Dj hN hv hd gJ
end
noncomputable def bB(H H':Hp):Prop:=∀ b o,H b=some o->H' b=some o
theorem bB.refl(H:Hp):bB H H:=fun _ _ h=>h
section
variable {κ:Type} [DecidableEq κ]
theorem AQ{kvs:List (κ×V)}{k:κ}{v:V}(h:fq kvs k=some v):k∈kvs.map (·.1):=by
 have q:(kvs.any fun kv=>decide (kv.1=k))=true:=by
  rw[jH,h]
  all_goals rfl
 obtain⟨p,hp,e⟩:=List.any_eq_true.mp q;exact L6.mpr ⟨p,hp,Mf e⟩
end
noncomputable def dN(cells:List (Str×Addr)):List (Str×NameKind)->List (Str×Addr)->List (Str×Addr)
 |[],acc=>acc
 | (n,k)::r,acc=>if k=.free then dN cells r ((n,(cells.lookup n).getD 0)::acc) else dN cells r acc
theorem gr(h:∀ x∈scope.names,x.2=.free->∃ c,env.cells.lookup x.1=some c):closureFor scope env=pure (dN env.cells scope.names []):=by
 have all:∀(l:List (Str×NameKind)) (acc:List (Str×Addr)),(∀ x∈l,x.2=.free->∃ c,env.cells.lookup x.1=some c) ->
   (forIn l acc fun (x:Str×NameKind) (cs:List (Str×Addr))=>(match x with | (name,kind)=>if (kind == NameKind.free)=true then (do let c <- cellOf env name;pure (ForInStep.yield ((name,c)::cs))) else pure (ForInStep.yield cs):Sem (ForInStep (List (Str×Addr)))))=(pure (dN env.cells l acc):Sem (List (Str×Addr))):=by
  intro l
  induction l with
  |nil=>intro acc _;rfl
  |cons x r ih =>
   intro acc hl;obtain⟨n,k⟩:=x;rw[Ov];by_cases hk:k=.free
   ·subst hk;obtain⟨c,hc⟩:=hl (n,.free) K_ rfl;have e:cellOf env n=pure c:=by unfold cellOf;rw[hc]
    simp only[MX,MV,e,dN,pure_bind];rw[ih _ fun y hy=>hl y (KZ _ hy),hc];rfl
   ·have hb:(k == NameKind.free)=false:=by simpa using hk
    simp only[hb,Mp,M7,dN,hk,pure_bind];exact ih _ fun y hy=>hl y (KZ _ hy)
 unfold closureFor;simp only[bind_pure];exact all scope.names [] h
theorem iB:∀{l:List (Str×NameKind)} {acc:List (Str×Addr)},(∀ x∈l,x.2=.free->∃ c,cells.lookup x.1=some c)->(∀ x c,acc.lookup x=some c->cells.lookup x=some c) ->
  ∀ x c,(dN cells l acc).lookup x=some c->cells.lookup x=some c
 |[],_,_,h,x,c,e=>h x c e
 | (n,k)::r,acc,hl,h,x,c,e=>by
  unfold dN at e;have hr:∀ y∈r,y.2=.free->∃ c,cells.lookup y.1=some c:=fun y hy=>hl y (KZ _ hy)
  split at e
  ·rename_i hk;refine iB hr (fun y d q=>?_) x c e;rw[Mq] at q
   split at q
   ·rename_i hy;obtain⟨c',hc'⟩:=hl (n,k) K_ hk;have hy':y=n:=by simpa using hy
    subst hy';simp only[] at hc';rw[hc'] at q ⊢;exact q
   ·exact h y d q
  ·exact iB hr h x c e
theorem iy:∀{l:List (Str×NameKind)} {acc:List (Str×Addr)},(∃ c,acc.lookup x=some c)->∃ c,(dN cells l acc).lookup x=some c
 |[],_,h=>h
 | (n,k)::r,acc,h=>by
  unfold dN;split
  ·refine iy ?_;rw[Mq];split
   ·exact⟨_,rfl⟩
   ·exact h
  ·exact iy h
theorem f_:∀{l:List (Str×NameKind)} {acc:List (Str×Addr)},(x,NameKind.free)∈l->∃ c,(dN cells l acc).lookup x=some c
 |[],_,h=>by simp at h
 | (n,k)::r,acc,h=>by
  unfold dN;rcases Le.mp h with e|h
  ·cases e;rw[Li rfl];exact iy ⟨(cells.lookup x).getD 0,by rw[Mq];simp⟩
  ·split
   ·exact f_ h
   ·exact f_ h
noncomputable def aE(X:Cx)(scope:Scope)(N:List Str)(C:Addr)(s:Shared)(H:Hp)(fp:List Addr):Cx where
 prog:=X.prog
 w:=X.w
 K:=X.K
 mg:=X.mg
 base:=X.base
 A:=X.A
 N:=N
 s₀:=s
 H₀:=H
 env:=compEnvC scope (dN X.env.cells scope.names []) C X.env
 outer:=X.stack
 stack:=X.stack
 ex:=fp
 calm:=X.calm
 fn:=fun _=>false
 pn:=[]
 xe:=fun _ _=>False
structure bS (osc:Scope) (ON:List Str) (scope:Scope) (own N:List Str):Prop where
 kind:scope.kind=.function
 nd:N.Nodup
 len:N.length=own.length+ON.length
 jA:∀ y∈scope.names,y.2≠.cell
 loc:∀ y∈scope.names,y.2=.local->scope.names.lookup y.1=some .local
 free:∀ y∈scope.names,y.2=.free->osc.names.lookup y.1=some .cell\/osc.names.lookup y.1=some .free
 out:∀ p∈ON.zip (N.drop own.length),p.1=p.2\/scope.names.lookup p.2=none
 own:∀ x∈N.drop own.length,scope.names.lookup x≠some .local
theorem cC(x:Str)(hn:∀ y∈scope.names,y.2≠.cell):((relabel scope env).names.lookup x=some .local->scope.names.lookup x=some .local) /\
  ((relabel scope env).names.lookup x=some .cell\/(relabel scope env).names.lookup x=some .free->scope.names.lookup x=some .free):=by
 unfold relabel;simp only;revert hn;generalize scope.names=l;intro hn
 induction l with
 |nil=>simp
 |cons y r ih =>
  obtain⟨n,k⟩:=y;have ih:=ih fun y hy=>hn y (KZ _ hy);have hk:k≠.cell:=hn (n,k) K_;rw[L3];simp only;by_cases hc:(k == NameKind.free && env.scope.kind == ScopeKind.function && env.kindOf n == some NameKind.cell)=true
  ·rw[Li hc,Mq,Mq];have hf:k=.free:=by
    simp only[LQ] at hc
    simpa using hc.1.1
   split
   ·subst hf;simp
   ·exact ih
  ·rw[Lc hc,Mq,Mq];split
   ·constructor
    ·exact fun h=>h
    ·rintro (h|h)
     ·exact absurd (Option.some.inj h) hk
     ·exact h
   ·exact ih
noncomputable def Ff(X:Cx)(ifs:List Expr)(t:TT):Prop:=
 ∀(pins:List (Addr×Obj)) (s:Shared) (σ:St) (H:Hp) (Q:Bool->Hp->Prop),Inv X pins σ H s->t σ H Q ->
  wpAny (model X.prog X.w) X.A (forIn ifs true fun c r=>if r=true then do let ok <- isTrue c X.env (eval c X.env);pure (ForInStep.yield ok) else pure (ForInStep.yield r)) (TP X pins σ Q) X.xe s
noncomputable def CF:TT:=fun _ H Q=>Q true H
theorem AJ:Ff X [] CF:=fun _ _ _ H _ I h=>wpAny_tests_nil ⟨H,I,h⟩
theorem Ab{c:Expr}{t:TT}(h:PT X c t):Ff X [c] t:=fun pins s σ H Q I hw=>wpAny_tests_one (h pins s σ H Q I hw)
theorem lK{A:Around}{R:Result->Shared->Prop}{target:Expr}{pos:Pos}{it acc:Value}(I:Nat->Shared->Prop)
  (turn:∀ n s,I n s->wpAny (model prog w) A (pyNext it) (fun r s₁=>match r with
   |none=>R (.ok .next) s₁
   |some v=>wpAny (model prog w) A (letOwnedTupleGo target it v) (fun _ s₁'=>wpAny (model prog w) A (assign target env v) (fun _ s₂ =>
     wpAny (model prog w) A (forIn ifs true fun c r=>if r=true then do let ok <- isTrue c env (eval c env);pure (ForInStep.yield ok) else pure (ForInStep.yield r)) (fun ok s₃ =>
      if ok=true then wpAny (model prog w) A (eval elt env) (fun x s₄ =>
       wpAny (model prog w) A (call (.builtin "list.append") [acc,x]) (fun _ s₅=>∃ m,m<n/\I m s₅) (fun _ _=>False) s₄) (fun _ _=>False) s₃
      else ∃ m,m<n/\I m s₃) (fun _ _=>False) s₂) (fun _ _=>False) s₁') (fun _ _=>False) s₁) (fun _ _=>False) s)
  (n:Nat) (h:I n s):codeAny (model prog w) A (.compLoop (.ListComp elt [⟨target,iter,ifs,0⟩] scope pos) 0 it acc env) R s:=by
 refine codeAny_loop rfl I (fun n s hI=>?_) n h;show wpAny _ A ((compTurn (.ListComp elt [⟨target,iter,ifs,0⟩] scope pos) 0 it acc env).onRaise (fun x=>do noteFrame x env;theTreesLotGoes x)) _ _ s
 refine wpAny_noted ?_;rw[compTurn_list];refine KU (NZ (KU (Me (turn n s hI) (fun r s₁ h₁=>?_) fun _ _ h'=>h'.elim)))
 cases r with
 |none=>exact Lh h₁
 |some v =>
  refine KU (Me h₁ (fun _ s₁' h₁'=>?_) fun _ _ h'=>h'.elim);refine KU (Me h₁' (fun _ s₂ h₂=>KU (Me h₂ (fun ok s₃ h₃=>?_) fun _ _ h'=>h'.elim)) fun _ _ h'=>h'.elim)
  cases ok with
  |false=>exact Lh ⟨rfl,h₃⟩
  |true =>
   exact KU (KU (Me h₃ (fun x s₄ h₄=>KU (Me h₄ (fun _ s₅ h₅=>Lh (Lh ⟨rfl,h₅⟩)) fun _ _ h'=>h'.elim)) fun _ _ h'=>h'.elim))
noncomputable def lu(wi:TI)(k:Nat)(g:TG)(tc:TT)(te:TE):TE:=fun σ H Q=>wi σ H fun J H1=>∀ D,H1 D=none ->
 ∃ W:Nat->Nat->List V->St->Hp->Prop,(∃ m,W 0 m [] (List.replicate k none++σ) (upd H1 D (.lst [])))/\∀ i m ys σ' H',W i m ys σ' H'->H' D=some (.lst ys) /\
  ((J.stop i H'/\Q (.ref D) H')\/(J.go i H'/\ys.length<sizeLine/\∀ x H2,J.HD i H' x H2->g x σ' H2 fun σ3 H3=>tc σ3 H3 fun b H4 =>
   if b=true then te σ3 H4 fun v H5=>H5 D=some (.lst ys)/\∃ m',m'<m/\W (i+1) m' (ys++[v]) σ3 (upd H5 D (.lst (ys++[v])))
   else ∃ m',m'<m/\W (i+1) m' ys σ3 H4))
theorem kZ{own:List Str}{pos:Pos}{wi:TI}{g:TG}(S:bS osc ON scope own N)(hosc:X.env.scope=osc)(hON:X.N=ON)(hc:X.calm=true)(hi:PI X tg iter wi)
  (hg:∀ C s H fp,PG (aE X scope N C s H fp) tg g) (ht:∀ C s H fp,Ff (aE X scope N C s H fp) ifs tc) (he:∀ C s H fp,PE (aE X scope N C s H fp) elt te)
      {Q:VK} (I:Inv X pins σ H s) (h:lu wi own.length g tc te σ H Q) {RR:Value->Addr->Result->Shared->Prop}
  (fin:∀(D C:Addr) (H':Hp) (s':Shared) (m:Str->Option Value),Inv X pins σ H' s'->Q (.ref D) H'->H' C=none->X.s₀.heap.objs.size<=C->C≠X.env.locals->(∀ x c,X.env.cells.lookup x=some c->c≠C)->(∀ p∈X.pn++pins,p.1≠C) ->
   s'.heap.Ns C m->RR (.ref D) C (.ok .next) s') :
  wpAny (model X.prog X.w) X.A (eval iter X.env) (fun x s₁=>wpAny (model X.prog X.w) X.A (pyIter x) (fun it s₂=>wpAny (model X.prog X.w) X.A (newList []) (fun acc s₃ =>
   wpAny (model X.prog X.w) X.A (newFunctionEnv scope X.env.globals (dN X.env.cells scope.names []) [] X.env.qual none .none (some X.env)) (fun cenv s₄ =>
    codeAny (model X.prog X.w) X.A (.compStart (.ListComp elt [⟨tg,iter,ifs,0⟩] scope pos) 0 it acc {cenv with scope:=relabel scope X.env}) (RR acc cenv.locals) s₄) X.xe s₃) X.xe s₂) X.xe s₁) X.xe s:=by
 refine bu (hi pins s σ H _ I h) fun v s1 h1=>bu h1 fun itv s2 h2=>?_;obtain⟨it,fp,tn,J,H2,e,I2,T,st2,f2,q⟩:=h2;subst e;refine Mn (wpAny_newFunctionEnv S.jA (by intro y hy;simp at hy) (fun h₁ hns₁ hsb₁=>?_) S.kind)
 dsimp only at hns₁ hsb₁ ⊢;have I3:Inv X pins σ (upd H2 s2.heap.objs.size (.lst [])) {s2 with heap:=s2.heap.push {cls:=.type "list",data:=.seq ([]:List Value).toArray},toks:=s2.toks}:=I2.CW (t':=s2.toks) .nil (Nat.zero_le _)
 have hD2:H2 s2.heap.objs.size=none:=I2.fresh;obtain⟨W,⟨m0,w0⟩,turn⟩:=q _ hD2;generalize hs3:({s2 with heap:=s2.heap.push {cls:=.type "list",data:=.seq ([]:List Value).toArray},toks:=s2.toks}:Shared)=s3 at I3
 have eh3:s3.heap=s2.heap.push {cls:=.type "list",data:=.seq ([]:List Value).toArray}:=by rw[<- hs3]
 generalize hD:s2.heap.objs.size=D at I3 turn w0 hD2 ⊢;generalize hH3:upd H2 D (.lst [])=H3 at I3 w0;rw[<- eh3] at hns₁ hsb₁ ⊢;have hC3:H3 s3.heap.objs.size=none:=I3.fresh;have hsz3:s3.heap.objs.size=D+1:=by rw[eh3,Ms,hD]
 have fp2:∀ b∈fp,b<s2.heap.objs.size:=fun b hb=>by
  obtain⟨o,e,_⟩:=T.obj _ _ st2 b hb;exact Lm e
 have f3:∀ b∈fp,j_ X pins H3 b:=fun b hb=>by
  obtain⟨g0,g1⟩:=f2 b hb;refine⟨?_,g1⟩;rw[<- hH3,ai (by rw[<- hD];exact Ly (fp2 b hb))]
  exact g0
 have neC:∀ b o,s3.heap.get? b=some o->b≠s3.heap.objs.size:=fun b o e=>Ly (Lm e);have old:∀ b o,s3.heap.get? b=some o->h₁.get? b=some o:=fun b o e=>hsb₁.extBut b o (neC b o e) (La _ e);have hk:=S.kind;have hfr:∀ y∈scope.names,y.2=.free->∃ c,X.env.cells.lookup y.1=some c:=fun y hy hf=>I3.ok.has _ (by subst hosc;exact S.free y hy hf)
 have sub:=iB (acc:=[]) hfr (by intro x c e;simp at e)
 have JB:∀ tk,Inv (aE X scope N s3.heap.objs.size s3 H3 fp) [] (List.replicate own.length none++σ) H3 {s3 with heap:=h₁,toks:=tk}:=fun tk=>by
  refine⟨⟨I3.ok.mod,S.kind,I3.ok.glob,I3.ok.blt,Lj _,fun x y c e1 e2=>I3.ok.inj x y c (sub x c e1) (sub y c e2),fun x hx=>?_,fun x c hf _=>(by cases hf),I3.ok.hd,I3.ok.frames,.inl rfl,fun b hb=>?_,I3.bs,Lk I3.ok.An I3.sz,fun b o e hb=>?_,fun b hb hf=>?_,I3.stack,I3.mI,I3.ok.tabs.un I3.base⟩,
   rfl,I3.bare,Un.kept old,⟨_,hns₁,fun i x v e1 e2 e3=>?_⟩,fun x c e=>?_,hC3,fun x c e=>I3.dM x c (sub x c e),fun p hp=>absurd (show p∈([]:List (Addr×Obj)) from hp) (by simp),I3.aJ.kept old,?_⟩
  ·have q:=(cC (env:=X.env) x S.jA).2 hx;exact f_ (PySem.mem_of_lookup q)
  ·have hb:b∈fp:=hb;obtain⟨_,g1,g2,g3,g4,g5⟩:=f3 b hb;refine⟨?_,fun x c e=>g4 x c (sub x c e)⟩;have:=fp2 b hb;show b≠s3.heap.objs.size;rw[hsz3,<- hD];exact Ly (Nr this)
  ·have hb:b∈fp:=hb;obtain⟨_,g1,g2,g3,g4,g5⟩:=f3 b hb;rcases g3 with g3|g3
   ·exact I3.ok.yc b o e g3
   ·exact absurd (Lv (Lm e) (Lk I3.ok.An g3)) (MC _)
  ·have hb:b∈fp:=hb;obtain⟨_,g1,g2,g3,g4,g5⟩:=f3 b hb;rcases Le.mp (I3.lM b hf) with z|z
   ·exact g1 z
   ·exact g2 z
  ·have hi:own.length<=i:=by
    rcases Ma i own.length with hlt|hge
    ·rw[MQ (by simpa using hlt),Nd] at e2
     split at e2<;>cases e2
    ·exact hge
   rw[Ml (by simpa using hi),Ln] at e2
   have e1:N[own.length+(i-own.length)]?=some x:=by rw[Nat.add_sub_cancel' hi];exact e1
   have e1d:(N.drop own.length)[i-own.length]?=some x:=by rw[Mr];exact e1
   have nl:scope.names.lookup x≠some .local:=S.own x (LW e1d);have vis:scope.names.lookup x=some .free:=by
    rcases e3 with z|z
    ·exact absurd ((cC (env:=X.env) x S.jA).1 z) nl
    ·exact (cC (env:=X.env) x S.jA).2 z
   have hlen:=I3.len;have hlt:i-own.length<X.N.length:=by
    rw[<- hlen];exact (Ll.mp e2).1
   have hxN:X.N[i-own.length]?=some x:=by
    rw[KW hlt];have mz:(X.N[i-own.length],x)∈ON.zip (N.drop own.length):=by
     rw[<- hON];refine LW (i:=i-own.length) ?_;rw[List.getElem?_zip_eq_some];exact⟨KW hlt,e1d⟩
    rcases S.out _ mz with z|z
    ·exact L0 some z
    ·exact absurd z (by rw[vis];simp)
   have hko:X.env.scope.names.lookup x=some .cell\/X.env.scope.names.lookup x=some .free:=by subst hosc;exact S.free _ (PySem.mem_of_lookup vis) rfl
   obtain⟨m,hn,hl⟩:=I3.loc;have hv:Es X.env.scope x:=by
    rcases hko with z|z
    ·exact .inr (.inl z)
    ·exact .inr (.inr z)
   obtain⟨u,ru,lk⟩:=hl _ x v hxN e2 hv;refine⟨u,ru,.inr ⟨?_,?_⟩⟩
   ·rcases e3 with z|z
    ·exact absurd ((cC (env:=X.env) x S.jA).1 z) nl
    ·exact z
   ·rcases lk with ⟨k,_⟩|⟨_,c,ec,hcell⟩
    ·exfalso
     have k':X.env.scope.names.lookup x=some .local:=k;rcases hko with z|z
     ·rw[k'] at z;cases z
     ·rw[k'] at z;cases z
    ·obtain⟨c',ec'⟩:=f_ (cells:=X.env.cells) (acc:=[]) (PySem.mem_of_lookup vis);have:=sub x c' ec';rw[ec] at this;cases this;obtain⟨o,ho,hd⟩:=hcell;exact⟨c,ec',o,old c o ho,hd⟩
  ·obtain⟨v,o,ho,hd⟩:=I3.cell x c (sub x c e);exact⟨v,o,old c o ho,hd⟩
  ·show (List.replicate own.length none++σ).length=N.length;rw[S.len,KY,Ln,I3.len,hON]
 have stat:∀{H':Hp},(∀ b∈fp,H' b=none)->∀ b∈fp,j_ (aE X scope N s3.heap.objs.size s3 H3 fp) [] H' b:=fun {H'} hn b hb=>by
  obtain⟨_,g1,g2,g3,g4,g5⟩:=f3 b hb;refine⟨hn b hb,?_,fun hf=>?_,.inl hb,fun x c e=>g4 x c (sub x c e),fun p hp=>absurd (show p∈([]:List (Addr×Obj)) from hp) (by simp)⟩
  ·have:=fp2 b hb;show b≠s3.heap.objs.size;rw[hsz3,<- hD];exact Ly (Nr this)
  ·rcases Le.mp (I3.lM b hf) with z|z
   ·exact g1 z
   ·exact g2 z
 have st4:tn 0 h₁:=T.keep _ _ _ st2 fun b hb o e=>old b o (by rw[eh3];exact La _ e)
 have loop:∀ s4:Shared,s4={s3 with heap:=h₁,toks:=s2.toks+([]:List (Str×Value)).length} ->
   codeAny (model X.prog X.w) X.A (.compLoop (.ListComp elt [⟨tg,iter,ifs,0⟩] scope pos) 0 (.ref it) (.ref D) (aE X scope N s3.heap.objs.size s3 H3 fp).env) (RR (.ref D) s3.heap.objs.size) s4:=by
  rintro s4 rfl;refine lK (fun n s'=>∃ i ys σ' H',Inv (aE X scope N s3.heap.objs.size s3 H3 fp) [] σ' H' s'/\tn i s'.heap/\(∀ b∈fp,H' b=none)/\W i n ys σ' H') ?_ m0 ⟨0,[],_,H3,JB _,st4,fun b hb=>(f3 b hb).1,w0⟩;rintro n s5 ⟨i,ys,σ5,H5,I5,st5,fr5,w5⟩;obtain⟨hD5,ways⟩:=turn i n ys σ5 H5 w5;rcases ways with ⟨stop,qn⟩|⟨go,hys,step⟩
  ·refine bu (T.done (aE X scope N s3.heap.objs.size s3 H3 fp) rfl rfl rfl hc i [] s5 σ5 H5 _ I5 (stat fr5) st5 stop) fun r s6 ⟨hr,I6⟩=>?_;subst hr;obtain⟨m,hn,_⟩:=I6.loc;refine fin D _ H5 s6 m ?_ qn I6.free (Lk I3.sz (Lj _)) ?_ (fun x c e z=>?_) (fun p hp z=>?_) hn
   ·refine I3.GB (ch:=fp) I6.os I6.base I6.aJ I6.bare fun b hb=>?_;obtain⟨_,g1,g2,g3,g4,g5⟩:=f3 b hb;exact⟨g3,g1,g4,g5⟩
   ·exact M6 I3.lt
   ·obtain⟨v,o,ho,_⟩:=I3.cell x c e;exact absurd (Lm ho) (by rw[z];exact MC _)
   ·exact absurd (Lm (I3.pin p hp).1) (by rw[z];exact MC _)
  ·refine bu (T.item (aE X scope N s3.heap.objs.size s3 H3 fp) rfl rfl rfl hc i [] s5 σ5 H5 _ I5 (stat fr5) st5 go) fun r s6 ⟨u,hr,h6⟩=>?_;subst hr;refine bu h6 fun _ s7 ⟨x,H7,I7,r7,y7,st7,fr7⟩=>?_;have I7':=I7.pinned (stat fr7) (T.obj _ _ st7);have back:∀{σ8:St} {H8:Hp} {s8:Shared},Inv (aE X scope N s3.heap.objs.size s3 H3 fp) ([]++jM fp s7.heap) σ8 H8 s8->tn (i+1) s8.heap/\∀ b∈fp,H8 b=none:=fun {σ8 H8 s8} I8=>by
    refine⟨T.keep _ _ _ st7 fun b hb o e=>(I8.pin (b,o) (Lw _ (Lw _ (e_ hb e)))).1,fun b hb=>?_⟩;obtain⟨o,e,d⟩:=T.obj _ _ st7 b hb;exact (I8.pin (b,o) (Lw _ (Lw _ (e_ hb e)))).2.1
   refine bu (hg _ _ _ _ _ s7 σ5 H7 x u _ I7' r7 (step x H7 y7)) fun _ s8 ⟨σ8,H8,I8,q8⟩=>?_;refine bu (ht _ _ _ _ _ s8 σ8 H8 _ I8 q8) fun ok s9 ⟨H9,I9,q9⟩=>?_
   cases ok with
   |false =>
    rw[Lc (by simp)] at q9 ⊢
    obtain⟨m',hm,w9⟩:=q9;exact⟨m',hm,i+1,ys,σ8,H9,I9.fI,(back I9).1,(back I9).2,w9⟩
   |true =>
    rw[Li rfl] at q9 ⊢;refine bu (he _ _ _ _ _ s9 σ8 H9 _ I9 q9) fun y s10 ⟨v10,H10,I10,r10,hD10,m',hm,w10⟩=>?_;refine bu (e9 _ s10 σ8 H10 (.ref D) [v10] (.ref D) [y] (fun r H11=>r=.aC/\H11=upd H10 D (.lst (ys++[v10]))) I10 rfl (.cons r10 .nil) ⟨D,ys,v10,rfl,rfl,hD10,hys,rfl,rfl⟩) fun _ s11 ⟨_,H11,I11,_,_,e11⟩=>?_;subst e11;exact⟨m',hm,i+1,_,σ8,_,I11.fI,(back I11).1,(back I11).2,w10⟩
 have start:=codeAny_compStart_list (R:=RR (.ref D) s3.heap.objs.size) (loop _ rfl) (T.self X.A 0 _ _ _ st4 (loop _ rfl));subst hs3;exact start
theorem Ad{own:List Str}{pos:Pos}{wi:TI}{g:TG}(S:bS osc ON scope own N)(hosc:X.env.scope=osc)(hON:X.N=ON)(hc:X.calm=true)(hi:PI X tg iter wi)
  (hg:∀ C s H fp,PG (aE X scope N C s H fp) tg g) (ht:∀ C s H fp,Ff (aE X scope N C s H fp) ifs tc) (he:∀ C s H fp,PE (aE X scope N C s H fp) elt te)
  (hs:autoParam (∀ x,foldedSetIterable iter X.env x=pure x) ℜ3) :
  PE X (.ListComp elt [⟨tg,iter,ifs,0⟩] scope pos) (lu wi own.length g tc te):=by
 intro pins s σ H Q I h;have hfr:∀ y∈scope.names,y.2=.free->∃ c,X.env.cells.lookup y.1=some c:=fun y hy hf=>I.ok.has _ (by subst hosc;exact S.free y hy hf)
 rw[eval_ListComp];refine OZ (use:=none) rfl hs (gr hfr) S.kind S.loc ?_;refine kZ S hosc hON hc hi hg ht he I h (RR:=fun acc C=>compPost (model X.prog X.w) X.A X.xe none (EP X pins σ Q) acc C) ?_;intro D C H' s' m I' q h1 h2 h3 h4 h5 hn;exact⟨m,hn,fun h'' hs''=>⟨.ref D,H',I'.turned (t':=s'.toks) (fun b o hb e=>(hs''.2 b hb).trans e) h1 h3 (.inr h2) h4 h5,rfl,q⟩⟩
theorem pz{own:List Str}{pos spos py:Pos}{wi:TI}{g:TG}{y:Str}(hN:X.N.Nodup)(hj:X.N[j]?=some y)(hx:Loc X.env.scope y)(S:bS osc ON scope own N)(hosc:X.env.scope=osc)(hON:X.N=ON)(hc:X.calm=true)(hi:PI X tg iter wi)
  (hg:∀ C s H fp,PG (aE X scope N C s H fp) tg g) (ht:∀ C s H fp,Ff (aE X scope N C s H fp) ifs tc) (he:∀ C s H fp,PE (aE X scope N C s H fp) elt te)
  (hsw:autoParam (swapsWith (.ListComp elt [⟨tg,iter,ifs,0⟩] scope pos) (some (.Name y py)) spos.line X.env=pure true) ℜ0)
  (hf:autoParam (X.fn y=true\/X.env.scope.names.lookup y=some .local) ℜ2)
  (hs:autoParam (∀ x,foldedSetIterable iter X.env x=pure x) ℜ3) :
  PS X (.Assign [.Name y py] (.ListComp elt [⟨tg,iter,ifs,0⟩] scope pos) spos) (pF (lu wi own.length g tc te) (cV j)):=by
 intro pins s σ H Dn I h;have hfr:∀ y∈scope.names,y.2=.free->∃ c,X.env.cells.lookup y.1=some c:=fun y hy hf=>I.ok.has _ (by subst hosc;exact S.free y hy hf)
 rw[exec_Assign_Name_used _ _ _ _ hsw];refine KU (NZ (KU ?_));show wpAny _ X.A (do let _ <- comprehension (.ListComp elt [⟨tg,iter,ifs,0⟩] scope pos) scope X.env _ (newList []) false (eval iter X.env) (some (assign (.Name y py) X.env))) _ _ s
 refine KU (Me (OZ (use:=some (assign (.Name y py) X.env)) (Q:=fun _ s'=>SP X pins Dn .next s') rfl hs (gr hfr) S.kind S.loc ?_) (fun _ s' hq=>Lh (Lh hq)) fun _ _ e=>e);refine kZ S hosc hON hc hi hg ht he I h (RR:=fun acc C=>compPost (model X.prog X.w) X.A X.xe (some (assign (.Name y py) X.env)) (fun _ s'=>SP X pins Dn .next s') acc C) ?_;intro D C H' s' m I' q h1 h2 h3 h4 h5 hn;show wpAny _ X.A (assign (.Name y py) X.env (.ref D)) _ _ _;refine wpAny_assign_Name (lA I' hN hj hx (v:=.ref D) rfl (fun s'' I'' hsb=>?_) hf);obtain⟨a,sb,ha⟩:=hsb;have nC:C≠a:=by
  rcases ha with ha|ha
  ·rw[ha];exact h3
  ·exact (h4 y a ha).symm
 exact⟨m,hn.sameBut sb nC,fun h'' hs''=>⟨_,H',I''.turned (t':=s''.toks) (fun b o hb e=>(hs''.2 b hb).trans e) h1 h3 (.inr h2) h4 h5,q⟩⟩
noncomputable def cL(e:Expr):Bool:=match e with
 |.Starred ..=>false
 |_=>true
theorem cf(h:cL e=true):starEach (e::es) env=(false,eval e env)::starEach es env:=by
 cases e<;>first|rfl|cases h
theorem plain_any{pos:Pos}:∀{es:List Expr},es.all cL=true->(backTo pos (starEach es env)).any (·.1)=false
 |[],_=>rfl
 |e::es,h=>by
  rw[L_,LQ] at h;rw[cf h.1];show (false || (backTo pos (starEach es env)).any (·.1))=false;rw[plain_any h.2];rfl
theorem plain_all{pos:Pos}:∀{es:List Expr},es.all cL=true->(backTo pos (starEach es env)).all (fun x=>!x.1)=true
 |[],_=>rfl
 |e::es,h=>by
  rw[L_,LQ] at h;rw[cf h.1];show (true && (backTo pos (starEach es env)).all (fun x=>!x.1))=true;rw[plain_all h.2];rfl
theorem CZ{cpos:Pos}(h:(e::es).all cL=true)(hl:(e::es).length<30):
  ((backTo cpos (starEach (e::es) env)).all (fun x=>!x.1) && (backToKw cpos (keywordEach [] env)).all (fun x=>x.1.isSome) && decide ((e::es).length+([]:List Keyword).length+(if ([]:List Keyword).isEmpty then 0 else 1)<30))=true:=by
 rw[plain_all h];have e2:(backToKw cpos (keywordEach [] env)).all (fun x=>x.1.isSome)=true:=rfl;rw[e2];have e3:(e::es).length+([]:List Keyword).length+(if ([]:List Keyword).isEmpty then 0 else 1)<30:=hl
 rw[LG e3];rfl
section
variable {X:Cx} {e:Expr} {es:List Expr} {te:TE} {t:TA}
theorem Jg(ha:PE X e te)(hr:PA X es t)(h:autoParam (cL e=true) ℜ0):PA X (e::es) (hU te t):=tD ha hr (cf h)
theorem HE{id:String}{p pos:Pos}(hc:aQ X (.builtin id) r)(hg:Gl X x)(hm:X.mg x=none)(hv:bootBuiltins x=some (.builtin id))(ha:PA X (e::es) t)(h1:autoParam (cL e=true) ℜ0)(h2:autoParam (es.all cL=true) ℜ0)(hn:autoParam (x≠"__name__") ℜ1)(hdb:autoParam ((x ==("__debug__":Str))=false) ℜ1):
  PE X (.Call (.Name x p) (e::es) [] pos) (Cu r t):=yx hc hg hm hv ha hn hdb (cf h1) (plain_any h2)
theorem Gi{T:String}{p pos:Pos}(hc:aQ X (.type T) r)(hg:Gl X x)(hm:X.mg x=none)(hv:bootBuiltins x=some (.type T))(ha:PA X (e::es) t)(h1:autoParam (cL e=true) ℜ0)(h2:autoParam (es.all cL=true) ℜ0)(hn:autoParam (x≠"__name__") ℜ1)(hdb:autoParam ((x ==("__debug__":Str))=false) ℜ1):
  PE X (.Call (.Name x p) (e::es) [] pos) (Cu r t):=uL hc hg hm hv ha hn hdb (cf h1) (plain_any h2)
theorem EO{o:Expr}{to:TE}{cpos:Pos}{T id:String}{r:V->List V->Hp->VK->Prop}(pa:PlainAttrs T)(slot:Slot T name id)(hty:typeOf (.builtin id)=pure (.type "method_descriptor"))(hm:vt X id r)(ho:PE X o to)(ha:PA X (e::es) t)
  (hbase:attributeBase o name X.env (eval o X.env)=eval o X.env) (hline:(apos.endLine == cpos.line)=true) (h:(e::es).all cL=true) (hl:(e::es).length<30):PE X (.Call (.Attribute o name apos) (e::es) [] cpos) (JI X.K T r to t):=by
 have h':=h;rw[L_,LQ] at h';exact Hx pa slot hty hm ho ha hbase (CZ h hl) hline (cf h'.1) (plain_any h'.2)
theorem qL{a:Expr}{ta:TA}{p pos:Pos}(hg:Gl X "range")(hm:X.mg "range"=none)(ha:PA X [a] ta)(h:autoParam (cL a=true) ℜ0):PI X tg (.Call (.Name "range" p) [a] [] pos) (yq ta):=uT hg hm ha (cf h)
end
structure HasFn (K:Qf) (mg:Str->Option Value) (x:Str) (st:Stmt) (ps:List Str):Prop where
 ex:∃(f:Addr) (fd:FuncData),CK K x x st f fd/\Binds K fd ps []/\mg x=some (.ref f)
structure ae (P:Program) (w:World) (K:Qf) (mg:Str->Option Value) (base:Heap) (CX:mC) (k:Nat) (x:Str) (ps:List Str) (sp:Sp):Prop where
 ex:∃(f:Addr) (fd:FuncData),mg x=some (.ref f)/\PySem.W.keepIn K (.ref f)=true/\Binds K fd ps []/\dZ P w K mg base CX k f fd ps sp
section
variable {P:Program} {w:World} {K:Qf} {mg:Str->Option Value} {base:Heap}
theorem ae.mono{ps:List Str}(F:ae P w K mg base CX j x ps sp)(h:j<=k):ae P w K mg base CX k x ps sp:=by
 obtain⟨f,fd,m,kp,b,G⟩:=F.ex;exact⟨f,fd,m,kp,b,G.mono h⟩
end
section
variable {X:Cx} {CX:mC} {k:Nat} {ps:List Str} {sp:Sp} {E:XK} {x:Str} {p pos:Pos} {e:Expr} {es:List Expr} {t:TA}
theorem FQ(F:ae X.prog X.w X.K X.mg X.base CX k x ps sp)(hr:bG k X.A)(hg:Gl X x)(hx:Passes CX X E)(ha:PA X (e::es) t)(h1:autoParam (cL e=true) ℜ0)(h2:autoParam (es.all cL=true) ℜ0)(hdb:autoParam ((x ==("__debug__":Str))=false) ℜ1):
  PE X (.Call (.Name x p) (e::es) [] pos) (jF sp [] E t):=by
 obtain⟨f,fd,m,kp,b,G⟩:=F.ex;exact zV G hr hg m kp b .nil hx ha hdb (cf h1) (plain_any h2)
theorem ED(F:ae X.prog X.w X.K X.mg X.base CX k x ps sp)(hr:bG k X.A)(hg:Gl X x)(hx:Passes CX X E)(hdb:autoParam ((x ==("__debug__":Str))=false) ℜ1):
  PE X (.Call (.Name x p) [] [] pos) (jF sp [] E ot):=by
 obtain⟨f,fd,m,kp,b,G⟩:=F.ex;exact yt G hr hg m kp b .nil hx hdb
end
noncomputable def CU:Expr->Option V
 |.Constant (.int i) _ _=>some (.int i)
 |.Constant (.str x) _ _=>some (.str x)
 |.Constant (.bool b) _ _=>some (.bl b)
 |.Constant .none _ _=>some .aC
 |_=>none
noncomputable def lE:List Expr->Option (List V)
 |[]=>some []
 |e::es=>match CU e,lE es with
  |some v,some vs=>some (v::vs)
  |_,_=>none
noncomputable def tK(vs:List V):TA:=fun _ H Q=>Q vs H
theorem DJ{v:V}(h:CU e=some v):PE X e (tC v)/\∀ es,starEach (e::es) X.env=(false,eval e X.env)::starEach es X.env:=by
 unfold CU at h
 split at h
 ·cases h;exact⟨wD,fun _=>rfl⟩
 ·cases h;exact⟨wa,fun _=>rfl⟩
 ·cases h;exact⟨Cp,fun _=>rfl⟩
 ·cases h;exact⟨vF,fun _=>rfl⟩
 ·cases h
theorem kL{X:Cx}:∀{es:List Expr} {vs:List V},lE es=some vs->PA X es (tK vs)
 |[],vs,h=>by cases h;exact wb
 |e::es,vs,h=>by
  unfold lE at h
  split at h
  ·rename_i v ws e1 e2;cases h;have p:=DJ (X:=X) e1;exact tD (te:=tC v) (t:=tK ws) p.1 (kL e2) (p.2 es)
  ·cases h
noncomputable def sq(H:Hp)(p:Addr):Option (Bool×List V):=match H p with
 |some (.lst xs)=>some (true,xs)
 |some (.tup xs)=>some (false,xs)
 |some (.gK _ (.lst xs))=>some (true,xs)
 |some (.gK _ (.tup xs))=>some (false,xs)
 |_=>none
section
variable {X:Cx}
noncomputable def kf(K:Qf):R2:=fun x y H Q=>match x,y with
 |.int i,.int j=>Q (.int (i+j)) H
 |.str i,.str j=>i.length+j.length<=sizeLine/\Q (.str (i++j)) H
 |.ref a,.ref b=>match H a,H b with
  |some (.lst xs),some (.lst ys)=>xs.length+ys.length<=sizeLine/\∀ p,H p=none->Q (.ref p) (upd H p (.lst (xs++ys)))
  |some (.tup xs),some (.tup ys)=>xs≠[]/\ys≠[]/\xs.length+ys.length<=sizeLine/\∀ p,H p=none->Q (.ref p) (upd H p (.tup (xs++ys)))
  |_,_=>False
 |_,_=>False
noncomputable def DZ:R2:=fun x y H Q=>match x,y with
 |.int i,.int j=>nL i j/\Q (.int (i*j)) H
 |.ref a,.int j=>FV (.ref a) (.int j) H Q
 |_,_=>False
theorem zL:cE X (binaryOp .Mult) DZ:=by
 intro pins s σ H x y v u Q I rx ry h
 cases x with
 |int i=>cases y with
  |int j=>exact DR pins s σ H _ _ v u Q I rx ry ⟨i,j,rfl,rfl,h.1,h.2⟩
  |_=>exact (show False from h).elim
 |ref a=>cases y with
  |int j=>exact DD pins s σ H _ _ v u Q I rx ry h
  |_=>exact (show False from h).elim
 |_=>exact (show False from h).elim
noncomputable def Kz(K:Qf):R2:=fun x y H Q=>match x,y with
 |.str z,.int i=>z.length<=sizeLine/\(match aY z.cps.toList i with|some c=>Q (.str ⟨#[c]⟩) H|none=>False)
 |.ref p,.int i=>match sq H p with
  |some (_,xs)=>(match aY xs i with|some v=>Q v H|none=>False)
  |none=>∃ xs v,bL K H p xs/\aY xs i=some v/\Q v H
 |_,_=>False
noncomputable def Jw(K:Qf):V->Option Int->Option Int->Hp->VK->Prop:=fun x lo hi H Q=>match x with
 |.ref p=>match sq H p with
  |some (true,xs)=>∀ q,H q=none->Q (.ref q) (upd H q (.lst (lO xs lo hi)))
  |some (false,xs)=>AI K (.ref p) lo hi H Q
  |none=>AI K (.ref p) lo hi H Q
 |_=>False
noncomputable def xg:V->V->V->Hp->(Hp->Prop)->Prop:=fun o i v H Q=>match o,i with
 |.ref p,.int k=>match H p with
  |some (.lst xs)=>(match ie xs.length k with|some j=>Q (upd H p (.lst (xs.set j v)))|none=>False)
  |_=>False
 |_,_=>False
theorem uset:AH X xg:=by
 intro pins s σ H o i v ov iv u Q I ro ri rv h
 cases o with
 |ref p=>cases i with
  |int k =>
   unfold xg at h;simp only at h
   split at h
   ·rename_i xs e
    split at h
    ·rename_i j e';exact set_list pins s σ H _ _ v ov iv u Q I ro ri rv ⟨p,xs,k,j,rfl,rfl,e,e',h⟩
    ·exact h.elim
   ·exact h.elim
  |_=>exact (show False from h).elim
 |_=>exact (show False from h).elim
noncomputable def HX:List V->Hp->VK->Prop:=fun xs H Q=>match xs with
 |[.int i,.int j]=>Q (.int (if j<i then j else i)) H
 |_=>False
theorem kY(hc:X.calm=true):aQ X (.builtin "min") HX:=by
 intro pins s σ H xs us Q I r h;rcases xs with _|⟨x,_|⟨y,_|⟨z,xs⟩⟩⟩
 ·exact (show False from h).elim
 ·cases x<;>exact (show False from h).elim
 ·cases x with
  |int i=>cases y with
   |int j=>exact uv hc pins s σ H _ us Q I r ⟨i,j,rfl,h⟩
   |_=>exact (show False from h).elim
  |_=>exact (show False from h).elim
 ·cases x with
  |int i=>cases y<;>exact (show False from h).elim
  |_=>exact (show False from h).elim
noncomputable def i8(K:Qf):List V->Hp->VK->Prop:=fun xs H Q=>match xs with
 |[.ref p]=>match sq H p with
  |some (true,ys)=>∀ l,H l=none->Q (.ref l) (upd H l (.tup ys))
  |some (false,_)=>Q (.ref p) H
  |none=>∃ ys,bL K H p ys/\Q (.ref p) H
 |_=>False
noncomputable def HL:List V->Hp->VK->Prop:=fun xs H Q=>match xs with
 |[.int i]=>Q (.int i) H
 |[.bl k]=>Q (.int (if k=true then 1 else 0)) H
 |_=>False
theorem uQ:aQ X (.type "int") HL:=by
 intro pins s σ H xs us Q I r h;rcases xs with _|⟨x,_|⟨y,ys⟩⟩
 ·exact (show False from h).elim
 ·cases x with
  |int i=>exact lr pins s σ H _ us Q I r (.inl ⟨i,rfl,h⟩)
  |bl k=>exact lr pins s σ H _ us Q I r (.inr ⟨k,rfl,h⟩)
  |_=>exact (show False from h).elim
 ·cases x<;>exact (show False from h).elim
theorem t_(hc:X.calm=true):aQ X (.builtin "sum") (fun xs H Q=>∃(p:Addr) (ns:List Int),xs=[.ref p]/\bH X.K H p (ns.map V.int)/\Q (.int ns.sum) H):=by
 intro pins s σ H xs us Q I r h;obtain⟨p,ns,rfl,hq,q⟩:=h;obtain⟨u,rfl,ru⟩:=vals1 r;cases ru;obtain⟨its,rv,pl,hz⟩:=I.list hq;have hi:=intsAre_of rv;obtain⟨xs,hx⟩:=hi.allInts.items;have hl':s.heap.IsList p (intItems xs):=by rw[<- hx];exact pl.isList
 refine sum_intListG (I.ok.hd hc) hl' fun h' tk t' hk=>?_;have e1:ns=xs.toList.map (·.1):=by rw[<- nums_intItems,<- hx];exact hi.numsOf.symm
 have e2:preSum (numAt xs) xs.size=ns.sum:=by rw[preSum_eq,Mm (by simp),e1]
 rw[e2];exact⟨.int ns.sum,H,I.kept hk,⟨_,rfl⟩,q⟩
noncomputable def Cb(H:Hp):V->Option String
 |.aC=>some "NoneType"
 |.bl _=>some "bool"
 |.int _=>some "int"
 |.str _=>some "str"
 |.ref a=>match H a with
  |some (.lst _)=>some "list"
  |some (.tup _)=>some "tuple"
  |some (.dK _)=>some "dict"
  |_=>none
 |_=>none
theorem EE{x:V}{t:String}(h:Cb H x=some t):ib K H x (.type t):=by
 unfold Cb at h
 split at h
 ·cases h;exact .aC
 ·cases h;exact .bl _
 ·cases h;exact .int _
 ·cases h;exact .str _
 ·split at h
  ·rename_i e;cases h;exact .lst e
  ·rename_i e;cases h;exact .tup e
  ·rename_i e;cases h;exact .dK e
  ·cases h
 ·cases h
noncomputable def eB(t c:String):Bool:=decide (t=c) || (t == "bool" && c == "int")
theorem yr{t c:String}(ht:t∈["NoneType","bool","int","str","list","tuple","dict"])(hc:c∈["bool","int","str","list","tuple","dict"]):PySem.W.kitOne K (.type t) (.type c)=some (eB t c):=by
 simp only[Le,LU,MF] at ht hc;rcases ht with rfl|rfl|rfl|rfl|rfl|rfl|rfl<;>rcases hc with rfl|rfl|rfl|rfl|rfl|rfl<;>rfl
theorem EY{x:V}{t:String}(h:Cb H x=some t):t∈["NoneType","bool","int","str","list","tuple","dict"]:=by
 unfold Cb at h
 split at h
 ·cases h;decide
 ·cases h;decide
 ·cases h;decide
 ·cases h;decide
 ·split at h
  ·cases h;decide
  ·cases h;decide
  ·cases h;decide
  ·cases h
 ·cases h
noncomputable def oB(K:Qf):List V->Hp->VK->Prop:=fun xs H Q=>match xs with
 |[x,.ty T]=>T∈["bool","int","str","list","tuple","dict"]/\match Cb H x with
  |some t=>Q (.bl (eB t T)) H
  |none=>∃ t b,ib K H x t/\PySem.W.kitOne K t (.type T)=some b/\Q (.bl b) H
 |_=>False
theorem tN:aQ X (.builtin "isinstance") (oB X.K):=by
 intro pins s σ H xs us Q I r h;rcases xs with _|⟨x,_|⟨y,_|⟨z,xs⟩⟩⟩
 ·exact (show False from h).elim
 ·exact (show False from h).elim
 rotate_left
 ·cases y<;>exact (show False from h).elim
 cases y with
 |ty T =>
  obtain⟨u,w',rfl,r1,r2⟩:=vals2 r;cases r2;obtain⟨hT,h⟩:=h
  split at h
  ·rename_i t e;exact kR I r1 (EE e) (yr (EY e) hT) fun tk=>⟨.bl _,H,I.tok _,rfl,h⟩
  ·obtain⟨t,b,ty,k,q⟩:=h;exact kR I r1 ty k fun tk=>⟨.bl b,H,I.tok _,rfl,q⟩
 |_=>exact (show False from h).elim
theorem Fc{T:String}{pos:Pos}(hg:Gl X x)(hm:X.mg x=none)(hv:bootBuiltins x=some (.type T))(hn:autoParam (x≠"__name__") ℜ1)(hd:autoParam ((x ==("__debug__":Str))=false) ℜ1):PE X (.Name x pos) (tC (.ty T)):=zJ hg hm hv rfl hn hd
end
section
variable {X:Cx} {e:Expr} {te:TE}
theorem sZ(p:Nat->Bool):∀(l:List Nat),l.drop (l.takeWhile p).length=l.dropWhile p
 |[]=>rfl
 |x::l=>by
  by_cases h:p x
  ·simp[O4,N9,h,sZ p l]
  ·simp[O4,N9,h]
end
open AutoSeq1 (wpAny_loadPart')
section
variable {prog:Program} {w:World} {A:Around} {E:Value->Shared->Prop} {s:Shared}
theorem iM{x:Value}(hit:s.heap.IsTupleIter it l i)(hl:s.heap.IsTuple l items)(hx:items[i]?=some x)
  (hQ:∀ h',h'.IsTupleIter it l (i+1)->Heap.SameBut it s.heap h'->Q x {s with heap:=h'}):wpAny (model prog w) A (Builtin.SmallTypes.nextOf (.ref it)) Q E s:=by
 obtain⟨o,ho,hc,hd⟩:=id hit;obtain⟨ol,hol,_,nl,hdl⟩:=hl;unfold Builtin.SmallTypes.nextOf;refine KU (LZ (name:=Str.ofString "__next__") hit.typeIs ML (Mb ML hit.typeIs OH ?_ (OA _)));show wpAny _ _ (field (.ref it) 0 >>= _) _ _ s;refine KU (Nq ho hd (x:=.ref l) rfl ?_);show wpAny _ _ (if (Value.ref l == Value.none)=true then _ else _) _ _ s
 rw[Lc (show ¬ ((Value.ref l == Value.none)=true) from Lg)];show wpAny _ _ (field (.ref it) 1 >>= _) _ _ s;refine KU (Nq ho hd (x:=.int i 0) rfl ?_);show wpAny _ _ (seqItems? (.ref l) >>= _) _ _ s;refine KU (Nw hol hdl ?_);simp only[LI,hx];refine KU (OB ho hd (by simp) (Lh ⟨x,rfl,Lh (hQ _ ?_ (Mo ..))⟩))
 exact⟨_,Nv _ ho (Obj.isFreed_of_fields (NG hd _)),(Obj.cls_mapFields ..).trans hc,by rw[NG hd];simp[rawInt]⟩
theorem jk(hh:A.handled=none)(hit:s.heap.IsTupleIter it l i)(hl:s.heap.IsTuple l items)(hx:items[i]?=none)
  (hE:∀ h' e,Heap.ExtBut it s.heap h'->(∃ o,h'.get? e=some o/\o.cls=.type "StopIteration")->E (.ref e) {s with heap:=h'}):wpAny (model prog w) A (Builtin.SmallTypes.nextOf (.ref it)) Q E s:=by
 obtain⟨o,ho,hc,hd⟩:=id hit;obtain⟨ol,hol,_,nl,hdl⟩:=hl;unfold Builtin.SmallTypes.nextOf;refine KU (LZ (name:=Str.ofString "__next__") hit.typeIs ML (Mb ML hit.typeIs OH ?_ (OA _)));show wpAny _ _ (field (.ref it) 0 >>= _) _ _ s;refine KU (Nq ho hd (x:=.ref l) rfl ?_);show wpAny _ _ (if (Value.ref l == Value.none)=true then _ else _) _ _ s
 rw[Lc (show ¬ ((Value.ref l == Value.none)=true) from Lg)];show wpAny _ _ (field (.ref it) 1 >>= _) _ _ s;refine KU (Nq ho hd (x:=.int i 0) rfl ?_);show wpAny _ _ (seqItems? (.ref l) >>= _) _ _ s;refine KU (Nw hol hdl ?_);simp only[LI,hx];refine KU (OQ (KU (OB ho hd (by simp) ?_)))
 show wpAny _ _ (newExc (.type "StopIteration") [] >>= _) _ _ _;refine KU ?_;simp only[newExc,newTuple];refine KU (Mn ?_ (by size_fits))
 refine KU (m:=firstArgMember _ _) (wpAny_of_eq (a:=Value.none) (by first|rfl | (simp only[firstArgMember];rfl)) ?_)
 refine Mn ?_ (by size_fits)
 simp only[raiseNew];refine KU (wpAny_handled ?_)
 first|rw[show A.in1.handled=none from hh]|rw[hh]
 refine KU (Lh (wpAny_throw ?_));exact hE _ _ (((Mo ..).extBut.push _).push _) ⟨_,Lq _ rfl,rfl⟩
theorem ik(hh:A.handled=none)(it l:Addr)(hne:l≠it)(items:Array Value):
  Draws prog w A it [it,l] items.size (fun i v=>items[i]?=some v) (fun i h=>h.IsTupleIter it l i/\h.IsTuple l items) where
 live:=fun _ _ st=>let ⟨o,ho,_⟩:=st.1;⟨o,ho⟩
 frame:=fun _ _ _ st hk=>⟨let ⟨o,e,r⟩:=st.1;⟨o,hk it (by simp) o e,r⟩,let ⟨o,e,r⟩:=st.2;⟨o,hk l (by simp) o e,r⟩⟩
 item:=fun i s Q E hi st hQ=>by
  refine iM st.1 st.2 (x:=items[i]) (by simp[hi]) fun h' hit' hs'=>?_
  exact hQ _ h' s.toks (by simp[hi]) ⟨hit',st.2.extBut hs'.extBut hne⟩ hs'
 done:=fun s Q E st hE=>jk hh st.1 st.2 (by simp) hE
theorem jr(l:Addr)(items:Array Value)(n:Nat)(dct:Option Addr)(sl:Array (Option Value)):
  Meets (Builtin.«enumerate.__new__» ⟨[.type "enumerate",.ref l],[]⟩) (fun _ R s=>s.heap.get? l=some {cls:=.type "tuple",dict:=dct,data:=.seq items n,slots:=sl} /\
   R (.ok (.ret (.ref (s.heap.push {cls:=.type "tuple_iterator",data:=.fields #[.ref l,.int 0 0]}).objs.size)))
    {s with heap:=(s.heap.push {cls:=.type "tuple_iterator",data:=.fields #[.ref l,.int 0 0]}).push {cls:=.type "enumerate",data:=.fields #[.none,.bool false,.ref s.heap.objs.size,rawInt 0,.none,.none]}}):=
 .of_wp fun prog w A R s h=>by
  obtain⟨hp,g,d,tk,os⟩:=s;obtain⟨hl,h⟩:=h;have hsub:=sub_enumerate;have hL:Heap.IsTuple (Shared.heap ⟨hp,g,d,tk,os⟩) l items:=⟨_,hl,rfl,n,rfl⟩;wp_walk using Pu hl;refine wpAny_stack_any fun st=>Lh ?_;split
  ·rename_i c _ _ _ _ _
   cases (c == Value.type "enumerate")<;>(wp_walk using Pu hl,NH hL;exact⟨_,rfl,h⟩)
  ·wp_walk using Pu hl,NH hL;exact⟨_,rfl,h⟩
theorem jW(hL:s.heap.IsTuple l items)
  (h:∀ h',IsEnum h' (s.heap.objs.size+1) s.heap.objs.size 0 .none->h'.IsTupleIter s.heap.objs.size l 0->h'.objs.size=s.heap.objs.size+2 ->
   (∀ b o,s.heap.get? b=some o->h'.get? b=some o)->Q (.ref (s.heap.objs.size+1)) {s with heap:=h'}) :
  wpAny (model prog w) A (call (.type "enumerate") [.ref l]) Q E s:=by
 obtain⟨⟨c,dct,dt,sl⟩,hl,hc,n,hd⟩:=hL
 replace hc:c=.type "tuple":=hc
 replace hd:dt=.seq items n:=hd
 subst hc hd;refine O_ F.called_enumerate (by decide) (F.typeCall_enumerate_1 _) (F.newCall_enumerate_1 _) (fun obj=>F.args_object_init_2 obj _) F.entry_enumerate_new (jr l items n dct sl) ⟨hl,?_⟩
 have hz:(s.heap.push {cls:=.type "tuple_iterator",data:=.fields #[.ref l,.int 0 0]}).objs.size=s.heap.objs.size+1:=Ms ..;show _/\_;rw[hz];have he:IsEnum ((s.heap.push {cls:=.type "tuple_iterator",data:=.fields #[.ref l,.int 0 0]}).push {cls:=.type "enumerate",data:=.fields #[.none,.bool false,.ref s.heap.objs.size,rawInt 0,.none,.none]}) (s.heap.objs.size+1) s.heap.objs.size 0 .none:=by
  have:=Lq (s.heap.push {cls:=.type "tuple_iterator",data:=.fields #[.ref l,.int 0 0]}) (o:={cls:=.type "enumerate",data:=.fields #[.none,.bool false,.ref s.heap.objs.size,rawInt 0,.none,.none]}) rfl;rw[hz] at this;exact this
 refine⟨⟨_,he,rfl⟩,h _ he ⟨_,La _ (Lq _ rfl),rfl,rfl⟩ (by rw[Ms,hz]) fun b o x=>La _ (La _ x)⟩
end
section
variable {X:Cx} {pins:List (Addr×Obj)} {σ:St} {H:Hp} {s:Shared} {h':Heap}
theorem Inv.turns{t':Nat}(I:Inv X pins σ H s)(hf:∀ b∈fp,j_ X pins H b)(k:∀ b o,b∉fp->s.heap.get? b=some o->h'.get? b=some o):Inv X pins σ H {s with heap:=h',toks:=t'}:=by
 have nf:∀ b u,H b=some u->b∉fp:=fun b u e z=>by rw[(hf b z).1] at e;cases e
 refine I.step (g':=s.gens) (d':=s.drawn) (ch:=fp) (fun b hb=>?_) (fun b o _ _ hc e _=>k b o hc e) (fun b o _ _ hc e _=>⟨o.slots,k b o hc e⟩) (fun _ _ _ _ n=>n)
  (fun b o hc e=>⟨o,k b o hc e⟩) (fun _ _ e=>e) (fun _ _ _ e=>e) (fun b ps e=>⟨#[],by rw[e];simp⟩) (fun m hm=>?_) (fun b u e=>?_) I.bare
 ·obtain⟨_,g1,g2,g3,g4,g5⟩:=hf b hb;exact⟨g3,g1,g4,g5⟩
 ·obtain⟨o,es,ep,ho,r⟩:=hm;exact⟨o,es,ep,k _ o (fun z=>(hf _ z).2.1 rfl) ho,r⟩
 ·refine (I.aJ b u e).jY (fun c v hc q=>k c v ?_ q) (fun _ q=>q) (fun _ _ q=>q) fun _ _ _ q=>q;rcases hc with z|z
  ·rw[z];exact nf b u e
  ·exact nf c _ z
theorem Inv.lW{t':Nat}(I:Inv X pins σ H s)(hf:∀ b∈fp,j_ X pins H b)(hp:s.heap.objs.size<=p)(k:∀ b o,b∉fp->s.heap.get? b=some o->h'.get? b=some o)
  (new:aP X.prog X.w (upd H p o) h' p o):Inv X pins σ (upd H p o) {s with heap:=h',toks:=t'}:=by
 have nf:∀ b u,H b=some u->b∉fp:=fun b u e z=>by rw[(hf b z).1] at e;cases e
 have fr:H p=none:=I.aJ.fresh hp;have np:∀ b u,H b=some u->b≠p:=fun b u e=>aM e fr;have ne:∀ b o,s.heap.get? b=some o->b≠p:=fun b o e z=>by rw[z] at e;exact absurd (Lv (Lm e) hp) (MC _)
 refine I.step (g':=s.gens) (d':=s.drawn) (ch:=fp) (fun b hb=>?_) (fun b o _ _ hc e _=>k b o hc e) (fun b o _ _ hc e _=>⟨o.slots,k b o hc e⟩) (fun b o _ e n=>by rw[ai (ne b o e)];exact n)
  (fun b o hc e=>⟨o,k b o hc e⟩) (fun b xs e=>by rw[ai (np b _ e)];exact e) (fun b o u e=>by rw[ai (np b _ e)];exact e) (fun b ps e=>⟨#[],by rw[ai (np b _ e),e];simp⟩) (fun m hm=>?_) (fun b u e=>?_) I.bare
 ·obtain⟨_,g1,g2,g3,g4,g5⟩:=hf b hb;exact⟨g3,g1,g4,g5⟩
 ·obtain⟨o,es,ep,ho,r⟩:=hm;exact⟨o,es,ep,k _ o (fun z=>(hf _ z).2.1 rfl) ho,r⟩
 ·by_cases hb:b=p
  ·subst hb;rw[aq] at e;cases e;exact new
  ·rw[ai hb] at e;refine (I.aJ b u e).jY (fun c v hc q=>k c v ?_ q) (fun c q=>by rw[ai (np c _ q)];exact q) (fun c xs q=>by rw[ai (np c _ q)];exact q) fun c _ _ q=>by rw[ai (np c _ q)];exact q
   rcases hc with z|z
   ·rw[z];exact nf b u e
   ·exact nf c _ z
end
noncomputable def getL(K:Qf)(a:Addr):Nat->Hp->V->Prop:=fun i H x=>∃ xs,bH K H a xs/\xs[i]?=some x
noncomputable def Kc(K:Qf)(a:Addr):Nat->Hp->V->Prop:=fun i H x=>∃ xs,bL K H a xs/\xs[i]?=some x
noncomputable def Kj(K:Qf)(a:Addr):Nat->Hp->Prop:=fun i H=>∃ xs,bH K H a xs/\xs.length=i
noncomputable def JL(K:Qf)(a:Addr):Nat->Hp->Prop:=fun i H=>∃ xs,bL K H a xs/\xs.length=i
noncomputable def v_(K:Qf)(a:Addr):It:=
 ⟨fun i H=>∃ x,Kc K a i H x,fun i H x H'=>∃ p y,(∀ xs,bL K H a xs->xs[i]?=some y)/\H p=none/\x=.ref p/\H'=upd H p (.tup [.int i,y]),JL K a⟩
theorem qp{tk:Nat}(a it e:Addr)(hne:e≠it):Turn P w K (.Tuple es tk tp) (v_ K a) [e,it] e (fun i h=>(∃ old,IsEnum h e it i old)/\h.IsTupleIter it a i) where
 mem:=by simp
 obj:=fun i h st b hb=>by
  obtain⟨⟨old,he⟩,o,eo,c,d⟩:=st;rcases Le.mp hb with z|z
  ·subst z;exact⟨_,he,fun v z=>by cases z⟩
  ·have z:b=it:=by simpa using z
   subst z;exact⟨o,eo,fun v z=>by rw[d] at z;cases z⟩
 keep:=fun i h h' st k=>by
  obtain⟨⟨old,he⟩,o,eo,r⟩:=st;exact⟨⟨old,k e (by simp) _ he⟩,o,k it (by simp) o eo,r⟩
 item:=by
  intro X hP hw hK hc i pins s σ H E I hf st hg;subst hP hw hK;obtain⟨x,xs,hq,hx⟩:=hg;obtain⟨⟨old,he⟩,hit⟩:=st;obtain⟨its,rv,p,hz⟩:=I.tuple hq;obtain⟨u,hu,ru⟩:=rv.get hx;obtain⟨g0,g1,g2,g3,g4,g5⟩:=hf e (by simp)
  obtain⟨f0,f1,f2,f3,f4,f5⟩:=hf it (by simp)
  have ht:s.heap.IsTuple a its.toArray:=p;have ha:a≠it:=by
   rintro rfl;obtain⟨o,e1,c1,_⟩:=hit;obtain⟨o',e2,c2,_⟩:=ht;rw[e1] at e2;cases e2;rw[c1] at c2;exact absurd (Value.type.inj c2) (by decide)
  have hea:e≠a:=by
   rintro rfl;obtain⟨o',e2,c2,_⟩:=ht;have e1:s.heap.get? e=some _:=he;rw[e1] at e2;cases e2;exact absurd (Value.type.inj c2) (by decide)
  have hi:i<its.toArray.size:=by
   have:=(Ll.mp hu).1
   simpa using this
  refine Po (ik (A:=X.A.in1) (I.ok.hd hc) it a ha its.toArray) he ⟨hit,ht⟩ hi hne (by simp[hne,hea]) fun x' h' tk' hP ho hs' hT hsz hk=>?_
  have ex:x'=u:=by
   have hP':its.toArray[i]?=some x':=hP;rw[My,hu] at hP';exact (Option.some.inj hP').symm
  subst ex;refine⟨.ref s.heap.objs.size,rfl,OM ho fun h2 he2 hs2=>?_⟩;have fr:H s.heap.objs.size=none:=I.aJ.fresh (Lj _);have hle:e≠s.heap.objs.size:=Ly (Lm he);have hT2:h2.get? s.heap.objs.size=some {cls:=.type "tuple",data:=.seq #[.int i tk',x']}:=(hs2.2 _ (Ne.symm hle)).trans hT;have I2:Inv X pins σ (upd H s.heap.objs.size (.tup [.int i,x])) {s with heap:=h2,toks:=tk'+1}:=by
   refine I.lW (fp:=[e,it]) hf (Lj _) (fun b o hb eb=>?_) ⟨by show 2<=sizeLine;decide,[.int i tk',x'],.cons ⟨_,rfl⟩ (.cons ru .nil),⟨_,hT2,rfl,_,rfl,rfl⟩⟩
   have n1:b≠e:=fun z=>hb (by simp[z])
   have n2:b≠it:=fun z=>hb (by simp[z])
   exact (hs2.2 b n1).trans (hk b o n1 n2 eb)
  refine⟨.ref s.heap.objs.size,_,I2,rfl,⟨s.heap.objs.size,x,fun ys hy=>by rw[I.iu hy hq];exact hx,fr,rfl,rfl⟩,⟨⟨x',?_⟩,?_⟩,fun b hb=>?_⟩
  ·have e:(((i+1:Nat)):Int)=(i:Int)+1:=by lia
   rw[e];exact he2
  ·obtain⟨o,e1,r⟩:=hs'.1;exact⟨o,(hs2.2 it (Ne.symm hne)).trans e1,r⟩
  ·have n:b≠s.heap.objs.size:=by
    rcases Le.mp hb with z|z
    ·subst z;exact hle
    ·have z:b=it:=by simpa using z
     subst z;obtain⟨o,e1,_⟩:=hit;exact Ly (Lm e1)
   rw[ai n];exact (hf b hb).1
 done:=by
  intro X hP hw hK hc i pins s σ H E I hf st hg;subst hP hw hK;obtain⟨xs,hq,hx⟩:=hg;obtain⟨⟨old,he⟩,hit⟩:=st;obtain⟨its,rv,p,hz⟩:=I.tuple hq;have ht:s.heap.IsTuple a its.toArray:=p;have ha:a≠it:=by
   rintro rfl;obtain⟨o,e1,c1,_⟩:=hit;obtain⟨o',e2,c2,_⟩:=ht;rw[e1] at e2;cases e2;rw[c1] at c2;exact absurd (Value.type.inj c2) (by decide)
  have hl:=rv.length;have hsz:its.toArray.size=i:=by simp;lia
  refine P1 (ik (A:=X.A.in1) (I.ok.hd hc) it a ha its.toArray) he (by rw[hsz];exact⟨hit,ht⟩) fun h' eb=>⟨rfl,?_⟩
  exact I.turns (t':=s.toks) hf fun b o hb e1=>eb b o (fun z=>hb (by simp[z])) e1
 self:=fun A i s Q E st h=>by
  obtain⟨⟨old,he⟩,_⟩:=st;exact NR he h
section
variable {X:Cx} {es:List Expr} {tk:Nat} {tp:Pos}
noncomputable def BW(K:Qf)(ta:TA):TI:=fun σ H R=>ta σ H fun vs H1=>∃ a,vs=[.ref a]/\(∃ xs,bL K H1 a xs)/\R (v_ K a) H1
theorem zI{ta:TA}{p pos:Pos}(hg:Gl X "enumerate")(hm:X.mg "enumerate"=none)(ha:PA X [e] ta)(h1:autoParam (cL e=true) ℜ0)(hv:autoParam (bootBuiltins "enumerate"=some (.type "enumerate")) ℜ6):
  PI X (.Tuple es tk tp) (.Call (.Name "enumerate" p) [e] [] pos) (BW X.K ta):=by
 intro pins s σ H R I h;refine Call_ (eM I hg hm hv (Mh (bu (ha pos pins s σ H _ I h) fun us s1 ⟨vs,H1,I1,r1,q1⟩=>?_) (cf h1) rfl));obtain⟨a,e,⟨xs,hq⟩,q⟩:=q1;subst e;obtain⟨u,rfl,ru⟩:=vals1 r1;cases ru;obtain⟨its,rv,pt,hz⟩:=I1.tuple hq;refine jW (show s1.heap.IsTuple a its.toArray from pt) fun h' he hit hsz hk=>?_;refine NR he ?_;have I2:Inv X pins σ H1 {s1 with heap:=h'}:=I1.kept (t':=s1.toks) hk
 refine⟨s1.heap.objs.size+1,[s1.heap.objs.size+1,s1.heap.objs.size],_,_,H1,rfl,I2,qp a s1.heap.objs.size (s1.heap.objs.size+1) (M6 (Nat.lt_succ_self _)),⟨⟨_,he⟩,hit⟩,fun b hb=>?_,q⟩;have hb':s1.heap.objs.size<=b:=by
  rcases Le.mp hb with z|z
  ·rw[z];exact MH _
  ·have z:b=s1.heap.objs.size:=by simpa using z
   rw[z];exact Lj _
 exact I1.uz hb' (I1.aJ.fresh hb')
end
namespace Ap
theorem hU(ta:TE)(tr:TA)(σ:St)(H:Hp)(Q:List V->Hp->Prop):L2.hU ta tr σ H Q=ta σ H fun x H1=>tr σ H1 fun xs H2=>Q (x::xs) H2:=rfl
theorem y6(t:TA)(σ:St)(H:Hp)(Q:VK):L2.y6 t σ H Q=t σ H fun xs H1=>xs.length<=sizeLine/\∀ p,H1 p=none->Q (.ref p) (upd H1 p (.lst xs)):=rfl
theorem IS(K:Qf)(b:Bool)(H:Hp)(k:Bool):x3 K (.bl b) H k=(k=b):=rfl
theorem IL(K:Qf)(i:Int)(H:Hp)(k:Bool):x3 K (.int i) H k=(k=(i != 0)):=rfl
end Ap
theorem Jb(x:α)(r:List α):aY (x::r) 0=some x:=aW (j:=0) rfl
theorem IF(a x:α)(r:List α):aY (a::x::r) 1=some x:=aW (j:=1) rfl
theorem Kd(a b x:α)(r:List α):aY (a::b::x::r) 2=some x:=aW (j:=2) rfl
theorem IV(a b c x:α)(r:List α):aY (a::b::c::x::r) 3=some x:=aW (j:=3) rfl
theorem Ek{i:Int}(h0:0<=i)(h:i<n):ie n i=some i.toNat:=by unfold ie;rw[Li h0,Li h]
namespace Ap
theorem setRef(p:Addr)(k:Int)(v:V)(H:Hp)(Q:Hp->Prop):xg (.ref p) (.int k) v H Q=(match H p with
  |some (.lst xs)=>(match ie xs.length k with|some j=>Q (upd H p (.lst (xs.set j v)))|none=>False)
  |_=>False):=rfl
end Ap
structure QE (X:Cx) (e:Expr) (t:TE):Prop where h:PE X e t
structure QT (X:Cx) (e:Expr) (t:TT):Prop where h:PT X e t
structure QW (X:Cx) (e:Expr) (t:TT):Prop where h:PW X e t
structure QA (X:Cx) (es:List Expr) (t:TA):Prop where h:PA X es t
structure QS (X:Cx) (st:Stmt) (t:TS):Prop where h:PS X st t
structure QB (X:Cx) (sts:List Stmt) (t:TS):Prop where h:u5 X sts t
structure QI (X:Cx) (tg it:Expr) (t:TI):Prop where h:PI X tg it t
structure QG (X:Cx) (e:Expr) (t:TG):Prop where h:PG X e t
structure HR (X:Cx) (es:List Expr) (t:uG):Prop where h:Fs X es t
structure QO (X:Cx) (e:Option Expr) (t:TO):Prop where h:PO X e t
structure Fv (X:Cx) (es:List Expr) (t:TT):Prop where h:Ff X es t
namespace Z
noncomputable def sim(b:Expr):Bool:=match b with
 |.Name .. |.Constant .. |.Call .. |.BinOp .. |.Subscript .. |.Attribute .. |.UnaryOp .. |.Compare .. |.IfExp ..=>true
 |_=>false
theorem Ks(h:sim b=true):sg b:=by
 cases b<;>first | (intro _ _;rfl)|cases h
noncomputable def Iv(b:Expr):Bool:=match b with
 |.Name .. |.Call .. |.Subscript .. |.Attribute ..=>true
 |_=>false
theorem ptr(h:Iv b=true):∀ whole,isTrue b env whole=(do let v <- whole;standAt b.pos;holding [v] (truthy v)):=by
 cases b<;>first | (intro _;rfl)|cases h
noncomputable def Fn(b:Expr):Bool:=match b with
 |.ListComp .. |.SetComp .. |.DictComp ..=>false
 |_=>true
theorem K0{tg:Option Expr}{l:Nat}(h:Fn b=true):swapsWith b tg l env=pure false:=by
 cases b<;>first|rfl|cases h
section
variable {X:Cx}
theorem Gz(K:Qf)(hK:X.K=K):aQ X (.builtin "isinstance") (oB K):=by subst hK;exact tN
end
section
variable {X:Cx} {a b c e o:Expr} {es:List Expr} {ta tb tc te to:TE} {t:TA} {pos p p2:Pos} {tA tB':TT} {rest:List Expr} {x:Str}
theorem int{i:Int}:QE X (.Constant (.int i) j pos) (tC (.int i)):=⟨wD⟩
theorem bl{i:Bool}:QE X (.Constant (.bool i) j pos) (tC (.bl i)):=⟨Cp⟩
theorem aC:QE X (.Constant .none j pos) (tC .aC):=⟨vF⟩
theorem str{i:Str}:QE X (.Constant (.str i) j pos) (tC (.str i)):=⟨wa⟩
theorem v(i:Nat)(hN:autoParam (X.N[i]?=some x) ℜ0)(hv:autoParam (Es X.env.scope x) ℜ4)(hd:autoParam ((x ==("__debug__":Str))=false) ℜ1)
  (gJ:autoParam ((x ==("__classdict__":Str))=false) ℜ1):QE X (.Name x pos) (E9 i):=⟨pv i hN hv hd gJ⟩
theorem glob{w:V}{u:Value}(hg:Gl X x)(hm:X.mg x=some u)(r:RelV w u)(hd:autoParam ((x ==("__debug__":Str))=false) ℜ1):QE X (.Name x pos) (tC w):=⟨mK hg hm r hd⟩
theorem op{o:Operator}{r:R2}(ho:cE X (binaryOp o) r)(ha:QE X a ta)(hb:QE X b tb):QE X (.BinOp a o b pos) (Br r ta tb):=⟨Hs ho ha.h hb.h⟩
theorem un{o:UnaryOp}{r:V->Hp->VK->Prop}(ho:Ij X (unaryOp o) r)(ha:QE X a ta):QE X (.UnaryOp o a pos) (K1 r ta):=⟨Hh ho ha.h⟩
theorem cmp{o:CmpOp}{r:R2}(ho:cE X (compareOp o) r)(ha:QE X a ta)(hb:QE X b tb)(hm:autoParam (behindInMarks o b=false) ℜ0):QE X (.Compare a [o] [b] pos) (Br r ta tb):=⟨Bw ho ha.h hb.h hm⟩
theorem and(ha:QE X a ta)(hb:QE X (.BoolOp .And (b::rest) pos) tb):QE X (.BoolOp .And (a::b::rest) pos) (Cf ta tb):=⟨EN ha.h hb.h⟩
theorem one{o:BoolOp}(ha:QE X a ta):QE X (.BoolOp o [a] pos) ta:=⟨Dq ha.h⟩
theorem not(ha:QE X a ta):QE X (.UnaryOp .Not a pos) (CD ta):=⟨Dg ha.h⟩
theorem Fw(hc:QT X c tA)(ha:QE X a ta)(hb:QE X b tb):QE X (.IfExp c a b pos) (Ko tA ta tb):=⟨yZ hc.h ha.h hb.h⟩
theorem slice{r:V->Option Int->Option Int->Hp->VK->Prop}{lo:Option Expr}{tl th:TO}(hr:vo X r)(he:QE X e te)(hl:QO X lo tl)(hu:QO X hi th):QE X (.Subscript e (.Slice lo hi none p2) pos) (Km r te tl th):=⟨yB hr he.h hl.h hu.h⟩
theorem AU:QO X none rS:=⟨zB⟩
theorem ve(he:QE X e te):QO X (some e) (CL te):=⟨zR he.h⟩
theorem ix{r:R2}(hr:uW X r)(ha:QE X a ta)(hb:QE X b tb)(hs:autoParam (sim b=true) ℜ0):QE X (.Subscript a b pos) (Br r ta tb):=⟨BX hr ha.h hb.h (Ks hs)⟩
theorem tup(h:QA X es t):QE X (.Tuple es k pos) (Ha t):=⟨Ez h.h⟩
theorem lst(h:QA X es t):QE X (.List es pos) (y6 t):=⟨D9 h.h⟩
theorem nil:QA X [] ot:=⟨wb⟩
theorem cons(ha:QE X e te)(hr:QA X es t)(h:autoParam (cL e=true) ℜ0):QA X (e::es) (hU te t):=⟨Jg ha.h hr.h h⟩
theorem consts(h:lE es=some vs):QA X es (tK vs):=⟨kL h⟩
theorem cb{id:String}(hc:aQ X (.builtin id) r)(hg:Gl X x)(hm:X.mg x=none)(hv:bootBuiltins x=some (.builtin id))(ha:QA X (e::es) t)(h1:autoParam (cL e=true) ℜ0)(h2:autoParam (es.all cL=true) ℜ0)(hn:autoParam (x≠"__name__") ℜ1)(hdb:autoParam ((x ==("__debug__":Str))=false) ℜ1):
  QE X (.Call (.Name x p) (e::es) [] pos) (Cu r t):=⟨HE hc hg hm hv ha.h h1 h2 hn hdb⟩
theorem ct{T:String}(hc:aQ X (.type T) r)(hg:Gl X x)(hm:X.mg x=none)(hv:bootBuiltins x=some (.type T))(ha:QA X (e::es) t)(h1:autoParam (cL e=true) ℜ0)(h2:autoParam (es.all cL=true) ℜ0)(hn:autoParam (x≠"__name__") ℜ1)(hdb:autoParam ((x ==("__debug__":Str))=false) ℜ1):
  QE X (.Call (.Name x p) (e::es) [] pos) (Cu r t):=⟨Gi hc hg hm hv ha.h h1 h2 hn hdb⟩
theorem KO{T:String}(hg:Gl X x)(hm:X.mg x=none)(hv:bootBuiltins x=some (.type T))(hn:autoParam (x≠"__name__") ℜ1)(hd:autoParam ((x ==("__debug__":Str))=false) ℜ1):QE X (.Name x pos) (tC (.ty T)):=⟨Fc hg hm hv hn hd⟩
theorem fn{ps:List Str}{E:XK}(F:ae X.prog X.w X.K X.mg X.base CX k x ps sp)(hr:bG k X.A)(hg:Gl X x)(hx:Passes CX X E)(ha:QA X (e::es) t)(h1:autoParam (cL e=true) ℜ0)(h2:autoParam (es.all cL=true) ℜ0)(hdb:autoParam ((x ==("__debug__":Str))=false) ℜ1):
  QE X (.Call (.Name x p) (e::es) [] pos) (jF sp [] E t):=⟨FQ F hr hg hx ha.h h1 h2 hdb⟩
theorem IM{ps:List Str}{E:XK}(F:ae X.prog X.w X.K X.mg X.base CX k x ps sp)(hr:bG k X.A)(hg:Gl X x)(hx:Passes CX X E)(hdb:autoParam ((x ==("__debug__":Str))=false) ℜ1):
  QE X (.Call (.Name x p) [] [] pos) (jF sp [] E ot):=⟨ED F hr hg hx hdb⟩
theorem bm(K:Qf)(hK:X.K=K){T id:String}{r:V->List V->Hp->VK->Prop}(pa:PlainAttrs T)(slot:Slot T name id)(hty:typeOf (.builtin id)=pure (.type "method_descriptor"))(hm:vt X id r)(ho:QE X o to)(ha:QA X (e::es) t)
  (hbase:autoParam (attributeBase o name X.env (eval o X.env)=eval o X.env) ℜ0) (hline:autoParam ((apos.endLine == pos.line)=true) ℜ0) (h:autoParam ((e::es).all cL=true) ℜ0) (hl:autoParam ((e::es).length<30) ℜ1):QE X (.Call (.Attribute o name apos) (e::es) [] pos) (JI K T r to t):=by
 subst hK;exact⟨EO pa slot hty hm ho.h ha.h hbase hline h hl⟩
theorem comp{own:List Str}{wi:TI}{g:TG}{tc:TT}(S:bS osc ON scope own N)(hosc:X.env.scope=osc)(hON:X.N=ON)(hc:X.calm=true)(hi:QI X tg iter wi)
  (hg:∀ C s H fp,QG (aE X scope N C s H fp) tg g) (ht:∀ C s H fp,Fv (aE X scope N C s H fp) ifs tc) (he:∀ C s H fp,QE (aE X scope N C s H fp) elt te) (hs:autoParam (∀ x,foldedSetIterable iter X.env x=pure x) ℜ3) :
  QE X (.ListComp elt [⟨tg,iter,ifs,0⟩] scope pos) (lu wi own.length g tc te):=⟨Ad S hosc hON hc hi.h (fun C s H fp=>(hg C s H fp).h) (fun C s H fp=>(ht C s H fp).h) (fun C s H fp=>(he C s H fp).h) hs⟩
theorem bg{o:CmpOp}{r:R2}(ho:cE X (compareOp o) r)(ha:QE X a ta)(hb:QE X b tb)(hm:autoParam (behindInMarks o b=false) ℜ0):QT X (.Compare a [o] [b] pos) (mV (Br r ta tb)):=⟨By ho ha.h hb.h hm⟩
theorem qr{o o':CmpOp}{r:R2}(ho:cE X (compareOp o) r)(ho':cE X (compareOp o') r')(ha:QE X a ta)(hb:QE X b tb)(hc:QE X c tc)(hm:autoParam (lastMarks [o,o'] [b,c]=false) ℜ5):QT X (.Compare a [o,o'] [b,c] pos) (mV (p6 r r' ta tb tc)):=⟨xq ho ho' ha.h hb.h hc.h hm⟩
theorem tw(h:QW X e tA):QT X e tA:=⟨h.h.pt⟩
theorem p5(ha:QT X a tA):QT X (.UnaryOp .Not a pos) (FF tA):=⟨Dx ha.h⟩
noncomputable def JO(K:Qf)(ta:TE):TT:=fun σ H Q=>ta σ H fun x H'=>∃ k,x3 K x H' k/\Q k H'
theorem Er(K:Qf)(hK:X.K=K)(ha:QE X a ta)(he:autoParam (Iv a=true) ℜ0):QT X a (JO K ta):=by subst hK;exact⟨xa ha.h (ptr he)⟩
theorem sS(ha:QT X a tA):QW X (.BoolOp .And [a] pos) tA:=⟨Aj ha.h⟩
theorem yV(ha:QT X a tA):QW X (.BoolOp .Or [a] pos) tA:=⟨EZ ha.h⟩
theorem Bg(ha:QT X a tA)(hb:QW X (.BoolOp .And (b::rest) pos) tB'):QW X (.BoolOp .And (a::b::rest) pos) (Dz tA tB'):=⟨EH ha.h hb.h⟩
theorem HM(ha:QT X a tA)(hb:QW X (.BoolOp .Or (b::rest) pos) tB'):QW X (.BoolOp .Or (a::b::rest) pos) (Jx tA tB'):=⟨Ht ha.h hb.h⟩
theorem aK(hN:X.N.Nodup)(hi:X.N[i]?=some x)(hx:Loc X.env.scope x)(hf:autoParam (X.fn x=true\/X.env.scope.names.lookup x=some .local) ℜ2):QG X (.Name x pos) (cV i):=⟨Bn hN hi hx hf⟩
theorem vh(K:Qf)(hK:X.K=K){tg:uG}(hc:X.calm=true)(h:HR X es tg)(hn:autoParam ((assignEach es X.env).length=n) ℜ0)(hst:autoParam ((assignEach es X.env).findIdx? (·.1)=none) ℜ0):QG X (.Tuple es k pos) (Be K n tg):=by subst hK;exact⟨zh hc h.h hn hst⟩
theorem g_:HR X [] zT:=⟨Au⟩
theorem bJ{g:TG}{u:uG}(h1:QG X e g)(h2:HR X es u)(hs:autoParam ((assignEach (e::es) X.env).map (·.2)=assign e X.env::(assignEach es X.env).map (·.2)) ℜ0):HR X (e::es) (kn g u):=⟨x5 h1.h h2.h hs⟩
theorem mT{i:Expr}{ti:TE}(ho:QE X o to)(hi:QE X i ti)
  (ha:autoParam (∀ v,assign (.Subscript o i pos) X.env v=(do
   let ov <- holding [v] (eval o X.env)
   let iv <- holding [v,ov] (eval i X.env)
   standAt pos
   holding [v,ov,iv] (setItem ov iv v)
   release [v,ov,iv] [])) ℜ3):QG X (.Subscript o i pos) (Di to ti xg):=⟨vv ho.h hi.h uset ha⟩
theorem jV{ta:TA}(hg:Gl X "range")(hm:X.mg "range"=none)(ha:QA X [a] ta)(h:autoParam (cL a=true) ℜ0):QI X tg (.Call (.Name "range" p) [a] [] pos) (yq ta):=⟨qL hg hm ha.h h⟩
theorem enum(K:Qf)(hK:X.K=K){ta:TA}(hg:Gl X "enumerate")(hm:X.mg "enumerate"=none)(ha:QA X [e] ta)(h1:autoParam (cL e=true) ℜ0):QI X (.Tuple es k tp) (.Call (.Name "enumerate" p) [e] [] pos) (BW K ta):=by subst hK;exact⟨zI hg hm ha.h h1⟩
theorem pI:Fv X [] CF:=⟨AJ⟩
theorem IZ(h:QT X c tA):Fv X [c] tA:=⟨Ab h.h⟩
end
section
variable {X:Cx} {e o tg:Expr} {te to:TE} {st:Stmt} {sts xs ys:List Stmt} {t u:TS} {pos pos':Pos} {x:Str}
theorem b6:QB X [] C1:=⟨A8⟩
theorem az(h:QS X st t):QB X [st] t:=⟨Av h.h⟩
theorem ab(h:QS X st t)(h2:QB X sts u):QB X (st::sts) (HA t u):=⟨vV h.h h2.h⟩
theorem set(hN:X.N.Nodup)(hi:X.N[i]?=some x)(hx:Loc X.env.scope x)(he:QE X e te)(hs:autoParam (Fn e=true) ℜ0)(hf:autoParam (X.fn x=true\/X.env.scope.names.lookup x=some .local) ℜ2):
  QS X (.Assign [.Name x pos'] e pos) (pF te (cV i)):=⟨Eb hN hi hx he.h (K0 hs) hf⟩
theorem setC{own:List Str}{p2:Pos}{wi:TI}{g:TG}(hN:X.N.Nodup)(hj:X.N[j]?=some x)(hx:Loc X.env.scope x)(S:bS osc ON scope own N)(hosc:X.env.scope=osc)(hON:X.N=ON)(hc:X.calm=true)(hi:QI X tg iter wi)
  (hg:∀ C s H fp,QG (aE X scope N C s H fp) tg g) (ht:∀ C s H fp,Fv (aE X scope N C s H fp) ifs tc) (he:∀ C s H fp,QE (aE X scope N C s H fp) elt te)
  (hsw:autoParam (swapsWith (.ListComp elt [⟨tg,iter,ifs,0⟩] scope p2) (some (.Name x pos')) pos.line X.env=pure true) ℜ0)
  (hf:autoParam (X.fn x=true\/X.env.scope.names.lookup x=some .local) ℜ2) (hs:autoParam (∀ x,foldedSetIterable iter X.env x=pure x) ℜ3) :
  QS X (.Assign [.Name x pos'] (.ListComp elt [⟨tg,iter,ifs,0⟩] scope p2) pos) (pF (lu wi own.length g tc te) (cV j)):=⟨pz hN hj hx S hosc hON hc hi.h (fun C s H fp=>(hg C s H fp).h) (fun C s H fp=>(ht C s H fp).h) (fun C s H fp=>(he C s H fp).h) hsw hf hs⟩
theorem asg{g:TG}(he:QE X e te)(hg:QG X tg g)(hs:autoParam (swapsWithSole [tg] e pos.line X.env=pure false) ℜ0)(hw:autoParam (swappedStores [tg] e X.env=pure none) ℜ0)
  (h1:autoParam ((assignEach [tg] X.env).map (·.2)=[assign tg X.env]) ℜ0):QS X (.Assign [tg] e pos) (pF te g):=⟨E5 he.h hg.h hs hw h1⟩
theorem ret(he:QE X e te):QS X (.Return (some e) pos) (GX te):=⟨Ew he.h⟩
theorem expr(he:QE X e te)(hs:autoParam (Fn e=true) ℜ0):QS X (.Expr e pos) (C4 te):=⟨BE he.h (K0 hs)⟩
theorem eJ{c:Expr}(hc:QT X c tc)(ha:QB X xs t)(hb:QB X ys u):QS X (.If c xs ys pos) (G4 tc t u):=⟨Ge hc.h ha.h hb.h⟩
theorem gg{wi:TI}{g:TG}(hp:PassesOwn (model X.prog X.w) X.A X.env X.xe)(hc:X.calm=true)(hi:QI X tg iter wi)(hg:QG X tg g)(hb:QB X xs t)(hs:autoParam (∀ x,foldedSetIterable iter X.env x=pure x) ℜ3):QS X (.For tg iter xs [] pos) (Gv wi g t):=⟨DN hp hc hi.h hg.h hb.h hs⟩
theorem m5{c:Expr}(hp:PassesOwn (model X.prog X.w) X.A X.env X.xe)(hc:QT X c tc)(hb:QB X xs t):QS X (.While c xs [] pos) (xV tc t):=⟨zc hp hc.h hb.h⟩
end
end Z
noncomputable def Ir(e:Addr)(cls:Value)(d:Option Addr)(h:Heap):Prop:=∃ o vs,h.get? e=some o/\o.cls=cls/\o.dict=d/\o.data=.fields vs
noncomputable def gR(c:Addr)(n:Nat)(h:Heap):Prop:=∃(its:List Value) (m:Nat),h.get? c=some {cls:=.type "list",data:=.seq its.toArray m}/\its.length=n/\∀ v∈its,∃(i:Int) (t:Tok),v=.int i t/\0<=i
inductive T where
 |il (n:Nat)|aC|bl (b:Bool)|int (i:Int)|str (x:Str)|tup (ts:List T)|lst (ts:List T)|e7 (ts:List T)|dI (lo hi:Int)|dq (ts:List T)|ig (ks:List Key) (ts:List T)|exc (c:Value) (f:Option (Str×Int))
variable{c:T}{ts:List T}
abbrev aR:=Addr->Prop
variable{B B':aR}
noncomputable def EG(K:Qf)(a:Addr)(xs:List V):Prop:=∃(o:Obj) (its:Array Value) (n:Nat),K.lookup a=some o/\o.cls=.type "tuple"/\o.data=.seq its n/\its.size<=sizeLine/\Vals xs its.toList
noncomputable def K2(K:Qf)(a:Addr)(xs:List V):Prop:=∃(o:Obj) (its:Array Value) (n:Nat),K.lookup a=some o/\o.cls=.type "list"/\o.dict=none/\o.data=.seq its n/\its.size<=sizeLine/\Vals xs its.toList
noncomputable def LB(K:Qf)(H:Hp)(B:aR)(a:Addr)(xs:List V):Prop:=(¬ B a/\Rd H a (.lst xs))\/K2 K a xs
mutual
inductive Rep (K:Qf) (H:Hp) (B:aR):V->T->Prop
 |aC:Rep K H B .aC .aC
 |bl (b:Bool):Rep K H B (.bl b) (.bl b)
 |int (i:Int):Rep K H B (.int i) (.int i)
 |str (x:Str):Rep K H B (.str x) (.str x)
 |tup {a:Addr} {vs:List V} {ts:List T} (n:¬ B a) (h:H a=some (.tup vs)) (r:aj K H B vs ts):Rep K H B (.ref a) (.tup ts)
 |dq {a:Addr} {vs:List V} {ts:List T} (h:EG K a vs) (r:aj K H B vs ts):Rep K H B (.ref a) (.dq ts)
 |lst {a:Addr} {vs:List V} {ts:List T} (n:¬ B a) (h:H a=some (.lst vs)) (r:aj K H B vs ts):Rep K H B (.ref a) (.lst ts)
 |e7 {a:Addr} {vs:List V} {ts:List T} (h:LB K H B a vs) (r:aj K H B vs ts):Rep K H B (.ref a) (.e7 ts)
 |dI {a:Addr} {lo hi:Int} (n:¬ B a) (h:H a=some (.dI lo hi)):Rep K H B (.ref a) (.dI lo hi)
 |ig {a:Addr} {ks:List Key} {vs:List V} {ts:List T} (n:¬ B a) (h:Rd H a (.dK (ks.zip vs))) (l:ks.length=vs.length) (r:aj K H B vs ts):Rep K H B (.ref a) (.ig ks ts)
 |exc {a:Addr} {c:Value} (n:¬ B a) (h:H a=some (.ext (Ir a c none))):Rep K H B (.ref a) (.exc c none)
 |BH {a d:Addr} {c:Value} {x:Str} {i:Int} (n:¬ B a) (h:H a=some (.ext (Ir a c (some d)))) (m:¬ B d) (g:H d=some (.xd [(x,.int i)])):Rep K H B (.ref a) (.exc c (some (x,i)))
 |il {a:Addr} {n:Nat} (m:¬ B a) (h:H a=some (.ext (gR a n))):Rep K H B (.ref a) (.il n)
inductive aj (K:Qf) (H:Hp) (B:aR):List V->List T->Prop
 |nil:aj K H B [] []
 |cons {v:V} {t:T} {vs:List V} {ts:List T} (h:Rep K H B v t) (r:aj K H B vs ts):aj K H B (v::vs) (t::ts)
end
noncomputable def Fr(B:aR)(H:Hp)(B':aR)(H':Hp):Prop:=∀ b o,H b=some o->¬ B b->H' b=some o/\¬ B' b
theorem Fr.refl:Fr B H B H:=fun _ _ h n=>⟨h,n⟩
theorem Fr.trans{B1 B2:aR}{H1 H2:Hp}(a:Fr B H B1 H1)(b:Fr B1 H1 B2 H2):Fr B H B2 H2:=fun c o h n=>let ⟨h1,n1⟩:=a c o h n;b c o h1 n1
theorem Fr.same(s:bB H H'):Fr B H B H':=fun b o h n=>⟨s b o h,n⟩
theorem Fr.less(s:∀ b,B' b->B b):Fr B H B' H:=fun b o h n=>⟨h,fun z=>n (s b z)⟩
theorem Fr.set(h:B a):Fr B H B (upd H a o):=fun b u e n=>⟨by rw[ai (by rintro rfl;exact n h)];exact e,n⟩
theorem bB.new(h:H p=none):bB H (upd H p o):=fun b u e=>by rw[ai (aM e h)];exact e
theorem Fr.more(h:H p=none):Fr B H (fun b=>b=p\/B b) (upd H p o):=fun b u e n=>⟨bB.new h b u e,fun z=>z.elim (aM e h) n⟩
theorem Rd.fr{u:HO}(f:Fr B H B' H')(n:¬ B a)(h:Rd H a u):¬ B' a/\Rd H' a u:=by
 rcases h with h|⟨o,h⟩
 ·exact⟨(f a _ h n).2,.inl (f a _ h n).1⟩
 ·exact⟨(f a _ h n).2,.inr ⟨o,(f a _ h n).1⟩⟩
section
variable {K:Qf} {H H':Hp} {B B':aR}
theorem LB.fr(f:Fr B H B' H')(h:LB K H B a xs):LB K H' B' a xs:=h.elim (fun z=>.inl (z.2.fr f z.1)) .inr
theorem LB.sq(h:LB K H B a xs):bH K H a xs:=h.elim (fun z=>.inl z.2) .inr
mutual
theorem Rep.fr(f:Fr B H B' H'):∀{v:V} {t:T},Rep K H B v t->Rep K H' B' v t
 |_,_,.aC=>.aC
 |_,_,.bl b=>.bl b
 |_,_,.int i=>.int i
 |_,_,.str x=>.str x
 |_,_,.tup n h r=>.tup (f _ _ h n).2 (f _ _ h n).1 (aj.fr f r)
 |_,_,.dq h r=>.dq h (aj.fr f r)
 |_,_,.lst n h r=>.lst (f _ _ h n).2 (f _ _ h n).1 (aj.fr f r)
 |_,_,.e7 h r=>.e7 (h.fr f) (aj.fr f r)
 |_,_,.dI n h=>.dI (f _ _ h n).2 (f _ _ h n).1
 |_,_,.ig n h l r=>.ig (Rd.fr f n h).1 (Rd.fr f n h).2 l (aj.fr f r)
 |_,_,.exc n h=>.exc (f _ _ h n).2 (f _ _ h n).1
 |_,_,.BH n h m g=>.BH (f _ _ h n).2 (f _ _ h n).1 (f _ _ g m).2 (f _ _ g m).1
 |_,_,.il n h=>.il (f _ _ h n).2 (f _ _ h n).1
theorem aj.fr(f:Fr B H B' H'):∀{vs:List V} {ts:List T},aj K H B vs ts->aj K H' B' vs ts
 |_,_,.nil=>.nil
 |_,_,.cons h r=>.cons (Rep.fr f h) (aj.fr f r)
end
theorem aj.length:∀{vs:List V} {ts:List T},aj K H B vs ts->vs.length=ts.length
 |_,_,.nil=>rfl
 |_,_,.cons _ r=>L0 (·+1) (aj.length r)
theorem aj.get:∀{vs:List V} {ts:List T} {i:Nat} {t:T},aj K H B vs ts->ts[i]?=some t->∃ v,vs[i]?=some v/\Rep K H B v t
 |_,_,_,_,.nil,e=>by simp at e
 |_,_,0,_,.cons h _,e=>by simp at e;subst e;exact⟨_,rfl,h⟩
 |_,_,i+1,_,.cons _ r,e=>by
  obtain⟨v,e1,h⟩:=aj.get r (by simpa using e)
  exact⟨v,by simpa using e1,h⟩
theorem aj.append:∀{vs ws:List V} {ts us:List T},aj K H B vs ts->aj K H B ws us->aj K H B (vs++ws) (ts++us)
 |_,_,_,_,.nil,s=>s
 |_,_,_,_,.cons h r,s=>.cons h (aj.append r s)
theorem aj.take:∀{vs:List V} {ts:List T} (n:Nat),aj K H B vs ts->aj K H B (vs.take n) (ts.take n)
 |_,_,0,_=>.nil
 |_,_,_+1,.nil=>.nil
 |_,_,n+1,.cons h r=>.cons h (aj.take n r)
theorem aj.drop:∀{vs:List V} {ts:List T} (n:Nat),aj K H B vs ts->aj K H B (vs.drop n) (ts.drop n)
 |_,_,0,r=>r
 |_,_,_+1,.nil=>.nil
 |_,_,n+1,.cons _ r=>aj.drop n r
theorem aj.set:∀{vs:List V} {ts:List T} {v:V} {t:T} (i:Nat),Rep K H B v t->aj K H B vs ts->aj K H B (vs.set i v) (ts.set i t)
 |_,_,_,_,_,_,.nil=>.nil
 |_,_,_,_,0,h,.cons _ r=>.cons h r
 |_,_,_,_,i+1,h,.cons q r=>.cons q (aj.set i h r)
theorem aj.rep(r:aj K H B vs ts):∀ n:Nat,aj K H B (List.replicate n vs).flatten (List.replicate n ts).flatten
 |0=>.nil
 |n+1=>by rw[LN,LN,Mt,Mt];exact r.append (aj.rep r n)
theorem aj.erase:∀{vs:List V} {ts:List T} (i:Nat),aj K H B vs ts->aj K H B (vs.eraseIdx i) (ts.eraseIdx i)
 |_,_,_,.nil=>.nil
 |_,_,0,.cons _ r=>r
 |_,_,i+1,.cons h r=>.cons h (aj.erase i r)
theorem aj.aY{i:Int}{t:T}(r:aj K H B vs ts)(e:L2.aY ts i=some t):∃ v,L2.aY vs i=some v/\Rep K H B v t:=by
 unfold L2.aY at e ⊢;rw[r.length]
 cases q:ie ts.length i with
 |none=>rw[q] at e;cases e
 |some j=>rw[q] at e;exact r.get e
end
noncomputable def aN:T->Bool
 |.aC|.bl _|.int _|.str _=>true
 |_=>false
theorem Rep.flat{v:V}{t:T}(h:Rep K H B v t)(f:aN t=true):Rep K H' B' v t:=by
 cases h with
 |aC=>exact .aC
 |bl b=>exact .bl b
 |int i=>exact .int i
 |str x=>exact .str x
 |tup=>cases f
 |dq=>cases f
 |lst=>cases f
 |e7=>cases f
 |dI=>cases f
 |ig=>cases f
 |exc=>cases f
 |BH=>cases f
 |il=>cases f
theorem aj.flat:∀{vs:List V} {ts:List T},aj K H B vs ts->ts.all aN=true->aj K H' B' vs ts
 |_,_,.nil,_=>.nil
 |_,_,.cons h r,f=>by
  rw[L_,LQ] at f;exact .cons (h.flat f.1) (aj.flat r f.2)
noncomputable def Bx(K:Qf)(H:Hp)(B:aR)(a:Addr)(c:T):Prop:=match c with
 |.lst ts=>∃ vs,H a=some (.lst vs)/\aj K H B vs ts
 |.ig ks ts=>∃ vs,H a=some (.dK (ks.zip vs))/\ks.length=vs.length/\aj K H B vs ts
 |_=>False
theorem Bx.fi(h:Bx K H B a c):∃ o,H a=some o:=by
 unfold Bx at h
 split at h
 ·obtain⟨vs,e,_⟩:=h;exact⟨_,e⟩
 ·obtain⟨vs,e,_⟩:=h;exact⟨_,e⟩
 ·exact h.elim
theorem Bx.of(h:Bx K H B a c)(e:H' a=H a)(f:Fr B H B' H'):Bx K H' B' a c:=by
 unfold Bx at h ⊢
 split at h
 ·obtain⟨vs,q,r⟩:=h;exact⟨vs,e.trans q,r.fr f⟩
 ·obtain⟨vs,q,l,r⟩:=h;exact⟨vs,e.trans q,l,r.fr f⟩
 ·exact h.elim
theorem Bx.is(h:Bx K H B a c):(∃ ts vs,c=.lst ts/\H a=some (.lst vs)/\aj K H B vs ts)\/∃ ks ts vs,c=.ig ks ts/\H a=some (.dK (ks.zip vs))/\ks.length=vs.length/\aj K H B vs ts:=by
 unfold Bx at h
 split at h
 ·obtain⟨vs,q,r⟩:=h;exact .inl ⟨_,vs,rfl,q,r⟩
 ·obtain⟨vs,q,l,r⟩:=h;exact .inr ⟨_,_,vs,rfl,q,l,r⟩
 ·exact h.elim
theorem Bx.rep(h:Bx K H B a c)(n:¬ B a):Rep K H B (.ref a) c:=by
 rcases h.is with ⟨ts,vs,rfl,e,r⟩|⟨ks,ts,vs,rfl,e,l,r⟩
 ·exact .lst n e r
 ·exact .ig n (.inl e) l r
inductive Sl where
 |un|tr (t:T)|bx (c:T)|pb (c:T)
abbrev Mu:=List Sl
variable{μ μ':Mu}{dr:Mu->Mu}
inductive R where
 |tr (t:T)|br (i:Nat)|fr (c:T)
structure Fx where
 K:Qf
 H0:Hp
 P:Nat->Option Addr
 Bc:aR
 bh:∀ b,Bc b->∃ o,H0 b=some o
 G:Addr->Option (List V)
variable{F:Fx}
noncomputable def hZ(F:Fx)(ad:Nat->Addr)(B:aR)(H:Hp)(i:Nat)(s:Sl)(x:Option (Option V)):Prop:=match s with
 |.un=>True
 |.tr t=>∃ v,x=some (some v)/\Rep F.K H B v t
 |.bx c=>x=some (some (.ref (ad i)))/\B (ad i)/\F.H0 (ad i)=none/\F.P i=none/\Bx F.K H B (ad i) c
 |.pb c=>x=some (some (.ref (ad i)))/\B (ad i)/\F.P i=some (ad i)/\Bx F.K H B (ad i) c
noncomputable def Sl.box:Sl->Option T
 |.bx c=>some c
 |.pb c=>some c
 |_=>none
structure Rl (F:Fx) (ad:Nat->Addr) (B:aR) (σ:St) (H:Hp) (μ:Mu):Prop where
 len:μ.length=σ.length
 slot:∀ i s,μ[i]?=some s->hZ F ad B H i s σ[i]?
 inj:∀ i j s u c d,μ[i]?=some s->μ[j]?=some u->s.box=some c->u.box=some d->ad i=ad j->i=j
 par:∀ i a,F.P i=some a->(∃ c,μ[i]?=some (.pb c))/\ad i=a
 bc:∀ b,F.Bc b->B b
 fi:∀ b,B b->∃ o,H b=some o
 old:∀ b o,F.H0 b=some o->(∀ i,F.P i≠some b)->H b=some o
 gh:∀ a vs,F.G a=some vs->H a=some (.lst vs)/\B a/\∀(i:Nat) (s:Sl) (c:T),μ[i]?=some s->s.box=some c->ad i≠a
theorem hZ.boxed{s:Sl}{x:Option (Option V)}(h:hZ F ad B H i s x)(e:s.box=some c):x=some (some (.ref (ad i)))/\B (ad i)/\Bx F.K H B (ad i) c/\(F.P i=some (ad i)\/F.H0 (ad i)=none):=by
 unfold hZ at h
 split at h
 ·cases e
 ·cases e
 ·cases e;exact⟨h.1,h.2.1,h.2.2.2.2,.inr h.2.2.1⟩
 ·cases e;exact⟨h.1,h.2.1,h.2.2.2,.inl h.2.2.1⟩
noncomputable def Hv(F:Fx)(ad:Nat->Addr)(B:aR)(H:Hp)(μ:Mu)(v:V)(r:R):Prop:=match r with
 |.tr t=>Rep F.K H B v t
 |.br i=>v=.ref (ad i)/\∃ s c,μ[i]?=some s/\s.box=some c
 |.fr _=>False
noncomputable def more(B:aR)(a:Addr):aR:=fun b=>b=a\/B b
noncomputable def Vr(F:Fx)(ad:Nat->Addr)(B:aR)(σ:St)(H:Hp)(μ:Mu)(v:V)(r:R):Prop:=match r with
 |.fr c=>Rl F ad B σ H μ/\∃ a,v=.ref a/\¬ B a/\F.H0 a=none/\Rl F ad (more B a) σ H μ/\Bx F.K H (more B a) a c
 |r=>Rl F ad B σ H μ/\Hv F ad B H μ v r
noncomputable def R.d:R->R
 |.fr c=>.tr c
 |r=>r
section
variable {F:Fx} {ad:Nat->Addr} {B B':aR} {σ:St} {H H':Hp} {μ:Mu} {v:V} {r:R}
theorem Rl.ym(h:Rl F ad B σ H μ)(e:H p=none):F.H0 p=none:=by
 cases q:F.H0 p with
 |none=>rfl
 |some o =>
  by_cases z:∃ i,F.P i=some p
  ·obtain⟨i,z⟩:=z;obtain⟨⟨c,hc⟩,ha⟩:=h.par i p z;have:=(h.slot i _ hc).boxed (c:=c) rfl;obtain⟨o',e'⟩:=h.fi _ this.2.1;rw[ha,e] at e';cases e'
  ·have:=h.old p o q fun i zi=>z ⟨i,zi⟩;rw[e] at this;cases this
theorem Rl.p7(h:Rl F ad B σ H μ)(e:H p=none):¬ B p:=fun z=>by
 obtain⟨o,q⟩:=h.fi p z;rw[e] at q;cases q
theorem Rl.fr(h:Rl F ad B σ H μ)(s:bB H H')(hB:∀ b,B b->B' b)(hT:∀ b,B' b->∃ o,H' b=some o)(f:Fr B H B' H'):Rl F ad B' σ H' μ:=by
 refine⟨h.len,fun i s' e=>?_,h.inj,h.par,fun b z=>hB b (h.bc b z),hT,fun b o e n=>s b o (h.old b o e n),fun a vs e=>let ⟨g1,g2,g3⟩:=h.gh a vs e;⟨s a _ g1,hB a g2,g3⟩⟩
 have k:=h.slot i s' e;unfold hZ at k ⊢
 split at k
 ·trivial
 ·obtain⟨v,e1,r⟩:=k;exact⟨v,e1,r.fr f⟩
 ·obtain⟨e1,b,z,p,x⟩:=k;obtain⟨o,q⟩:=x.fi;exact⟨e1,hB _ b,z,p,x.of ((s _ _ q).trans q.symm) f⟩
 ·obtain⟨e1,b,p,x⟩:=k;obtain⟨o,q⟩:=x.fi;exact⟨e1,hB _ b,p,x.of ((s _ _ q).trans q.symm) f⟩
theorem Rl.same(h:Rl F ad B σ H μ)(s:bB H H'):Rl F ad B σ H' μ:=h.fr s (fun _ z=>z) (fun b z=>let ⟨o,e⟩:=h.fi b z;⟨o,s b o e⟩) (Fr.same s)
theorem Rl.new(h:Rl F ad B σ H μ)(e:H p=none):Rl F ad (more B p) σ (upd H p o) μ:=
 h.fr (bB.new e) (fun _ z=>.inr z) (fun b z=>z.elim (fun q=>by subst q;exact⟨o,aq⟩) fun q=>let ⟨u,w⟩:=h.fi b q;⟨u,bB.new e b u w⟩) (Fr.more e)
theorem Rl.less(h:Rl F ad B σ H μ)(s:∀ b,B' b->B b)(hb:∀ b,F.Bc b->B' b)(own:∀ i s' c,μ[i]?=some s'->s'.box=some c->B' (ad i))(hg:∀ a vs,F.G a=some vs->B' a):Rl F ad B' σ H μ:=by
 refine⟨h.len,fun i s' e=>?_,h.inj,h.par,hb,fun b z=>h.fi b (s b z),h.old,fun a vs e=>let ⟨g1,g2,g3⟩:=h.gh a vs e;⟨g1,hg a vs e,g3⟩⟩
 have k:=h.slot i s' e;unfold hZ at k ⊢
 split at k
 ·trivial
 ·obtain⟨v,e1,r⟩:=k;exact⟨v,e1,r.fr (Fr.less s)⟩
 ·obtain⟨e1,b,z,p,x⟩:=k;exact⟨e1,own i _ _ e rfl,z,p,x.of rfl (Fr.less s)⟩
 ·obtain⟨e1,b,p,x⟩:=k;exact⟨e1,own i _ _ e rfl,p,x.of rfl (Fr.less s)⟩
theorem Vr.rl(h:Vr F ad B σ H μ v r):Rl F ad B σ H μ:=by
 cases r with
 |tr t=>exact h.1
 |br i=>exact h.1
 |fr c=>exact h.1
theorem Vr.hv(h:Vr F ad B σ H μ v r):Hv F ad B H μ v r.d:=by
 cases r with
 |tr t=>exact h.2
 |br i=>exact h.2
 |fr c =>
  obtain⟨_,a,rfl,n,_,_,x⟩:=h;exact (x.of rfl (Fr.less fun _ z=>.inr z)).rep n
noncomputable def Kp(μ μ':Mu):Prop:=∀ i:Nat,((μ[i]?).bind Sl.box).isSome=((μ'[i]?).bind Sl.box).isSome
theorem Kp.refl(μ:Mu):Kp μ μ:=fun i=>rfl
theorem Kp.trans{μ1 μ2:Mu}(a:Kp μ μ1)(b:Kp μ1 μ2):Kp μ μ2:=fun i=>(a i).trans (b i)
theorem Kp.symm{μ1:Mu}(a:Kp μ μ1):Kp μ1 μ:=fun i=>(a i).symm
theorem Kp.fwd(k:Kp μ μ'):∀(i:Nat) (s:Sl) (c:T),μ[i]?=some s->s.box=some c->∃(s':Sl) (c':T),μ'[i]?=some s'/\s'.box=some c':=fun i s c e b=>by
 have h:=k i;rw[e] at h;have h1:(s.box).isSome=((μ'[i]?).bind Sl.box).isSome:=h;rw[b] at h1
 cases q:μ'[i]? with
 |none=>rw[q] at h1;cases h1
 |some s' =>
  rw[q] at h1;have h2:true=(s'.box).isSome:=h1
  cases q2:s'.box with
  |none=>rw[q2] at h2;cases h2
  |some c'=>exact⟨s',c',rfl,q2⟩
theorem Kp.set{s s':Sl}{d:T}(e:μ[i]?=some s)(b:s.box=some c)(b':s'.box=some d):Kp μ (μ.set i s'):=fun j=>by
 have hi:i<μ.length:=(Ll.mp e).1;by_cases z:i=j
 ·subst z;rw[LK hi,e];show (s.box).isSome=(s'.box).isSome;rw[b,b'];rfl
 ·rw[LO z]
theorem Hv.fr(h:Hv F ad B H μ v r)(f:Fr B H B' H')(k:Kp μ μ'):Hv F ad B' H' μ' v r:=by
 cases r with
 |tr t=>exact Rep.fr f h
 |br i=>obtain⟨e,s,c,h1,h2⟩:=h;exact⟨e,k.fwd i s c h1 h2⟩
 |fr c=>exact h.elim
noncomputable def cont(μ:Mu):R->Option T
 |.tr t=>some t
 |.br i=>(μ[i]?).bind Sl.box
 |.fr c=>some c
inductive Vw (K:Qf) (H:Hp) (B:aR):V->T->Prop
 |aC:Vw K H B .aC .aC
 |bl (b:Bool):Vw K H B (.bl b) (.bl b)
 |int (i:Int):Vw K H B (.int i) (.int i)
 |str (x:Str):Vw K H B (.str x) (.str x)
 |tup {a:Addr} {vs:List V} {ts:List T} (h:H a=some (.tup vs)) (r:aj K H B vs ts):Vw K H B (.ref a) (.tup ts)
 |dq {a:Addr} {vs:List V} {ts:List T} (h:EG K a vs) (r:aj K H B vs ts):Vw K H B (.ref a) (.dq ts)
 |lst {a:Addr} {vs:List V} {ts:List T} (h:H a=some (.lst vs)) (r:aj K H B vs ts):Vw K H B (.ref a) (.lst ts)
 |e7 {a:Addr} {vs:List V} {ts:List T} (h:bH K H a vs) (r:aj K H B vs ts):Vw K H B (.ref a) (.e7 ts)
 |dI {a:Addr} {lo hi:Int} (h:H a=some (.dI lo hi)):Vw K H B (.ref a) (.dI lo hi)
 |ig {a:Addr} {ks:List Key} {vs:List V} {ts:List T} (h:Rd H a (.dK (ks.zip vs))) (l:ks.length=vs.length) (r:aj K H B vs ts):Vw K H B (.ref a) (.ig ks ts)
 |exc {a:Addr} {c:Value} (h:H a=some (.ext (Ir a c none))):Vw K H B (.ref a) (.exc c none)
 |BH {a d:Addr} {c:Value} {x:Str} {i:Int} (h:H a=some (.ext (Ir a c (some d)))) (g:H d=some (.xd [(x,.int i)])):Vw K H B (.ref a) (.exc c (some (x,i)))
 |il {a:Addr} {n:Nat} (h:H a=some (.ext (gR a n))):Vw K H B (.ref a) (.il n)
theorem Rep.vw{t:T}(h:Rep K H B v t):Vw K H B v t:=by
 cases h with
 |aC=>exact .aC
 |bl b=>exact .bl b
 |int i=>exact .int i
 |str x=>exact .str x
 |tup n h r=>exact .tup h r
 |dq h r=>exact .dq h r
 |lst n h r=>exact .lst h r
 |e7 h r=>exact .e7 h.sq r
 |dI n h=>exact .dI h
 |ig n h l r=>exact .ig h l r
 |exc n h=>exact .exc h
 |BH n h m g=>exact .BH h g
 |il n h=>exact .il h
theorem Hv.vw{t:T}(l:Rl F ad B σ H μ)(h:Hv F ad B H μ v r)(e:cont μ r=some t):Vw F.K H B v t:=by
 cases r with
 |tr u=>cases e;exact Rep.vw h
 |br i =>
  obtain⟨rfl,s,c,h1,h2⟩:=h;have e2:(μ[i]?).bind Sl.box=some t:=e;rw[h1] at e2;have e':s.box=some t:=e2;rcases ((l.slot i s h1).boxed e').2.2.1.is with ⟨ts,vs,rfl,q,rr⟩|⟨ks,ts,vs,rfl,q,ll,rr⟩
  ·exact .lst q rr
  ·exact .ig (.inl q) ll rr
 |fr c=>exact h.elim
noncomputable def Sl.put:Sl->T->Sl
 |.bx _,c=>.bx c
 |.pb _,c=>.pb c
 |s,_=>s
theorem Sl.iP{s:Sl}{d:T}(e:s.box=some c):(s.put d).box=some d:=by
 cases s<;>first|rfl|cases e
theorem Rl.put{s:Sl}(l:Rl F ad B σ H μ)(e:μ[i]?=some s)(hb:s.box=some c)(r:aj F.K H B vs ts):Rl F ad B σ (upd H (ad i) (.lst vs)) (μ.set i (s.put (.lst ts))):=by
 have k0:=(l.slot i s e).boxed hb;have hi:i<μ.length:=(Ll.mp e).1;have f:Fr B H B (upd H (ad i) (.lst vs)):=Fr.set k0.2.1;have get:∀ j,(μ.set i (s.put (.lst ts)))[j]?=if j=i then some (s.put (.lst ts)) else μ[j]?:=fun j=>by
  rw[NS];by_cases z:i=j
  ·subst z;simp[hi]
  ·rw[Lc z,Lc (fun q=>z q.symm)]
 refine⟨by rw[LV];exact l.len,fun j s' e'=>?_,fun j k s1 s2 c1 c2 e1 e2 b1 b2 q=>?_,fun j a p=>?_,l.bc,fun b z=>?_,fun b o e' n=>?_,fun a ws ga=>?_⟩
 ·rw[get] at e';by_cases z:j=i
  ·subst z;rw[Li rfl] at e';cases e';have k:=l.slot j s e
   cases s with
   |un=>cases hb
   |tr t=>cases hb
   |bx d=>exact⟨k.1,k.2.1,k.2.2.1,k.2.2.2.1,vs,aq,r.fr f⟩
   |pb d=>exact⟨k.1,k.2.1,k.2.2.1,vs,aq,r.fr f⟩
  ·rw[Lc z] at e';have k:=l.slot j s' e';have ne:∀ d,s'.box=some d->ad j≠ad i:=fun d hd q=>z (l.inj j i s' s d c e' e hd hb q);unfold hZ at k ⊢
   split at k
   ·trivial
   ·obtain⟨v,e1,r1⟩:=k;exact⟨v,e1,r1.fr f⟩
   ·obtain⟨e1,b,z0,p,x⟩:=k;exact⟨e1,b,z0,p,x.of (ai (ne _ rfl)) f⟩
   ·obtain⟨e1,b,p,x⟩:=k;exact⟨e1,b,p,x.of (ai (ne _ rfl)) f⟩
 ·rw[get] at e1 e2;have h1:∃ u d,μ[j]?=some u/\u.box=some d:=by
   by_cases z:j=i
   ·subst z;exact⟨s,c,e,hb⟩
   ·rw[Lc z] at e1;exact⟨_,_,e1,b1⟩
  have h2:∃ u d,μ[k]?=some u/\u.box=some d:=by
   by_cases z:k=i
   ·subst z;exact⟨s,c,e,hb⟩
   ·rw[Lc z] at e2;exact⟨_,_,e2,b2⟩
  obtain⟨u1,d1,g1,g2⟩:=h1;obtain⟨u2,d2,g3,g4⟩:=h2;exact l.inj j k u1 u2 d1 d2 g1 g3 g2 g4 q
 ·obtain⟨⟨d,hd⟩,ha⟩:=l.par j a p;refine⟨?_,ha⟩;rw[get];by_cases z:j=i
  ·subst z;rw[e] at hd;cases hd;rw[Li rfl];exact⟨_,rfl⟩
  ·rw[Lc z];exact⟨d,hd⟩
 ·by_cases z':b=ad i
  ·subst z';exact⟨_,aq⟩
  ·rw[ai z'];exact l.fi b z
 ·have ne:b≠ad i:=by
   rintro rfl;rcases k0.2.2.2 with z|z
   ·exact n i z
   ·rw[z] at e';cases e'
  rw[ai ne];exact l.old b o e' n
 ·obtain⟨g1,g2,g3⟩:=l.gh a ws ga;refine⟨by rw[ai (fun z=>g3 i s c e hb z.symm)];exact g1,g2,fun j s' d e' b'=>?_⟩
  rw[get] at e';by_cases z:j=i
  ·subst z;exact g3 j s c e hb
  ·rw[Lc z] at e';exact g3 j s' d e' b'
theorem Rl.CO{t:T}(l:Rl F ad B σ H μ)(hp:∀ c,μ[i]?≠some (.pb c))(h:Rep F.K H B v t):Rl F ad B (σ.set i (some v)) H (μ.set i (.tr t)):=by
 have get:∀ j,i<μ.length->(μ.set i (.tr t))[j]?=if j=i then some (.tr t) else μ[j]?:=fun j hi=>by
  rw[NS];by_cases z:i=j
  ·subst z;simp[hi]
  ·rw[Lc z,Lc (fun q=>z q.symm)]
 by_cases hi:i<μ.length
 ·refine⟨by rw[LV,LV];exact l.len,fun j s' e'=>?_,fun j k s1 s2 c1 c2 e1 e2 b1 b2 q=>?_,fun j a p=>?_,l.bc,l.fi,l.old,fun a ws ga=>?_⟩
  ·rw[get j hi] at e';by_cases z:j=i
   ·subst z;rw[Li rfl] at e';cases e';exact⟨v,by rw[LK (by rw[<- l.len];exact hi)],h⟩
   ·rw[Lc z] at e';rw[LO (Ne.symm z)];exact l.slot j s' e'
  ·rw[get j hi] at e1;rw[get k hi] at e2;by_cases z:j=i
   ·rw[Li z] at e1;cases e1;cases b1
   ·by_cases z2:k=i
    ·rw[Li z2] at e2;cases e2;cases b2
    ·rw[Lc z] at e1;rw[Lc z2] at e2;exact l.inj j k _ _ _ _ e1 e2 b1 b2 q
  ·obtain⟨⟨d,hd⟩,ha⟩:=l.par j a p;refine⟨⟨d,?_⟩,ha⟩;rw[get j hi];by_cases z:j=i
   ·subst z;exact absurd hd (hp d)
   ·rw[Lc z];exact hd
  ·obtain⟨g1,g2,g3⟩:=l.gh a ws ga;refine⟨g1,g2,fun j s' d e' b'=>?_⟩;rw[get j hi] at e';by_cases z:j=i
   ·rw[Li z] at e';cases e';cases b'
   ·rw[Lc z] at e';exact g3 j s' d e' b'
 ·have hs:σ.length<=i:=by rw[<- l.len];lia
  rw[MY (show μ.length<=i by lia),MY hs]
  exact l
theorem Rl.setB(l:Rl F ad (more B a) σ H μ)(hp:∀ c,μ[i]?≠some (.pb c))(h0:F.H0 a=none)(n:¬ B a)(own:∀ j s c,μ[j]?=some s->s.box=some c->B (ad j))(gB:∀ b vs,F.G b=some vs->B b)(x:Bx F.K H (more B a) a c):
  Rl F (fun j=>if j=i then a else ad j) (more B a) (σ.set i (some (.ref a))) H (μ.set i (.bx c)):=by
 have get:∀ j,i<μ.length->(μ.set i (.bx c))[j]?=if j=i then some (.bx c) else μ[j]?:=fun j hi=>by
  rw[NS];by_cases z:i=j
  ·subst z;simp[hi]
  ·rw[Lc z,Lc (fun q=>z q.symm)]
 have pi:F.P i=none:=by
  cases q:F.P i with
  |none=>rfl
  |some b =>
   obtain⟨⟨d,hd⟩,_⟩:=l.par i b q;exact absurd hd (hp d)
 by_cases hi:i<μ.length
 ·refine⟨by rw[LV,LV];exact l.len,fun j s' e'=>?_,fun j k s1 s2 c1 c2 e1 e2 b1 b2 q=>?_,fun j a' p=>?_,l.bc,l.fi,l.old,fun b ws ga=>?_⟩
  ·rw[get j hi] at e';by_cases z:j=i
   ·subst z;rw[Li rfl] at e';cases e';show _/\_;simp only[Li];exact⟨by rw[LK (by rw[<- l.len];exact hi)],.inl rfl,h0,pi,x⟩
   ·rw[Lc z] at e';rw[LO (Ne.symm z)];have k:=l.slot j s' e';unfold hZ at k ⊢;simp only[Lc z];exact k
  ·rw[get j hi] at e1;rw[get k hi] at e2;by_cases z:j=i
   ·by_cases z2:k=i
    ·rw[z,z2]
    ·rw[Li z,Lc z2] at q;rw[Lc z2] at e2;exact absurd (own k _ _ e2 b2) (by rw[<- q];exact n)
   ·by_cases z2:k=i
    ·rw[Li z2,Lc z] at q;rw[Lc z] at e1;exact absurd (own j _ _ e1 b1) (by rw[q];exact n)
    ·rw[Lc z] at e1;rw[Lc z2] at e2;rw[Lc z,Lc z2] at q;exact l.inj j k _ _ _ _ e1 e2 b1 b2 q
  ·obtain⟨⟨d,hd⟩,ha⟩:=l.par j a' p;have z:j≠i:=by rintro rfl;exact hp d hd
   rw[get j hi,Lc z];exact⟨⟨d,hd⟩,by simp only[Lc z];exact ha⟩
  ·obtain⟨g1,g2,g3⟩:=l.gh b ws ga;refine⟨g1,g2,fun j s' d e' b'=>?_⟩;rw[get j hi] at e';by_cases z:j=i
   ·simp only[Li z];rintro rfl;exact n (gB _ ws ga)
   ·rw[Lc z] at e';simp only[Lc z];exact g3 j s' d e' b'
 ·have hs:σ.length<=i:=by rw[<- l.len];lia
  rw[MY (show μ.length<=i by lia),MY hs]
  have ne:∀ j s,μ[j]?=some s->j≠i:=fun j s e q=>by
   have:=(Ll.mp e).1;lia
  refine⟨l.len,fun j s' e'=>?_,fun j k s1 s2 c1 c2 e1 e2 b1 b2 q=>?_,fun j a' p=>?_,l.bc,l.fi,l.old,fun b ws ga=>?_⟩
  ·have k:=l.slot j s' e';unfold hZ at k ⊢;simp only[Lc (ne j s' e')];exact k
  ·simp only[Lc (ne j _ e1),Lc (ne k _ e2)] at q;exact l.inj j k _ _ _ _ e1 e2 b1 b2 q
  ·obtain⟨⟨d,hd⟩,ha⟩:=l.par j a' p;exact⟨⟨d,hd⟩,by simp only[Lc (ne j _ hd)];exact ha⟩
  ·obtain⟨g1,g2,g3⟩:=l.gh b ws ga;refine⟨g1,g2,fun j s' d e' b'=>?_⟩;simp only[Lc (ne j _ e')];exact g3 j s' d e' b'
theorem Rl.gB(l:Rl F ad B σ H μ):∀ b vs,F.G b=some vs->B b:=fun b vs e=>(l.gh b vs e).2.1
theorem Rl.own(l:Rl F ad B σ H μ):∀ j s c,μ[j]?=some s->s.box=some c->B (ad j):=fun j s c e b=>((l.slot j s e).boxed b).2.1
theorem Rl.freeze(l:Rl F ad B σ H μ)(e:μ[i]?=some (.bx c))(hc:¬ F.Bc (ad i)):Rl F ad (fun b=>B b/\b≠ad i) σ H (μ.set i (.tr c))/\Rep F.K H (fun b=>B b/\b≠ad i) (.ref (ad i)) c:=by
 have k0:=l.slot i _ e;have hi:i<μ.length:=(Ll.mp e).1;have rp:Rep F.K H (fun b=>B b/\b≠ad i) (.ref (ad i)) c:=((k0.2.2.2.2).of rfl (Fr.less fun _ z=>z.1)).rep (fun z=>z.2 rfl);have get:∀ j,(μ.set i (.tr c))[j]?=if j=i then some (.tr c) else μ[j]?:=fun j=>by
  rw[NS];by_cases z:i=j
  ·subst z;simp[hi]
  ·rw[Lc z,Lc (fun q=>z q.symm)]
 have pi:F.P i=none:=k0.2.2.2.1;refine⟨⟨by rw[LV];exact l.len,fun j s' e'=>?_,fun j k s1 s2 c1 c2 e1 e2 b1 b2 q=>?_,fun j a p=>?_,fun b z=>⟨l.bc b z,by rintro rfl;exact hc z⟩,fun b z=>l.fi b z.1,l.old,fun a ws ga=>?_⟩,rp⟩
 ·rw[get] at e';by_cases z:j=i
  ·subst z;rw[Li rfl] at e';cases e';exact⟨_,k0.1,rp⟩
  ·rw[Lc z] at e';have k:=l.slot j s' e';have ne:∀ d,s'.box=some d->ad j≠ad i:=fun d hd q=>z (l.inj j i s' _ d c e' e hd rfl q);unfold hZ at k ⊢
   split at k
   ·trivial
   ·obtain⟨v,e1,r1⟩:=k;exact⟨v,e1,r1.fr (Fr.less fun _ z=>z.1)⟩
   ·obtain⟨e1,b,z0,p,x⟩:=k;exact⟨e1,⟨b,ne _ rfl⟩,z0,p,x.of rfl (Fr.less fun _ z=>z.1)⟩
   ·obtain⟨e1,b,p,x⟩:=k;exact⟨e1,⟨b,ne _ rfl⟩,p,x.of rfl (Fr.less fun _ z=>z.1)⟩
 ·rw[get] at e1 e2;by_cases z:j=i
  ·rw[Li z] at e1;cases e1;cases b1
  ·by_cases z2:k=i
   ·rw[Li z2] at e2;cases e2;cases b2
   ·rw[Lc z] at e1;rw[Lc z2] at e2;exact l.inj j k _ _ _ _ e1 e2 b1 b2 q
 ·obtain⟨⟨d,hd⟩,ha⟩:=l.par j a p;refine⟨⟨d,?_⟩,ha⟩;rw[get];by_cases z:j=i
  ·subst z;rw[pi] at p;cases p
  ·rw[Lc z];exact hd
 ·obtain⟨g1,g2,g3⟩:=l.gh a ws ga;refine⟨g1,⟨g2,(g3 i _ c e rfl).symm⟩,fun j s' d e' b'=>?_⟩;rw[get] at e';by_cases z:j=i
  ·rw[Li z] at e';cases e';cases b'
  ·rw[Lc z] at e';exact g3 j s' d e' b'
end
section
variable {K:Qf} {H:Hp} {B:aR} {v:V}
theorem Rep.vd{b:Bool}(h:Rep K H B v (.bl b)):v=.bl b:=by cases h;rfl
theorem Rep.bZ{i:Int}(h:Rep K H B v (.int i)):v=.int i:=by cases h;rfl
theorem Rep.gf(h:Rep K H B v (.str x)):v=.str x:=by cases h;rfl
theorem Rep.tupI(h:Rep K H B v (.tup ts)):∃ a vs,v=.ref a/\¬ B a/\H a=some (.tup vs)/\aj K H B vs ts:=by cases h with|tup n h r=>exact⟨_,_,rfl,n,h,r⟩
theorem Rep.qM(h:Rep K H B v (.dq ts)):∃ a vs,v=.ref a/\EG K a vs/\aj K H B vs ts:=by cases h with|dq h r=>exact⟨_,_,rfl,h,r⟩
theorem Rep.ef(h:Rep K H B v (.lst ts)):∃ a vs,v=.ref a/\¬ B a/\H a=some (.lst vs)/\aj K H B vs ts:=by cases h with|lst n h r=>exact⟨_,_,rfl,n,h,r⟩
theorem Rep.uR(h:Rep K H B v (.e7 ts)):∃ a vs,v=.ref a/\LB K H B a vs/\aj K H B vs ts:=by cases h with|e7 h r=>exact⟨_,_,rfl,h,r⟩
theorem Rep.CM{hi:Int}(h:Rep K H B v (.dI lo hi)):∃ a,v=.ref a/\¬ B a/\H a=some (.dI lo hi):=by cases h with|dI n h=>exact⟨_,rfl,n,h⟩
theorem Vw.Ga(h:Vw K H B v .aC):v=.aC:=by cases h;rfl
theorem Vw.vd{b:Bool}(h:Vw K H B v (.bl b)):v=.bl b:=by cases h;rfl
theorem Vw.bZ{i:Int}(h:Vw K H B v (.int i)):v=.int i:=by cases h;rfl
theorem Vw.gf(h:Vw K H B v (.str x)):v=.str x:=by cases h;rfl
theorem Vw.tupI(h:Vw K H B v (.tup ts)):∃ a vs,v=.ref a/\H a=some (.tup vs)/\aj K H B vs ts:=by cases h with|tup h r=>exact⟨_,_,rfl,h,r⟩
theorem Vw.qM(h:Vw K H B v (.dq ts)):∃ a vs,v=.ref a/\EG K a vs/\aj K H B vs ts:=by cases h with|dq h r=>exact⟨_,_,rfl,h,r⟩
theorem Vw.ef(h:Vw K H B v (.lst ts)):∃ a vs,v=.ref a/\H a=some (.lst vs)/\aj K H B vs ts:=by cases h with|lst h r=>exact⟨_,_,rfl,h,r⟩
theorem Vw.uR(h:Vw K H B v (.e7 ts)):∃ a vs,v=.ref a/\bH K H a vs/\aj K H B vs ts:=by cases h with|e7 h r=>exact⟨_,_,rfl,h,r⟩
theorem Vw.CM{hi:Int}(h:Vw K H B v (.dI lo hi)):∃ a,v=.ref a/\H a=some (.dI lo hi):=by cases h with|dI h=>exact⟨_,rfl,h⟩
theorem Rep.oD(h:Rep K H B (.ref a) (.tup ts)):∃ vs,¬ B a/\H a=some (.tup vs)/\aj K H B vs ts:=by obtain⟨_,vs,e,r⟩:=h.tupI;cases e;exact⟨vs,r⟩
theorem Rep.DV(h:Rep K H B (.ref a) (.lst ts)):∃ vs,¬ B a/\H a=some (.lst vs)/\aj K H B vs ts:=by obtain⟨_,vs,e,r⟩:=h.ef;cases e;exact⟨vs,r⟩
theorem Rep.Jn(h:Rep K H B (.ref a) (.dq ts)):∃ vs,EG K a vs/\aj K H B vs ts:=by obtain⟨_,vs,e,r⟩:=h.qM;cases e;exact⟨vs,r⟩
theorem Rep.Ju(h:Rep K H B (.ref a) (.e7 ts)):∃ vs,LB K H B a vs/\aj K H B vs ts:=by obtain⟨_,vs,e,r⟩:=h.uR;cases e;exact⟨vs,r⟩
theorem aj.eV(h:aj K H B vs []):vs=[]:=by cases h;rfl
theorem aj.aO{t:T}(h:aj K H B vs (t::ts)):∃ v ws,vs=v::ws/\Rep K H B v t/\aj K H B ws ts:=by cases h with|cons h r=>exact⟨_,_,rfl,h,r⟩
end
theorem Paired.eV{P:α->β->Prop}{xs:List α}(h:Paired P xs []):xs=[]:=by cases h;rfl
theorem Paired.aO{P:α->β->Prop}{xs:List α}{y:β}{ys:List β}(h:Paired P xs (y::ys)):∃ x zs,xs=x::zs/\P x y/\Paired P zs ys:=by cases h with|cons h r=>exact⟨_,_,rfl,h,r⟩
theorem Paired.mM{P:α->β->Prop}{ys:List β}(h:Paired P [] ys):ys=[]:=by cases h;rfl
theorem Paired.fb{P:α->β->Prop}{x:α}{xs:List α}{ys:List β}(h:Paired P (x::xs) ys):∃ y zs,ys=y::zs/\P x y/\Paired P xs zs:=by cases h with|cons h r=>exact⟨_,_,rfl,h,r⟩
abbrev UE:=Mu->(R->Mu->Prop)->Prop
variable{ue:UE}
abbrev UT:=Mu->(Bool->Mu->Prop)->Prop
abbrev UA:=Mu->(List R->Mu->Prop)->Prop
abbrev UO:=Mu->(Option Int->Mu->Prop)->Prop
abbrev U2:=R->R->Mu->(R->Mu->Prop)->Prop
variable{u:U2}
abbrev UC:=List R->Mu->(R->Mu->Prop)->Prop
structure Ed where
 nx:Mu->Prop
 rt:R->Mu->Prop
 bk:Mu->Prop:=fun _=>False
 ct:Mu->Prop:=fun _=>False
abbrev US:=Ed->Mu->Prop
noncomputable def Bv(B:aR)(v:V):R->aR
 |.fr _=>(match v with|.ref a=>more B a|_=>B)
 |_=>B
theorem Fr.d{v:V}{r:R}(f:Fr B H (Bv B v r) H'):Fr B H B H':=fun b o h n=>⟨(f b o h n).1,n⟩
noncomputable def RE(K:Qf)(te:TE)(ue:UE):Prop:=∀(F:Fx) (ad:Nat->Addr) (B:aR) (σ:St) (H:Hp) (μ:Mu) (Q:VK) (Qt:R->Mu->Prop),F.K=K->Rl F ad B σ H μ->ue μ Qt ->
 (∀ v H' r μ',Vr F ad B σ H' μ' v r->Fr B H (Bv B v r) H'->Kp μ μ'->Qt r μ'->Q v H')->te σ H Q
noncomputable def RT(K:Qf)(tt:TT)(ut:UT):Prop:=∀(F:Fx) (ad:Nat->Addr) (B:aR) (σ:St) (H:Hp) (μ:Mu) (Q:Bool->Hp->Prop) (Qt:Bool->Mu->Prop),F.K=K->Rl F ad B σ H μ->ut μ Qt ->
 (∀ b H' μ',Rl F ad B σ H' μ'->Fr B H B H'->Kp μ μ'->Qt b μ'->Q b H')->tt σ H Q
noncomputable def RA(K:Qf)(ta:TA)(ua:UA):Prop:=∀(F:Fx) (ad:Nat->Addr) (B:aR) (σ:St) (H:Hp) (μ:Mu) (Q:List V->Hp->Prop) (Qt:List R->Mu->Prop),F.K=K->Rl F ad B σ H μ->ua μ Qt ->
 (∀ vs H' rs μ',Rl F ad B σ H' μ'->Paired (Hv F ad B H' μ') vs rs->Fr B H B H'->Kp μ μ'->Qt rs μ'->Q vs H')->ta σ H Q
noncomputable def RO(K:Qf)(tt:TO)(ut:UO):Prop:=∀(F:Fx) (ad:Nat->Addr) (B:aR) (σ:St) (H:Hp) (μ:Mu) (Q:Option Int->Hp->Prop) (Qt:Option Int->Mu->Prop),F.K=K->Rl F ad B σ H μ->ut μ Qt ->
 (∀ b H' μ',Rl F ad B σ H' μ'->Fr B H B H'->Kp μ μ'->Qt b μ'->Q b H')->tt σ H Q
noncomputable def ic(K:Qf)(r:R2)(u:U2):Prop:=∀(F:Fx) (ad:Nat->Addr) (B:aR) (σ:St) (H:Hp) (μ:Mu) (Q:VK) (Qt:R->Mu->Prop) (x y:V) (r1 r2:R),F.K=K->Rl F ad B σ H μ->Hv F ad B H μ x r1->Hv F ad B H μ y r2->u r1 r2 μ Qt ->
 (∀ v H' r μ',Vr F ad B σ H' μ' v r->Fr B H (Bv B v r) H'->Kp μ μ'->Qt r μ'->Q v H')->r x y H Q
noncomputable def RC(K:Qf)(r:List V->Hp->VK->Prop)(u:UC):Prop:=∀(F:Fx) (ad:Nat->Addr) (B:aR) (σ:St) (H:Hp) (μ:Mu) (Q:VK) (Qt:R->Mu->Prop) (xs:List V) (rs:List R),F.K=K->Rl F ad B σ H μ->Paired (Hv F ad B H μ) xs rs->u rs μ Qt ->
 (∀ v H' r μ',Vr F ad B σ H' μ' v r->Fr B H (Bv B v r) H'->Kp μ μ'->Qt r μ'->Q v H')->r xs H Q
section
variable {F:Fx} {ad:Nat->Addr} {B:aR} {σ:St} {H:Hp} {μ:Mu} {Q:VK} {Qt:R->Mu->Prop}
theorem Vr.flat{v:V}{t:T}(l:Rl F ad B σ H μ)(r:Rep F.K H B v t):Vr F ad B σ H μ v (.tr t):=⟨l,r⟩
theorem Vr.i5(l:Rl F ad B σ H μ)(r:aj F.K H B vs ts)(e:H p=none):Vr F ad B σ (upd H p (.lst vs)) μ (.ref p) (.fr (.lst ts)):=
 ⟨l.same (bB.new e),p,rfl,l.p7 e,l.ym e,l.new e,vs,aq,r.fr (Fr.more e)⟩
theorem Vr.u6(l:Rl F ad B σ H μ)(r:aj F.K H B vs ts)(e:H p=none):Vr F ad B σ (upd H p (.tup vs)) μ (.ref p) (.tr (.tup ts)):=
 ⟨l.same (bB.new e),.tup (l.p7 e) aq (r.fr (Fr.same (bB.new e)))⟩
end
structure YE (X:Cx) (e:Expr) (u:UE):Prop where
 ex:∃ t,QE X e t/\RE X.K t u
structure YT (X:Cx) (e:Expr) (u:UT):Prop where
 ex:∃ t,QT X e t/\RT X.K t u
structure YW (X:Cx) (e:Expr) (u:UT):Prop where
 ex:∃ t,QW X e t/\RT X.K t u
structure YA (X:Cx) (es:List Expr) (u:UA):Prop where
 ex:∃ t,QA X es t/\RA X.K t u
structure YO (X:Cx) (e:Option Expr) (u:UO):Prop where
 ex:∃ t,QO X e t/\RO X.K t u
structure BR (X:Cx) (es:List Expr) (u:UT):Prop where
 ex:∃ t,Fv X es t/\RT X.K t u
namespace Y
noncomputable def uC(t:T):UE:=fun μ Q=>Q (.tr t) μ
noncomputable def me(i:Nat):UE:=fun μ Q=>match μ[i]? with
 |some (.tr t)=>Q (.tr t) μ
 |some (.bx _)=>Q (.br i) μ
 |some (.pb _)=>Q (.br i) μ
 |_=>False
noncomputable def BZ(u:U2)(ua ub:UE):UE:=fun μ Q=>ua μ fun r1 μ1=>ub μ1 fun r2 μ2=>u r1.d r2.d μ2 Q
section
variable {X:Cx} {a b c e o:Expr} {es rest:List Expr} {ua ub uc ue uo:UE} {uA uB:UT} {us:UA} {pos p p2:Pos} {x:Str}
theorem xf{v:V}{t:T}(h:∀ H B,Rep K H B v t):RE K (tC v) (uC t):=fun F ad B σ H μ Q Qt hK l q k=>k v H (.tr t) μ ⟨l,show Rep F.K H B v t from hK ▸ h H B⟩ Fr.refl (Kp.refl μ) q
theorem int{i:Int}:YE X (.Constant (.int i) j pos) (uC (.int i)):=⟨_,Z.int,xf fun _ _=>.int i⟩
theorem bl{i:Bool}:YE X (.Constant (.bool i) j pos) (uC (.bl i)):=⟨_,Z.bl,xf fun _ _=>.bl i⟩
theorem aC:YE X (.Constant .none j pos) (uC .aC):=⟨_,Z.aC,xf fun _ _=>.aC⟩
theorem str{i:Str}:YE X (.Constant (.str i) j pos) (uC (.str i)):=⟨_,Z.str,xf fun _ _=>.str i⟩
theorem v(i:Nat)(hN:autoParam (X.N[i]?=some x) ℜ0)(hv:autoParam (Es X.env.scope x) ℜ4)(hd:autoParam ((x ==("__debug__":Str))=false) ℜ1)
  (gJ:autoParam ((x ==("__classdict__":Str))=false) ℜ1):YE X (.Name x pos) (me i):=by
 refine⟨_,Z.v i hN hv hd gJ,fun F ad B σ H μ Q Qt hK l q k=>?_⟩;unfold me at q
 split at q
 ·rename_i t e;obtain⟨v,e1,r⟩:=l.slot i _ e;exact⟨v,e1,k v H (.tr t) μ ⟨l,r⟩ Fr.refl (Kp.refl μ) q⟩
 ·rename_i t e;have r:=l.slot i _ e;exact⟨_,r.1,k _ H (.br i) μ ⟨l,rfl,_,_,e,rfl⟩ Fr.refl (Kp.refl μ) q⟩
 ·rename_i t e;have r:=l.slot i _ e;exact⟨_,r.1,k _ H (.br i) μ ⟨l,rfl,_,_,e,rfl⟩ Fr.refl (Kp.refl μ) q⟩
 ·exact q.elim
theorem glob{w:V}{u:Value}{t:T}(hg:Gl X x)(hm:X.mg x=some u)(r:RelV w u)(h:∀ H B,Rep X.K H B w t)(hd:autoParam ((x ==("__debug__":Str))=false) ℜ1):YE X (.Name x pos) (uC t):=⟨_,Z.glob hg hm r hd,xf h⟩
theorem rJ{r:R2}{ta tb:TE}(h:ic K r u)(ha:RE K ta ua)(hb:RE K tb ub):RE K (Br r ta tb) (BZ u ua ub):=fun F ad B σ H μ Q Qt hK l q k =>
 ha F ad B σ H μ _ _ hK l q fun x H1 r1 μ1 v1 f1 k1 q1=>hb F ad B σ H1 μ1 _ _ hK v1.rl q1 fun y H2 r2 μ2 v2 f2 k2 q2 =>
  h F ad B σ H2 μ2 _ _ x y r1.d r2.d hK v2.rl (v1.hv.fr f2.d k2) v2.hv q2 fun v H' r μ' v3 f3 k3 q3=>k v H' r μ' v3 ((f1.d.trans f2.d).trans f3) ((k1.trans k2).trans k3) q3
theorem op{o:Operator}{r:R2}(ho:cE X (binaryOp o) r)(h:ic X.K r u)(ha:YE X a ua)(hb:YE X b ub):YE X (.BinOp a o b pos) (BZ u ua ub):=by
 obtain⟨ta,qa,ra⟩:=ha;obtain⟨tb,qb,rb⟩:=hb;exact⟨_,Z.op ho qa qb,rJ h ra rb⟩
theorem cmp{o:CmpOp}{r:R2}(ho:cE X (compareOp o) r)(h:ic X.K r u)(ha:YE X a ua)(hb:YE X b ub)(hm:autoParam (behindInMarks o b=false) ℜ0):YE X (.Compare a [o] [b] pos) (BZ u ua ub):=by
 obtain⟨ta,qa,ra⟩:=ha;obtain⟨tb,qb,rb⟩:=hb;exact⟨_,Z.cmp ho qa qb hm,rJ h ra rb⟩
theorem ix{r:R2}(hr:uW X r)(h:ic X.K r u)(ha:YE X a ua)(hb:YE X b ub)(hs:autoParam (Z.sim b=true) ℜ0):YE X (.Subscript a b pos) (BZ u ua ub):=by
 obtain⟨ta,qa,ra⟩:=ha;obtain⟨tb,qb,rb⟩:=hb;exact⟨_,Z.ix hr qa qb hs,rJ h ra rb⟩
noncomputable def kr(ue:UE):UT:=fun μ Q=>ue μ fun r μ'=>match r with
 |.tr (.bl b)=>Q b μ'
 |_=>False
theorem tm{t:TE}(h:RE K t ue):RT K (mV t) (kr ue):=fun F ad B σ H μ Q Qt hK l q k =>
 h F ad B σ H μ _ _ hK l q fun v H' r μ' v1 f k1 q1=>by
  split at q1
  ·rename_i b;have rp:=v1.2;obtain rfl:=Rep.vd rp;exact⟨b,rfl,k b H' μ' v1.rl f.d k1 q1⟩
  ·exact q1.elim
theorem bg{o:CmpOp}{r:R2}(ho:cE X (compareOp o) r)(h:ic X.K r u)(ha:YE X a ua)(hb:YE X b ub)(hm:autoParam (behindInMarks o b=false) ℜ0):YT X (.Compare a [o] [b] pos) (kr (BZ u ua ub)):=by
 obtain⟨ta,qa,ra⟩:=ha;obtain⟨tb,qb,rb⟩:=hb;exact⟨_,Z.bg ho qa qb hm,tm (rJ h ra rb)⟩
noncomputable def jQ(u u':U2)(ua ub uc:UE):UE:=fun μ Q=>ua μ fun r1 μ1=>ub μ1 fun r2 μ2=>u r1.d r2.d μ2 fun z μ3=>match z with
 |.tr (.bl true)=>uc μ3 fun r3 μ4=>u' r2.d r3.d μ4 Q
 |.tr (.bl false)=>Q (.tr (.bl false)) μ3
 |_=>False
theorem wo{r:R2}{u':U2}{ta tb tc:TE}(h:ic K r u)(h':ic K r' u')(ha:RE K ta ua)(hb:RE K tb ub)(hc:RE K tc uc):RE K (p6 r r' ta tb tc) (jQ u u' ua ub uc):=fun F ad B σ H μ Q Qt hK l q k =>
 ha F ad B σ H μ _ _ hK l q fun x H1 r1 μ1 v1 f1 k1 q1=>hb F ad B σ H1 μ1 _ _ hK v1.rl q1 fun y H2 r2 μ2 v2 f2 k2 q2 =>
  h F ad B σ H2 μ2 _ _ x y r1.d r2.d hK v2.rl (v1.hv.fr f2.d k2) v2.hv q2 fun v H3 r3 μ3 v3 f3 k3 q3=>by
   split at q3
   ·have rp:=v3.2;obtain rfl:=Rep.vd rp;refine⟨true,rfl,?_⟩;rw[Li rfl];exact hc F ad B σ H3 μ3 _ _ hK v3.rl q3 fun w' H4 r4 μ4 v4 f4 k4 q4=>h' F ad B σ H4 μ4 _ _ y w' r2.d r4.d hK v4.rl (v2.hv.fr (f3.d.trans f4.d) (k3.trans k4)) v4.hv q4 fun v5 H5 r5 μ5 v6 f5 k5 q5 =>
     k v5 H5 r5 μ5 v6 ((((f1.d.trans f2.d).trans f3.d).trans f4.d).trans f5) ((((k1.trans k2).trans k3).trans k4).trans k5) q5
   ·have rp:=v3.2;obtain rfl:=Rep.vd rp;refine⟨false,rfl,?_⟩;rw[Lc Lg];exact k _ H3 _ μ3 (Vr.flat v3.rl (.bl false)) ((f1.d.trans f2.d).trans f3.d) ((k1.trans k2).trans k3) q3
   ·exact q3.elim
theorem qr{o o':CmpOp}{r:R2}{u':U2}(ho:cE X (compareOp o) r)(h:ic X.K r u)(ho':cE X (compareOp o') r')(h':ic X.K r' u')(ha:YE X a ua)(hb:YE X b ub)(hc:YE X c uc)(hm:autoParam (lastMarks [o,o'] [b,c]=false) ℜ5):YT X (.Compare a [o,o'] [b,c] pos) (kr (jQ u u' ua ub uc)):=by
 obtain⟨ta,qa,ra⟩:=ha;obtain⟨tb,qb,rb⟩:=hb;obtain⟨tc,qc,rc⟩:=hc;exact⟨_,Z.qr ho ho' qa qb qc hm,tm (wo h h' ra rb rc)⟩
noncomputable def AS(ut:UT):UT:=fun μ Q=>ut μ fun b μ'=>Q (!b) μ'
theorem p5(ha:YT X a uA):YT X (.UnaryOp .Not a pos) (AS uA):=by
 obtain⟨ta,qa,ra⟩:=ha;exact⟨_,Z.p5 qa,fun F ad B σ H μ Q Qt hK l q k=>ra F ad B σ H μ _ _ hK l q fun b H' μ' l' f k1 q1=>k _ H' μ' l' f k1 q1⟩
theorem tw(h:YW X e uA):YT X e uA:=by
 obtain⟨t,q,r⟩:=h;exact⟨t,Z.tw q,r⟩
theorem sS(ha:YT X a uA):YW X (.BoolOp .And [a] pos) uA:=by obtain⟨t,q,r⟩:=ha;exact⟨t,Z.sS q,r⟩
theorem yV(ha:YT X a uA):YW X (.BoolOp .Or [a] pos) uA:=by obtain⟨t,q,r⟩:=ha;exact⟨t,Z.yV q,r⟩
noncomputable def w_(u w:UT):UT:=fun μ Q=>u μ fun b μ'=>if b=true then w μ' Q else Q false μ'
noncomputable def G3(u w:UT):UT:=fun μ Q=>u μ fun b μ'=>if b=true then Q true μ' else w μ' Q
theorem Em{t u:TT}(ha:RT K t uA)(hb:RT K u uB):RT K (Dz t u) (w_ uA uB):=fun F ad B σ H μ Q Qt hK l q k=>ha F ad B σ H μ _ _ hK l q fun b H' μ' l' f k1 q1=>by
 cases b with
 |true=>rw[Li rfl] at q1 ⊢;exact hb F ad B σ H' μ' _ _ hK l' q1 fun b2 H2 μ2 l2 f2 k2 q2=>k b2 H2 μ2 l2 (f.trans f2) (k1.trans k2) q2
 |false=>rw[Lc Lg] at q1 ⊢;exact k _ H' μ' l' f k1 q1
theorem GK{t u:TT}(ha:RT K t uA)(hb:RT K u uB):RT K (Jx t u) (G3 uA uB):=fun F ad B σ H μ Q Qt hK l q k=>ha F ad B σ H μ _ _ hK l q fun b H' μ' l' f k1 q1=>by
 cases b with
 |false=>rw[Lc Lg] at q1 ⊢;exact hb F ad B σ H' μ' _ _ hK l' q1 fun b2 H2 μ2 l2 f2 k2 q2=>k b2 H2 μ2 l2 (f.trans f2) (k1.trans k2) q2
 |true=>rw[Li rfl] at q1 ⊢;exact k _ H' μ' l' f k1 q1
theorem Bg(ha:YT X a uA)(hb:YW X (.BoolOp .And (b::rest) pos) uB):YW X (.BoolOp .And (a::b::rest) pos) (w_ uA uB):=by
 obtain⟨t,q,r⟩:=ha;obtain⟨t',q',r'⟩:=hb;exact⟨_,Z.Bg q q',Em r r'⟩
theorem HM(ha:YT X a uA)(hb:YW X (.BoolOp .Or (b::rest) pos) uB):YW X (.BoolOp .Or (a::b::rest) pos) (G3 uA uB):=by
 obtain⟨t,q,r⟩:=ha;obtain⟨t',q',r'⟩:=hb;exact⟨_,Z.HM q q',GK r r'⟩
noncomputable def oA(ue:UE):UT:=fun μ Q=>ue μ fun r μ'=>match r with
 |.tr (.bl b)=>Q b μ'
 |.tr (.int i)=>Q (i != 0) μ'
 |_=>False
theorem Er(K:Qf)(hK:X.K=K)(ha:YE X a ua)(he:autoParam (Z.Iv a=true) ℜ0):YT X a (oA ua):=by
 obtain⟨t,q,r⟩:=ha;refine⟨_,Z.Er K hK q he,fun F ad B σ H μ Q Qt hK l q k=>r F ad B σ H μ _ _ hK l q fun v H' r1 μ' v1 f k1 q1=>?_⟩
 split at q1
 ·have rp:=v1.2;obtain rfl:=Rep.vd rp;exact⟨_,(Ap.IS ..).symm ▸ rfl,k _ H' μ' v1.rl f.d k1 q1⟩
 ·have rp:=v1.2;obtain rfl:=Rep.bZ rp;exact⟨_,(Ap.IL ..).symm ▸ rfl,k _ H' μ' v1.rl f.d k1 q1⟩
 ·exact q1.elim
noncomputable def sk(ue:UE):UE:=fun μ Q=>ue μ fun r μ'=>match r with
 |.tr (.bl b)=>Q (.tr (.bl (!b))) μ'
 |_=>False
theorem not(ha:YE X a ua):YE X (.UnaryOp .Not a pos) (sk ua):=by
 obtain⟨t,q,r⟩:=ha;refine⟨_,Z.not q,fun F ad B σ H μ Q Qt hK l q k=>r F ad B σ H μ _ _ hK l q fun v H' r1 μ' v1 f k1 q1=>?_⟩
 split at q1
 ·have rp:=v1.2;obtain rfl:=Rep.vd rp;exact⟨_,rfl,k _ H' _ μ' (Vr.flat v1.rl (.bl _)) f.d k1 q1⟩
 ·exact q1.elim
noncomputable def rK(ua ub:UE):UE:=fun μ Q=>ua μ fun r μ'=>match r with
 |.tr (.bl true)=>ub μ' Q
 |.tr (.bl false)=>Q (.tr (.bl false)) μ'
 |_=>False
theorem and(ha:YE X a ua)(hb:YE X (.BoolOp .And (b::rest) pos) ub):YE X (.BoolOp .And (a::b::rest) pos) (rK ua ub):=by
 obtain⟨t,q,r⟩:=ha;obtain⟨t',q',r'⟩:=hb;refine⟨_,Z.and q q',fun F ad B σ H μ Q Qt hK l q k=>r F ad B σ H μ _ _ hK l q fun v H' r1 μ' v1 f k1 q1=>?_⟩
 split at q1
 ·have rp:=v1.2;obtain rfl:=Rep.vd rp;refine⟨_,rfl,?_⟩;rw[Li rfl];exact r' F ad B σ H' μ' _ _ hK v1.rl q1 fun v2 H2 r2 μ2 v3 f2 k2 q2=>k v2 H2 r2 μ2 v3 (f.d.trans f2) (k1.trans k2) q2
 ·have rp:=v1.2;obtain rfl:=Rep.vd rp;refine⟨_,rfl,?_⟩;rw[Lc Lg];exact k _ H' _ μ' (Vr.flat v1.rl (.bl _)) f.d k1 q1
 ·exact q1.elim
theorem one{o:BoolOp}(ha:YE X a ua):YE X (.BoolOp o [a] pos) ua:=by obtain⟨t,q,r⟩:=ha;exact⟨t,Z.one q,r⟩
noncomputable def Ih(uc:UT)(ua ub:UE):UE:=fun μ Q=>uc μ fun b μ'=>if b=true then ua μ' Q else ub μ' Q
theorem Fw(hc:YT X c uA)(ha:YE X a ua)(hb:YE X b ub):YE X (.IfExp c a b pos) (Ih uA ua ub):=by
 obtain⟨tc,qc,rc⟩:=hc;obtain⟨t,q,r⟩:=ha;obtain⟨t',q',r'⟩:=hb;refine⟨_,Z.Fw qc q q',fun F ad B σ H μ Q Qt hK l q k=>rc F ad B σ H μ _ _ hK l q fun b H' μ' l1 f k1 q1=>?_⟩
 cases b with
 |true=>rw[Li rfl] at q1 ⊢;exact r F ad B σ H' μ' _ _ hK l1 q1 fun v2 H2 r2 μ2 v3 f2 k2 q2=>k v2 H2 r2 μ2 v3 (f.trans f2) (k1.trans k2) q2
 |false=>rw[Lc Lg] at q1 ⊢;exact r' F ad B σ H' μ' _ _ hK l1 q1 fun v2 H2 r2 μ2 v3 f2 k2 q2=>k v2 H2 r2 μ2 v3 (f.trans f2) (k1.trans k2) q2
noncomputable def zy(ue:UE):UE:=fun μ Q=>ue μ fun r μ'=>match r with
 |.tr (.int i)=>Q (.tr (.int (-i))) μ'
 |_=>False
theorem neg(ha:YE X a ua):YE X (.UnaryOp .USub a pos) (zy ua):=by
 obtain⟨t,q,r⟩:=ha;refine⟨_,Z.un EA q,fun F ad B σ H μ Q Qt hK l q k=>r F ad B σ H μ _ _ hK l q fun v H' r1 μ' v1 f k1 q1=>?_⟩
 split at q1
 ·have rp:=v1.2;obtain rfl:=Rep.bZ rp;exact⟨_,rfl,k _ H' _ μ' (Vr.flat v1.rl (.int _)) f.d k1 q1⟩
 ·exact q1.elim
noncomputable def vW:UA:=fun μ Q=>Q [] μ
noncomputable def qT(ue:UE)(us:UA):UA:=fun μ Q=>ue μ fun r μ1=>us μ1 fun rs μ2=>Q (r.d::rs) μ2
noncomputable def uK(ts:List T):UA:=fun μ Q=>Q (ts.map R.tr) μ
theorem nil:YA X [] vW:=⟨_,Z.nil,fun F ad B σ H μ Q Qt hK l q k=>k [] H [] μ l .nil Fr.refl (Kp.refl μ) q⟩
theorem cons(ha:YE X e ue)(hr:YA X es us)(h:autoParam (cL e=true) ℜ0):YA X (e::es) (qT ue us):=by
 obtain⟨t,q,r⟩:=ha;obtain⟨t',q',r'⟩:=hr;exact⟨_,Z.cons q q' h,fun F ad B σ H μ Q Qt hK l q k=>r F ad B σ H μ _ _ hK l q fun v H' r1 μ' v1 f k1 q1=>r' F ad B σ H' μ' _ _ hK v1.rl q1 fun vs H2 rs μ2 l2 ps f2 k2 q2 =>
  k (v::vs) H2 (r1.d::rs) μ2 l2 (.cons (v1.hv.fr f2 k2) ps) (f.d.trans f2) (k1.trans k2) q2⟩
noncomputable def xJ:V->Option T
 |.aC=>some .aC
 |.bl b=>some (.bl b)
 |.int i=>some (.int i)
 |.str x=>some (.str x)
 |_=>none
theorem zf{v:V}{t:T}(h:xJ v=some t):Rep K H B v t:=by
 unfold xJ at h
 split at h
 ·cases h;exact .aC
 ·cases h;exact .bl _
 ·cases h;exact .int _
 ·cases h;exact .str _
 ·cases h
theorem consts(h:lE es=some vs)(h2:vs.map xJ=ts.map some):YA X es (uK ts):=by
 refine⟨_,Z.consts h,fun F ad B σ H μ Q Qt hK l q k=>k vs H _ μ l ?_ Fr.refl (Kp.refl μ) q⟩;clear h q k
 induction vs generalizing ts with
 |nil=>cases ts with
  |nil=>exact .nil
  |cons t ts=>cases h2
 |cons v vs ih=>cases ts with
  |nil=>cases h2
  |cons t ts =>
   rw[L3,L3] at h2
   injection h2 with e1 e2
   exact .cons (zf e1) (ih e2)
noncomputable def trees:List R->Option (List T)
 |[]=>some []
 |.tr t::rs=>(trees rs).map (t::·)
 |_=>none
theorem iR:∀{vs:List V} {rs:List R} {ts:List T},Paired (Hv F ad B H μ) vs rs->trees rs=some ts->aj F.K H B vs ts
 |_,_,_,.nil,e=>by cases e;exact .nil
 |_,r::rs,ts,.cons h p,e=>by
  cases r with
  |tr t =>
   unfold trees at e
   cases q:trees rs with
   |none=>rw[q] at e;cases e
   |some us=>rw[q] at e;cases e;exact .cons h (iR p q)
  |br i=>cases e
  |fr c=>cases e
noncomputable def BC(us:UA):UE:=fun μ Q=>us μ fun rs μ'=>match trees rs with
 |some ts=>ts.length<=sizeLine/\Q (.tr (.tup ts)) μ'
 |none=>False
noncomputable def Bj(us:UA):UE:=fun μ Q=>us μ fun rs μ'=>match trees rs with
 |some ts=>ts.length<=sizeLine/\Q (.fr (.lst ts)) μ'
 |none=>False
theorem tup(h:YA X es us):YE X (.Tuple es k pos) (BC us):=by
 obtain⟨t,q,r⟩:=h;refine⟨_,Z.tup q,fun F ad B σ H μ Q Qt hK l q k=>r F ad B σ H μ _ _ hK l q fun vs H' rs μ' l1 ps f k1 q1=>?_⟩
 split at q1
 ·rename_i ts e;have rp:=iR ps e;exact⟨by rw[rp.length];exact q1.1,fun p hp=>k _ _ _ μ' (Vr.u6 l1 rp hp) (f.trans (Fr.same (bB.new hp))) k1 q1.2⟩
 ·exact q1.elim
theorem lst(h:YA X es us):YE X (.List es pos) (Bj us):=by
 obtain⟨t,q,r⟩:=h;refine⟨_,Z.lst q,fun F ad B σ H μ Q Qt hK l q k=>r F ad B σ H μ _ _ hK l q fun vs H' rs μ' l1 ps f k1 q1=>?_⟩
 split at q1
 ·rename_i ts e;have rp:=iR ps e;exact⟨by rw[rp.length];exact q1.1,fun p hp=>k _ _ _ μ' (Vr.i5 l1 rp hp) (f.trans (Fr.more hp)) k1 q1.2⟩
 ·exact q1.elim
noncomputable def Fi(u:UC)(us:UA):UE:=fun μ Q=>us μ fun rs μ'=>u rs μ' Q
theorem C3{u:UC}{t:TA}(h:RC K r u)(ha:RA K t us):RE K (Cu r t) (Fi u us):=fun F ad B σ H μ Q Qt hK l q k =>
 ha F ad B σ H μ _ _ hK l q fun vs H' rs μ' l1 ps f k1 q1=>h F ad B σ H' μ' _ _ vs rs hK l1 ps q1 fun v H2 r2 μ2 v2 f2 k2 q2=>k v H2 r2 μ2 v2 (f.trans f2) (k1.trans k2) q2
theorem cb{id:String}{u:UC}(hc:aQ X (.builtin id) r)(h:RC X.K r u)(hg:Gl X x)(hm:X.mg x=none)(hv:bootBuiltins x=some (.builtin id))(ha:YA X (e::es) us)(h1:autoParam (cL e=true) ℜ0)(h2:autoParam (es.all cL=true) ℜ0)(hn:autoParam (x≠"__name__") ℜ1)(hdb:autoParam ((x ==("__debug__":Str))=false) ℜ1):
  YE X (.Call (.Name x p) (e::es) [] pos) (Fi u us):=by
 obtain⟨t,q,rr⟩:=ha;exact⟨_,Z.cb hc hg hm hv q h1 h2 hn hdb,C3 h rr⟩
theorem ct{T:String}{u:UC}(hc:aQ X (.type T) r)(h:RC X.K r u)(hg:Gl X x)(hm:X.mg x=none)(hv:bootBuiltins x=some (.type T))(ha:YA X (e::es) us)(h1:autoParam (cL e=true) ℜ0)(h2:autoParam (es.all cL=true) ℜ0)(hn:autoParam (x≠"__name__") ℜ1)(hdb:autoParam ((x ==("__debug__":Str))=false) ℜ1):
  YE X (.Call (.Name x p) (e::es) [] pos) (Fi u us):=by
 obtain⟨t,q,rr⟩:=ha;exact⟨_,Z.ct hc hg hm hv q h1 h2 hn hdb,C3 h rr⟩
noncomputable def iS:UO:=fun μ Q=>Q none μ
noncomputable def q_(ue:UE):UO:=fun μ Q=>ue μ fun r μ'=>match r with
 |.tr (.int i)=>Q (some i) μ'
 |_=>False
theorem AU:YO X none iS:=⟨_,Z.AU,fun F ad B σ H μ Q Qt hK l q k=>k none H μ l Fr.refl (Kp.refl μ) q⟩
theorem ve(he:YE X e ue):YO X (some e) (q_ ue):=by
 obtain⟨t,q,r⟩:=he;refine⟨_,Z.ve q,fun F ad B σ H μ Q Qt hK l q k=>r F ad B σ H μ _ _ hK l q fun v H' r1 μ' v1 f k1 q1=>?_⟩
 split at q1
 ·have rp:=v1.2;obtain rfl:=Rep.bZ rp;exact⟨_,rfl,k _ H' μ' v1.rl f.d k1 q1⟩
 ·exact q1.elim
end
noncomputable def qW(f:T->T->Mu->(R->Mu->Prop)->Prop):U2:=fun r1 r2 μ Q=>match cont μ r1,cont μ r2 with
 |some t,some u=>f t u μ Q
 |_,_=>False
theorem eN{r:R2}{f:T->T->Mu->(R->Mu->Prop)->Prop}
  (h:∀(F:Fx) (ad:Nat->Addr) (B:aR) (σ:St) (H:Hp) (μ:Mu) (Q:VK) (Qt:R->Mu->Prop) (x y:V) (t u:T),F.K=K->Rl F ad B σ H μ->Vw F.K H B x t->Vw F.K H B y u->f t u μ Qt ->
   (∀ v H' r,Vr F ad B σ H' μ v r->Fr B H (Bv B v r) H'->Qt r μ->Q v H')->r x y H Q):ic K r (qW f):=by
 intro F ad B σ H μ Q Qt x y r1 r2 hK l h1 h2 q k;unfold qW at q
 split at q
 ·rename_i t u e1 e2;exact h F ad B σ H μ Q Qt x y t u hK l (h1.vw l e1) (h2.vw l e2) q fun v H' r v1 s q1=>k v H' r μ v1 s (Kp.refl μ) q1
 ·exact q.elim
noncomputable def y_(C:Int->Int->Prop)(g:Int->Int->Int):T->T->Mu->(R->Mu->Prop)->Prop:=fun t u μ Q=>match t,u with
 |.int i,.int j=>C i j/\Q (.tr (.int (g i j))) μ
 |_,_=>False
theorem b_{C:Int->Int->Prop}{g:Int->Int->Int}:ic K (rI C fun i j=>.int (g i j)) (qW (y_ C g)):=eN fun F ad B σ H μ Q Qt x y t u hK l v1 v2 q k=>by
 unfold y_ at q
 split at q
 ·obtain rfl:=Vw.bZ v1;obtain rfl:=Vw.bZ v2;exact⟨_,_,rfl,rfl,q.1,k _ H _ (Vr.flat l (.int _)) Fr.refl q.2⟩
 ·exact q.elim
theorem cN{g:Int->Int->Int}:ic K (zv fun i j=>.int (g i j)) (qW (y_ (fun _ _=>True) g)):=eN fun F ad B σ H μ Q Qt x y t u hK l v1 v2 q k=>by
 unfold y_ at q
 split at q
 ·obtain rfl:=Vw.bZ v1;obtain rfl:=Vw.bZ v2;exact⟨_,_,rfl,rfl,k _ H _ (Vr.flat l (.int _)) Fr.refl q.2⟩
 ·exact q.elim
noncomputable def IE(g:Int->Int->Bool):T->T->Mu->(R->Mu->Prop)->Prop:=fun t u μ Q=>match t,u with
 |.int i,.int j=>Q (.tr (.bl (g i j))) μ
 |_,_=>False
theorem fH{g:Int->Int->Bool}:ic K (zv fun i j=>.bl (g i j)) (qW (IE g)):=eN fun F ad B σ H μ Q Qt x y t u hK l v1 v2 q k=>by
 unfold IE at q
 split at q
 ·obtain rfl:=Vw.bZ v1;obtain rfl:=Vw.bZ v2;exact⟨_,_,rfl,rfl,k _ H _ (Vr.flat l (.bl _)) Fr.refl q⟩
 ·exact q.elim
noncomputable def Cj(K:Qf):R2:=fun x y H Q=>∃ a b xs ys,x=.ref a/\y=.ref b/\bL K H a xs/\bL K H b ys/\xs.length+ys.length<=sizeLine /\
 (xs=[]->Q (.ref b) H)/\(xs≠[]->ys=[]->Q (.ref a) H)/\(xs≠[]->ys≠[]->∀ p,H p=none->Q (.ref p) (upd H p (.tup (xs++ys))))
theorem vN{A:Around}{t b:Addr}{ws:List Value}(ht:IsTup s.heap t ([]:List Value).toArray)(hb:IsTup s.heap b ws.toArray)(h0:Q (.ref b) s):wpAny (model prog w) A (binaryOp .Add (.ref t) (.ref b)) Q E s:=by
 obtain⟨⟨cls,dd,data,sl⟩,ho,hc,n,hd⟩:=id ht;obtain⟨⟨cls2,dd2,data2,sl2⟩,ho2,hc2,n2,hd2⟩:=id hb;simp only at hc hd hc2 hd2;subst hc hd hc2 hd2;exact concat_meets ⟨_,ho,rfl⟩ ⟨_,ho2,rfl⟩ noFill_tuple_add seq_tuple_add PySem.F.slot_tuple_add PySem.F.entry_tuple_add (PySem.F.args_tuple_add_2 _ _)
   (tuple_addW0 t b _ ws.toArray n n2 dd dd2 sl sl2 (by simp)) ⟨ho,ho2,h0⟩
theorem A5:cE X (binaryOp .Add) (Cj X.K):=by
 intro pins s σ H x y v u Q I rx ry h;obtain⟨a,b,xs,ys,rfl,rfl,ha,hb,hz,q0,q1,q2⟩:=h;by_cases hx:xs=[]
 ·subst hx
  cases rx;cases ry
  obtain⟨its,r1,p1,_⟩:=I.tuple ha;obtain⟨its2,r2,p2,_⟩:=I.tuple hb;obtain rfl:=Paired.mM r1;exact vN p1 p2 ⟨.ref b,H,I,rfl,q0 rfl⟩
 ·exact zU pins s σ H _ _ v u Q I rx ry ⟨a,b,xs,ys,rfl,rfl,ha,hb,hx,hz,q1 hx,q2 hx⟩
noncomputable def yE(K:Qf):R2:=fun x y H Q=>(∃ i j,x=.int i/\y=.int j/\Q (.int (i+j)) H)\/(∃ i j,x=.str i/\y=.str j/\i.length+j.length<=sizeLine/\Q (.str (i++j)) H)\/FT x y H Q\/Cj K x y H Q
theorem au(K:Qf)(hK:X.K=K):cE X (binaryOp .Add) (yE K):=by subst hK;exact DS.or (pS.or (EK.or A5))
noncomputable def aL{v:V}{t:T}(h:Hv F ad B H μ v (.tr t)):Rep F.K H B v t:=h
noncomputable def kf:U2:=fun r1 r2 μ Q=>match cont μ r1,cont μ r2 with
 |some (.int i),some (.int j)=>Q (.tr (.int (i+j))) μ
 |some (.str i),some (.str j)=>i.length+j.length<=sizeLine/\Q (.tr (.str (i++j))) μ
 |some (.lst xs),some (.lst ys)=>xs.length+ys.length<=sizeLine/\Q (.fr (.lst (xs++ys))) μ
 |some (.tup xs),some (.tup ys)=>xs.length+ys.length<=sizeLine/\Q (.tr (.tup (xs++ys))) μ
 |_,_=>False
theorem Hv.oD{v:V}{r:R}{xs:List T}(l:Rl F ad B σ H μ)(h:Hv F ad B H μ v r)(e:cont μ r=some (.tup xs)):Rep F.K H B v (.tup xs):=by
 cases r with
 |tr t=>cases e;exact h
 |br i =>
  obtain⟨rfl,s,c,h1,h2⟩:=h;have e2:(μ[i]?).bind Sl.box=some (.tup xs):=e;rw[h1] at e2;have e':s.box=some (.tup xs):=e2;rcases ((l.slot i s h1).boxed e').2.2.1.is with ⟨ts,vs,z,_⟩|⟨ks,ts,vs,z,_⟩<;>cases z
 |fr c=>exact h.elim
theorem DU:ic K (yE K) kf:=by
 intro F ad B σ H μ Q Qt x y r1 r2 hK l h1 h2 q k;subst hK;unfold kf at q
 split at q
 ·rename_i i j e1 e2;have a:=h1.vw l e1;have b:=h2.vw l e2;obtain rfl:=Vw.bZ a;obtain rfl:=Vw.bZ b;exact .inl ⟨_,_,rfl,rfl,k _ H _ μ (Vr.flat l (.int _)) Fr.refl (Kp.refl μ) q⟩
 ·rename_i i j e1 e2;have a:=h1.vw l e1;have b:=h2.vw l e2;obtain rfl:=Vw.gf a;obtain rfl:=Vw.gf b;exact .inr (.inl ⟨_,_,rfl,rfl,q.1,k _ H _ μ (Vr.flat l (.str _)) Fr.refl (Kp.refl μ) q.2⟩)
 ·rename_i xs ys e1 e2;have a:=h1.vw l e1;have b:=h2.vw l e2;obtain⟨_,_,rfl,ha,ra⟩:=Vw.ef a;obtain⟨_,_,rfl,hb,rb⟩:=Vw.ef b;exact .inr (.inr (.inl ⟨_,_,_,_,rfl,rfl,ha,hb,by rw[ra.length,rb.length];exact q.1,fun p hp=>k _ _ _ μ (Vr.i5 l (ra.append rb) hp) (Fr.more hp) (Kp.refl μ) q.2⟩))
 ·rename_i xs ys e1 e2;have a:=Hv.oD l h1 e1;have b:=Hv.oD l h2 e2;have a':=a;have b':=b;obtain⟨_,_,rfl,na,ha,ra⟩:=Rep.tupI a;obtain⟨_,_,rfl,nb,hb,rb⟩:=Rep.tupI b;refine .inr (.inr (.inr ⟨_,_,_,_,rfl,rfl,bL.of ha,bL.of hb,by rw[ra.length,rb.length];exact q.1,fun z=>?_,fun z1 z2=>?_,fun z1 z2 p hp=>k _ _ _ μ (Vr.u6 l (ra.append rb) hp) (Fr.same (bB.new hp)) (Kp.refl μ) q.2⟩))
  ·subst z;cases ra;exact k _ H _ μ (Vr.flat l b') Fr.refl (Kp.refl μ) q.2
  ·subst z2;cases rb;have q2:=q.2;rw[L8] at q2;exact k _ H _ μ (Vr.flat l a') Fr.refl (Kp.refl μ) q2
 ·exact q.elim
noncomputable def sA:U2:=fun r1 r2 μ Q=>match cont μ r1,cont μ r2 with
 |some (.int i),some (.int j)=>nL i j/\Q (.tr (.int (i*j))) μ
 |some (.lst xs),some (.int k)=>-(2^63)<=k/\k<2^63/\xs.length*k.toNat<=sizeLine/\Q (.fr (.lst (List.replicate k.toNat xs).flatten)) μ
 |_,_=>False
theorem vQ:ic K DZ sA:=by
 intro F ad B σ H μ Q Qt x y r1 r2 hK l h1 h2 q k;unfold sA at q
 split at q
 ·rename_i i j e1 e2;have a:=h1.vw l e1;have b:=h2.vw l e2;obtain rfl:=Vw.bZ a;obtain rfl:=Vw.bZ b;exact⟨q.1,k _ H _ μ (Vr.flat l (.int _)) Fr.refl (Kp.refl μ) q.2⟩
 ·rename_i xs j e1 e2;have a:=h1.vw l e1;have b:=h2.vw l e2;obtain rfl:=Vw.bZ b;obtain⟨_,_,rfl,ha,ra⟩:=Vw.ef a;exact⟨_,_,_,rfl,rfl,ha,q.1,q.2.1,by rw[ra.length];exact q.2.2.1,fun p hp=>k _ _ _ μ (Vr.i5 l (ra.rep _) hp) (Fr.more hp) (Kp.refl μ) q.2.2.2⟩
 ·exact q.elim
noncomputable def pA:U2:=fun r1 r2 μ Q=>match cont μ r1,cont μ r2 with
 |some (.lst xs),some (.int i)=>(match aY xs i with|some t=>Q (.tr t) μ|none=>False)
 |some (.tup xs),some (.int i)=>(match aY xs i with|some t=>Q (.tr t) μ|none=>False)
 |some (.dq xs),some (.int i)=>(match aY xs i with|some t=>Q (.tr t) μ|none=>False)
 |some (.str z),some (.int i)=>z.length<=sizeLine/\(match aY z.cps.toList i with|some c=>Q (.tr (.str ⟨#[c]⟩)) μ|none=>False)
 |_,_=>False
theorem aB(K:Qf)(hK:X.K=K):uW X (Iy K):=by subst hK;exact D5
theorem F_:ic K (Iy K) pA:=by
 intro F ad B σ H μ Q Qt x y r1 r2 hK l h1 h2 q k;subst hK;unfold pA at q
 split at q
 ·rename_i xs j e1 e2;have a:=h1.vw l e1;have b:=h2.vw l e2;obtain rfl:=Vw.bZ b
  split at q
  ·rename_i t e3;obtain⟨_,_,rfl,ha,ra⟩:=Vw.ef a;obtain⟨v,e4,rv⟩:=ra.aY e3;exact .inl ⟨_,_,_,v,rfl,rfl,bH.of ha,e4,k _ H _ μ (Vr.flat l rv) Fr.refl (Kp.refl μ) q⟩
  ·exact q.elim
 ·rename_i xs j e1 e2;have a:=h1.vw l e1;have b:=h2.vw l e2;obtain rfl:=Vw.bZ b
  split at q
  ·rename_i t e3;obtain⟨_,_,rfl,ha,ra⟩:=Vw.tupI a;obtain⟨v,e4,rv⟩:=ra.aY e3;exact .inr (.inl ⟨_,_,_,v,rfl,rfl,bL.of ha,e4,k _ H _ μ (Vr.flat l rv) Fr.refl (Kp.refl μ) q⟩)
  ·exact q.elim
 ·rename_i xs j e1 e2;have a:=h1.vw l e1;have b:=h2.vw l e2;obtain rfl:=Vw.bZ b
  split at q
  ·rename_i t e3;obtain⟨_,_,rfl,ha,ra⟩:=Vw.qM a;obtain⟨v,e4,rv⟩:=ra.aY e3;exact .inr (.inl ⟨_,_,_,v,rfl,rfl,.inr ha,e4,k _ H _ μ (Vr.flat l rv) Fr.refl (Kp.refl μ) q⟩)
  ·exact q.elim
 ·rename_i xs j e1 e2;have a:=h1.vw l e1;have b:=h2.vw l e2;obtain rfl:=Vw.bZ b;obtain rfl:=Vw.gf a;obtain⟨q0,q⟩:=q
  split at q
  ·rename_i t e3;exact .inr (.inr ⟨_,_,_,rfl,rfl,q0,e3,k _ H _ μ (Vr.flat l (.str _)) Fr.refl (Kp.refl μ) q⟩)
  ·exact q.elim
 ·exact q.elim
noncomputable def oH(neg:Bool):T->T->Mu->(R->Mu->Prop)->Prop:=fun t u μ Q=>match u with
 |.aC=>Q (.tr (.bl (match t with|.aC=>!neg|_=>neg))) μ
 |_=>False
theorem dB:ic K (fun x y H Q=>y=.aC/\Q (.bl (decide (x=.aC))) H) (qW (oH false)):=eN fun F ad B σ H μ Q Qt x y t u hK l v1 v2 q k=>by
 unfold oH at q
 split at q
 ·obtain rfl:=Vw.Ga v2;refine⟨rfl,?_⟩
  cases v1<;>exact k _ H _ (Vr.flat l (.bl _)) Fr.refl q
 ·exact q.elim
theorem lX:ic K (fun x y H Q=>y=.aC/\Q (.bl (!decide (x=.aC))) H) (qW (oH true)):=eN fun F ad B σ H μ Q Qt x y t u hK l v1 v2 q k=>by
 unfold oH at q
 split at q
 ·obtain rfl:=Vw.Ga v2;refine⟨rfl,?_⟩
  cases v1<;>exact k _ H _ (Vr.flat l (.bl _)) Fr.refl q
 ·exact q.elim
noncomputable def JU:T->T->Bool
 |.aC,.aC=>true
 |.bl a,.bl b=>a == b
 |.bl a,.int b=>(if a then 1 else 0) == b
 |.int a,.bl b=>a ==(if b then 1 else 0)
 |.int a,.int b=>a == b
 |.str a,.str b=>a == b
 |_,_=>false
noncomputable def ng(xs ys:List T):Bool:=xs.length == ys.length && (List.range (min xs.length ys.length)).all fun j=>match xs[j]?,ys[j]? with
 |some x,some y=>JU x y
 |_,_=>true
theorem Cv{x y:V}{t u:T}(h1:Rep K H B x t)(h2:Rep K H B y u)(f1:aN t=true)(f2:aN u=true):dF x=true/\dF y=true/\vb x y=JU t u:=by
 cases h1<;>first | (cases f1;done) | (cases h2<;>first | (cases f2;done)|exact⟨rfl,rfl,rfl⟩)
noncomputable def AF(K:Qf)(neg:Bool):R2:=fun x y H Q=>∃ a b xs ys,x=.ref a/\y=.ref b/\((bH K H a xs/\bH K H b ys)\/(bL K H a xs/\bL K H b ys))/\xs.all dF=true/\ys.all dF=true /\
 ∀ c,c=(xs.length == ys.length && (List.range (min xs.length ys.length)).all fun j=>match xs[j]?,ys[j]? with|some x,some y=>vb x y|_,_=>true)->Q (.bl (if neg then !c else c)) H
theorem El(hu:X.A.units<cLine):cE X (compareOp .Eq) (AF X.K false):=by
 intro pins s σ H x y v u Q I rx ry h;obtain⟨a,b,xs,ys,rfl,rfl,hq,fx,fy,q⟩:=h
 cases rx;cases ry
 have item:∀(its its2:List Value),Vals xs its->Vals ys its2->∀ j (h1:j<its.toArray.size) (h2:j<its2.toArray.size),SeqAt.EqAt X.A.in1 s its.toArray[j] its2.toArray[j] (match xs[j]?,ys[j]? with|some x,some y=>vb x y|_,_=>true):=fun its its2 r1 r2 j h1 h2=>by
  have l1:=r1.length;have l2:=r2.length;rw[Ld] at h1 h2;obtain⟨u1,e1,g1⟩:=r1.get (i:=j) (x:=xs[j]) (KW (by lia))
  obtain⟨u2,e2,g2⟩:=r2.get (i:=j) (x:=ys[j]) (KW (by lia))
  rw[KW (show j<xs.length by lia),KW (show j<ys.length by lia)]
  have z1:its.toArray[j]=u1:=by
   rw[KW h1] at e1;simpa using e1
  have z2:its2.toArray[j]=u2:=by
   rw[KW h2] at e2;simpa using e2
  rw[z1,z2];exact pq g1 g2 (Mj.mp fx _ (L1 _)) (Mj.mp fy _ (L1 _))
 rcases hq with ⟨ha,hb⟩|⟨ha,hb⟩
 ·obtain⟨its,r1,p1,_⟩:=I.list ha;obtain⟨its2,r2,p2,_⟩:=I.list hb;have l1:=r1.length;have l2:=r2.length;by_cases e:xs.length=ys.length
  ·refine SeqAt.eq_listAt p1.isList p2.isList (by rw[Ld,Ld];lia) hu (item its its2 r1 r2) ⟨.bl _,H,I,rfl,q _ ?_⟩
   rw[Ld,<- l1,<- e,NI,MX,Bool.true_and]
  ·refine SeqAt.eq_list_lengthsAt p1.isList p2.isList (by rw[Ld,Ld,bne_iff_ne];lia) hu ⟨.bl _,H,I,rfl,q _ ?_⟩
   rw[Mc.mpr e,O9]
 ·obtain⟨its,r1,p1,_⟩:=I.tuple ha;obtain⟨its2,r2,p2,_⟩:=I.tuple hb;have l1:=r1.length;have l2:=r2.length;refine SeqAt.eq_tupleAt p1 p2 hu (item its its2 r1 r2) ⟨.bl _,H,I,rfl,q _ ?_⟩;rw[Ld,Ld,<- l1,<- l2,Bool.and_comm];rfl
theorem bN:∀{xs:List V} {ts:List T},aj K H B xs ts->ts.all aN=true->xs.all dF=true
 |_,_,.nil,_=>rfl
 |_,_,.cons h r,f=>by
  rw[L_,LQ] at f ⊢;refine⟨?_,bN r f.2⟩;have f1:=f.1
  cases h<;>first|rfl|cases f1
theorem lQ{us:List T}(h1:aj K H B xs ts)(h2:aj K H B ys us)(f1:ts.all aN=true)(f2:us.all aN=true):
  ng ts us=(xs.length == ys.length && (List.range (min xs.length ys.length)).all fun j=>match xs[j]?,ys[j]? with|some x,some y=>vb x y|_,_=>true):=by
 unfold ng;have l1:=h1.length;have l2:=h2.length;rw[l1,l2];congr 1;refine List.all_congr rfl ?_ |>.symm;intro j
 cases a1:ts[j]? with
 |none =>
  have:xs[j]?=none:=L4.mpr (by have:=L4.mp a1;lia)
  rw[this]
 |some t =>
  obtain⟨v1,e1,r1⟩:=h1.get a1;rw[e1]
  cases a2:us[j]? with
  |none =>
   have:ys[j]?=none:=L4.mpr (by have:=L4.mp a2;lia)
   rw[this]
  |some u =>
   obtain⟨v2,e2,r2⟩:=h2.get a2;rw[e2];exact (Cv r1 r2 (Mj.mp f1 _ (LW a1)) (Mj.mp f2 _ (LW a2))).2.2
noncomputable def Gp(K:Qf):R2:=fun x y H Q=>Kl x y H Q\/AF K false x y H Q
theorem cc(K:Qf)(hK:X.K=K)(hu:X.A.units<cLine):cE X (compareOp .Eq) (Gp K):=by subst hK;exact GF.or (El hu)
noncomputable def GZ(neg:Bool):T->T->Mu->(R->Mu->Prop)->Prop:=fun t u μ Q=>match t,u with
 |.int i,.int j=>Q (.tr (.bl (if neg then !decide (i=j) else decide (i=j)))) μ
 |.str i,.str j=>Q (.tr (.bl (if neg then !decide (i=j) else decide (i=j)))) μ
 |.bl i,.bl j=>Q (.tr (.bl (if neg then !decide (i=j) else decide (i=j)))) μ
 |.lst xs,.lst ys=>neg=false/\xs.all aN=true/\ys.all aN=true/\Q (.tr (.bl (ng xs ys))) μ
 |.tup xs,.tup ys=>neg=false/\xs.all aN=true/\ys.all aN=true/\Q (.tr (.bl (ng xs ys))) μ
 |_,_=>False
theorem dV[DecidableEq α]{f:α->V}(hf:∀ a b,f a=f b->a=b)(a b:α):decide (f a=f b)=decide (a=b):=by
 rw[Ob];exact⟨hf a b,fun h=>by rw[h]⟩
theorem dA:ic K (Gp K) (qW (GZ false)):=eN fun F ad B σ H μ Q Qt x y t u hK l v1 v2 q k=>by
 subst hK;unfold GZ at q
 split at q
 ·obtain rfl:=Vw.bZ v1;obtain rfl:=Vw.bZ v2;refine .inl ⟨rfl,?_⟩;rw[dV (f:=V.int) (fun a b h=>by injection h)]
  exact k _ H _ (Vr.flat l (.bl _)) Fr.refl q
 ·obtain rfl:=Vw.gf v1;obtain rfl:=Vw.gf v2;refine .inl ⟨rfl,?_⟩;rw[dV (f:=V.str) (fun a b h=>by injection h)]
  exact k _ H _ (Vr.flat l (.bl _)) Fr.refl q
 ·obtain rfl:=Vw.vd v1;obtain rfl:=Vw.vd v2;refine .inl ⟨rfl,?_⟩;rw[dV (f:=V.bl) (fun a b h=>by injection h)]
  exact k _ H _ (Vr.flat l (.bl _)) Fr.refl q
 ·obtain⟨_,_,rfl,ha,ra⟩:=Vw.ef v1;obtain⟨_,_,rfl,hb,rb⟩:=Vw.ef v2;exact .inr ⟨_,_,_,_,rfl,rfl,.inl ⟨bH.of ha,bH.of hb⟩,bN ra q.2.1,bN rb q.2.2.1,fun c hc=>by
   rw[<- lQ ra rb q.2.1 q.2.2.1] at hc;subst hc;exact k _ H _ (Vr.flat l (.bl _)) Fr.refl q.2.2.2⟩
 ·obtain⟨_,_,rfl,ha,ra⟩:=Vw.tupI v1;obtain⟨_,_,rfl,hb,rb⟩:=Vw.tupI v2;exact .inr ⟨_,_,_,_,rfl,rfl,.inr ⟨bL.of ha,bL.of hb⟩,bN ra q.2.1,bN rb q.2.2.1,fun c hc=>by
   rw[<- lQ ra rb q.2.1 q.2.2.1] at hc;subst hc;exact k _ H _ (Vr.flat l (.bl _)) Fr.refl q.2.2.2⟩
 ·exact q.elim
noncomputable def vq(f:T->Mu->(R->Mu->Prop)->Prop):UC:=fun rs μ Q=>match rs with
 |[r]=>(match cont μ r with|some t=>f t μ Q|none=>False)
 |_=>False
theorem iq{f:T->Mu->(R->Mu->Prop)->Prop}
  (h:∀(F:Fx) (ad:Nat->Addr) (B:aR) (σ:St) (H:Hp) (μ:Mu) (Q:VK) (Qt:R->Mu->Prop) (x:V) (t:T),F.K=K->Rl F ad B σ H μ->Vw F.K H B x t->f t μ Qt ->
   (∀ v H' r,Vr F ad B σ H' μ v r->Fr B H (Bv B v r) H'->Qt r μ->Q v H')->r [x] H Q):RC K r (vq f):=by
 intro F ad B σ H μ Q Qt xs rs hK l p q k;unfold vq at q
 split at q
 ·split at q
  ·rename_i r0 _ t e;obtain⟨_,_,rfl,h1,p⟩:=Paired.aO p
   cases p;exact h F ad B σ H μ Q Qt _ t hK l (h1.vw l e) q fun v H' r v1 s q1=>k v H' r μ v1 s (Kp.refl μ) q1
  ·exact q.elim
 ·exact q.elim
noncomputable def mU:T->Mu->(R->Mu->Prop)->Prop:=fun t μ Q=>match t with
 |.lst xs=>Q (.tr (.int xs.length)) μ
 |.tup xs=>Q (.tr (.int xs.length)) μ
 |.e7 xs=>Q (.tr (.int xs.length)) μ
 |.dq xs=>Q (.tr (.int xs.length)) μ
 |.str z=>z.length<=sizeLine/\Q (.tr (.int z.length)) μ
 |_=>False
noncomputable def zr(K:Qf):List V->Hp->VK->Prop:=fun xs H Q=>(∃ p ys,xs=[.ref p]/\(bH K H p ys\/bL K H p ys)/\Q (.int ys.length) H)\/(∃ z,xs=[.str z]/\z.length<=sizeLine/\Q (.int z.length) H)
theorem aH(K:Qf)(hK:X.K=K):aQ X (.builtin "len") (zr K):=by subst hK;exact gO.or lS
theorem EW:RC K (zr K) (vq mU):=iq fun F ad B σ H μ Q Qt x t hK l v1 q k=>by
 subst hK;unfold mU at q
 split at q
 ·obtain⟨_,_,rfl,ha,ra⟩:=Vw.ef v1;exact .inl ⟨_,_,rfl,.inl (bH.of ha),by rw[ra.length];exact k _ H _ (Vr.flat l (.int _)) Fr.refl q⟩
 ·obtain⟨_,_,rfl,ha,ra⟩:=Vw.tupI v1;exact .inl ⟨_,_,rfl,.inr (bL.of ha),by rw[ra.length];exact k _ H _ (Vr.flat l (.int _)) Fr.refl q⟩
 ·obtain⟨_,_,rfl,ha,ra⟩:=Vw.uR v1;exact .inl ⟨_,_,rfl,.inl ha,by rw[ra.length];exact k _ H _ (Vr.flat l (.int _)) Fr.refl q⟩
 ·obtain⟨_,_,rfl,ha,ra⟩:=Vw.qM v1;exact .inl ⟨_,_,rfl,.inr (.inr ha),by rw[ra.length];exact k _ H _ (Vr.flat l (.int _)) Fr.refl q⟩
 ·obtain rfl:=Vw.gf v1;exact .inr ⟨_,rfl,q.1,k _ H _ (Vr.flat l (.int _)) Fr.refl q.2⟩
 ·exact q.elim
noncomputable def i8:UC:=fun rs μ Q=>match rs with
 |[r]=>(match cont μ r with
  |some (.lst xs)=>Q (.tr (.tup xs)) μ
  |some (.tup xs)=>Q (.tr (.tup xs)) μ
  |_=>False)
 |_=>False
noncomputable def BQ(K:Qf):List V->Hp->VK->Prop:=fun xs H Q=>∃ p ys,xs=[.ref p]/\((bH K H p ys/\∀ l,H l=none->Q (.ref l) (upd H l (.tup ys)))\/(bL K H p ys/\Q (.ref p) H))
theorem cJ(K:Qf)(hK:X.K=K):aQ X (.type "tuple") (BQ K):=by subst hK;exact ke
theorem dz:RC K (BQ K) i8:=by
 intro F ad B σ H μ Q Qt xs rs hK l p q k;subst hK;unfold i8 at q
 split at q
 ·obtain⟨_,_,rfl,h1,p⟩:=Paired.aO p;obtain rfl:=Paired.eV p
  split at q
  ·rename_i e;have v1:=h1.vw l e;obtain⟨_,_,rfl,ha,ra⟩:=Vw.ef v1;exact⟨_,_,rfl,.inl ⟨bH.of ha,fun p hp=>k _ _ _ μ (Vr.u6 l ra hp) (Fr.same (bB.new hp)) (Kp.refl μ) q⟩⟩
  ·rename_i e;have rp:=Hv.oD l h1 e;have rp':=rp;obtain⟨_,_,rfl,na,ha,ra⟩:=Rep.tupI rp;exact⟨_,_,rfl,.inr ⟨bL.of ha,k _ H _ μ (Vr.flat l rp') Fr.refl (Kp.refl μ) q⟩⟩
  ·exact q.elim
 ·exact q.elim
noncomputable def nA:T->Mu->(R->Mu->Prop)->Prop:=fun t μ Q=>match t with
 |.lst xs=>Q (.fr (.lst xs)) μ
 |.tup xs=>Q (.fr (.lst xs)) μ
 |.e7 xs=>Q (.fr (.lst xs)) μ
 |.dI lo hi=>(hi-lo).toNat<=65536/\-(2^62)<=lo/\lo<2^62/\-(2^62)<=hi/\hi<2^62/\Q (.fr (.lst ((List.range (hi-lo).toNat).map fun k=>T.int (lo+(k:Nat))))) μ
 |_=>False
noncomputable def yj(K:Qf):List V->Hp->VK->Prop:=fun xs H Q=>(∃ p ys,xs=[.ref p]/\(bH K H p ys\/bL K H p ys)/\∀ l,H l=none->Q (.ref l) (upd H l (.lst ys))) \/
 (∃ p lo hi,xs=[.ref p]/\H p=some (.dI lo hi)/\(hi-lo).toNat<=65536/\-(2^62)<=lo/\lo<2^62/\-(2^62)<=hi/\hi<2^62/\∀ l,H l=none->Q (.ref l) (upd H l (.lst ((List.range (hi-lo).toNat).map fun k=>V.int (lo+(k:Nat))))))
theorem ee:∀(n:Nat) (acc:List Value) (k:Nat),acc.length=n->(∀ j v,acc[j]?=some v->∃ t,v=Value.int (lo+((k+j:Nat):Int)) t)->Vals ((List.range' k n).map fun k=>V.int (lo+(k:Nat))) acc
 |0,acc,k,h,_=>by cases acc with|nil=>exact .nil|cons a b=>cases h
 |n+1,[],k,h,_=>by cases h
 |n+1,a::acc,k,h,g=>by
  rw[MZ,L3];refine .cons ?_ (ee n acc (k+1) (by simpa using h) fun j v e=>?_)
  ·obtain⟨t,e⟩:=g 0 a rfl;exact⟨t,by simpa using e⟩
  ·obtain⟨t,e2⟩:=g (j+1) v (by simpa using e)
   exact⟨t,by rw[e2];congr 2;lia⟩
theorem qN(hc:X.calm=true):aQ X (.type "list") (fun xs H Q=>∃ p lo hi,xs=[.ref p]/\H p=some (.dI lo hi)/\(hi-lo).toNat<=65536/\-(2^62)<=lo/\lo<2^62/\-(2^62)<=hi/\hi<2^62/\∀ l,H l=none->Q (.ref l) (upd H l (.lst ((List.range (hi-lo).toNat).map fun k=>V.int (lo+(k:Nat)))))):=by
 intro pins s σ H xs us Q I r h;obtain⟨p,lo,hi,rfl,hp,hn,h1,h2,h3,h4,q⟩:=h;obtain⟨u,rfl,rx⟩:=vals1 r;cases rx;obtain⟨t,u,v,e⟩:=I.aJ p _ hp;have hn2:Builtin.Range.rangeSize lo hi 1=((hi-lo).toNat:Nat):=by rw[PQ];split<;>lia
 refine call_list_range (n:=(hi-lo).toNat) (I.ok.hd hc) e (small_one h1 h2 h3 h4) hn2 (by lia) fun h' tk acc c' hk hS hI=>?_
 have hv:Vals ((List.range (hi-lo).toNat).map fun k=>V.int (lo+(k:Nat))) acc.toList:=by
  rw[MS];refine ee _ _ 0 (by simpa using hI.1) fun j v e=>?_
  obtain⟨t,e2⟩:=hI.2 j v (by simpa using e)
  exact⟨t,by rw[e2];simp⟩
 refine⟨.ref s.heap.objs.size,_,I.laid (t':=tk) hk (Lj _) (show aP X.prog X.w _ h' _ (.lst _) from⟨?_,acc.toList,c',hv,by simpa using hS⟩),rfl,q _ (I.aJ.fresh (Lj _))⟩
 rw[Lb,Lz];exact Lk hn (by decide)
theorem qQ(K:Qf)(hK:X.K=K)(hc:X.calm=true):aQ X (.type "list") (yj K):=by subst hK;exact mx.or (qN hc)
theorem ju:∀ l:List Nat,aj K H B (l.map fun k=>V.int (lo+(k:Nat))) (l.map fun k=>T.int (lo+(k:Nat)))
 |[]=>.nil
 |k::l=>.cons (.int _) (ju l)
theorem Bz:RC K (yj K) (vq nA):=iq fun F ad B σ H μ Q Qt x t hK l v1 q k=>by
 subst hK;unfold nA at q
 split at q
 ·obtain⟨_,_,rfl,ha,ra⟩:=Vw.ef v1;exact .inl ⟨_,_,rfl,.inl (bH.of ha),fun p hp=>k _ _ _ (Vr.i5 l ra hp) (Fr.more hp) q⟩
 ·obtain⟨_,_,rfl,ha,ra⟩:=Vw.tupI v1;exact .inl ⟨_,_,rfl,.inr (bL.of ha),fun p hp=>k _ _ _ (Vr.i5 l ra hp) (Fr.more hp) q⟩
 ·obtain⟨_,_,rfl,ha,ra⟩:=Vw.uR v1;exact .inl ⟨_,_,rfl,.inl ha,fun p hp=>k _ _ _ (Vr.i5 l ra hp) (Fr.more hp) q⟩
 ·obtain⟨_,rfl,ha⟩:=Vw.CM v1;exact .inr ⟨_,_,_,rfl,ha,q.1,q.2.1,q.2.2.1,q.2.2.2.1,q.2.2.2.2.1,fun p hp=>k _ _ _ (Vr.i5 l (ju _) hp) (Fr.more hp) q.2.2.2.2.2⟩
 ·exact q.elim
noncomputable def pQ:UC:=fun rs μ Q=>match rs with
 |[.tr (.int j)]=>Q (.tr (.dI 0 j)) μ
 |[.tr (.int i),.tr (.int j)]=>Q (.tr (.dI i j)) μ
 |_=>False
noncomputable def sD:List V->Hp->VK->Prop:=fun xs H Q=>(∃ j,xs=[.int j]/\∀ p,H p=none->Q (.ref p) (upd H p (.dI 0 j)))\/(∃ i j,xs=[.int i,.int j]/\∀ p,H p=none->Q (.ref p) (upd H p (.dI i j)))
theorem nM:aQ X (.type "range") sD:=by
 intro pins s σ H xs us Q I r h;rcases h with ⟨j,rfl,q⟩|⟨i,j,rfl,q⟩
 ·obtain⟨u,rfl,t,rfl⟩:=vals1 r;refine call_range_1 ?_;exact⟨.ref s.heap.objs.size,_,I.laid (o:=.dI 0 j) (fun b ob q=>La _ q) (Lj _) (show aP X.prog X.w _ _ _ (.dI 0 j) from⟨_,_,_,Lq _ rfl⟩),rfl,q _ (I.aJ.fresh (Lj _))⟩
 ·obtain⟨u,w',rfl,⟨t,rfl⟩,⟨t',rfl⟩⟩:=vals2 r;refine call_range_2 ?_;exact⟨.ref s.heap.objs.size,_,I.laid (o:=.dI i j) (fun b ob q=>La _ q) (Lj _) (show aP X.prog X.w _ _ _ (.dI i j) from⟨_,_,_,Lq _ rfl⟩),rfl,q _ (I.aJ.fresh (Lj _))⟩
theorem y1:RC K sD pQ:=by
 intro F ad B σ H μ Q Qt xs rs hK l p q k;have fin:∀ lo hi p,H p=none->Vr F ad B σ (upd H p (.dI lo hi)) μ (.ref p) (.tr (.dI lo hi)):=fun lo hi p hp=>⟨l.same (bB.new hp),.dI (l.p7 hp) aq⟩;unfold pQ at q
 split at q
 ·obtain⟨_,_,rfl,h1,p⟩:=Paired.aO p
  cases p;cases aL h1;exact .inl ⟨_,rfl,fun p hp=>k _ _ _ μ (fin _ _ p hp) (Fr.same (bB.new hp)) (Kp.refl μ) q⟩
 ·obtain⟨_,_,rfl,h1,p⟩:=Paired.aO p;obtain⟨_,_,rfl,h2,p⟩:=Paired.aO p
  cases p;cases aL h1;cases aL h2;exact .inr ⟨_,_,rfl,fun p hp=>k _ _ _ μ (fin _ _ p hp) (Fr.same (bB.new hp)) (Kp.refl μ) q⟩
 ·exact q.elim
noncomputable def Fp(g:Int->Int->Int):UC:=fun rs μ Q=>match rs with
 |[.tr (.int i),.tr (.int j)]=>Q (.tr (.int (g i j))) μ
 |_=>False
theorem HW{g:Int->Int->Int}(h:∀ i j H Q,Q (.int (g i j)) H->r [.int i,.int j] H Q):RC K r (Fp g):=by
 intro F ad B σ H μ Q Qt xs rs hK l p q k;unfold Fp at q
 split at q
 ·obtain⟨_,_,rfl,h1,p⟩:=Paired.aO p;obtain⟨_,_,rfl,h2,p⟩:=Paired.aO p
  cases p;cases aL h1;cases aL h2;exact h _ _ _ _ (k _ H _ μ (Vr.flat l (.int _)) Fr.refl (Kp.refl μ) q)
 ·exact q.elim
theorem y2:RC K HX (Fp fun i j=>if j<i then j else i):=HW fun i j H Q q=>q
noncomputable def w8:UC:=fun rs μ Q=>match rs with
 |[.tr (.int i)]=>Q (.tr (.int i)) μ
 |[.tr (.bl k)]=>Q (.tr (.int (if k=true then 1 else 0))) μ
 |_=>False
theorem Dd:RC K HL w8:=by
 intro F ad B σ H μ Q Qt xs rs hK l p q k;unfold w8 at q
 split at q
 ·obtain⟨_,_,rfl,h1,p⟩:=Paired.aO p
  cases p;cases aL h1;exact k _ H _ μ (Vr.flat l (.int _)) Fr.refl (Kp.refl μ) q
 ·obtain⟨_,_,rfl,h1,p⟩:=Paired.aO p
  cases p;cases aL h1;exact k _ H _ μ (Vr.flat l (.int _)) Fr.refl (Kp.refl μ) q
 ·exact q.elim
noncomputable def Am:T->String->Option Bool
 |.aC,c=>some (eB "NoneType" c)
 |.bl _,c=>some (eB "bool" c)
 |.int _,c=>some (eB "int" c)
 |.str _,c=>some (eB "str" c)
 |.lst _,c=>some (eB "list" c)
 |.tup _,c=>some (eB "tuple" c)
 |_,_=>none
noncomputable def oB(ue:UE)(c:String):UE:=fun μ Q=>ue μ fun r μ'=>match cont μ' r with
 |some t=>(match Am t c with|some b=>Q (.tr (.bl b)) μ'|none=>False)
 |none=>False
theorem Vw.ty{v:V}{t:T}{c:String}{b:Bool}(h:Vw K H B v t)(e:Am t c=some b):∃ s,Cb H v=some s/\eB s c=b:=by
 cases h with
 |aC=>cases e;exact⟨_,rfl,rfl⟩
 |bl=>cases e;exact⟨_,rfl,rfl⟩
 |int=>cases e;exact⟨_,rfl,rfl⟩
 |str=>cases e;exact⟨_,rfl,rfl⟩
 |tup h r=>cases e;exact⟨_,by unfold Cb;simp only[h],rfl⟩
 |lst h r=>cases e;exact⟨_,by unfold Cb;simp only[h],rfl⟩
 |e7=>cases e
 |dI=>cases e
 |ig=>cases e
 |exc=>cases e
 |BH=>cases e
 |il=>cases e
 |dq=>cases e
theorem Vr.vw{v:V}{r:R}{t:T}(h:Vr F ad B σ H μ v r)(e:cont μ r=some t):Vw F.K H B v t:=by
 have e':cont μ r.d=some t:=by cases r<;>exact e
 exact h.hv.vw h.rl e'
section
variable {X:Cx} {a b c e o:Expr} {es rest:List Expr} {ua ub uc ue uo:UE} {uA uB:UT} {us:UA} {pos p p2 p3:Pos} {x:Str}
theorem ET{C:String}(K:Qf)(hK:X.K=K)(hg:Gl X "isinstance")(hm:X.mg "isinstance"=none)(ha:YE X a ua)(hgc:Gl X x)(hmc:X.mg x=none)(hvc:bootBuiltins x=some (.type C))(hc:autoParam (C∈["bool","int","str","list","tuple","dict"]) ℜ1)(h1:autoParam (cL a=true) ℜ0)
  (hnx:autoParam (x≠"__name__") ℜ1) (hdx:autoParam ((x ==("__debug__":Str))=false) ℜ1):YE X (.Call (.Name "isinstance" p) [a,.Name x p3] [] pos) (oB ua C):=by
 obtain⟨t,q,r⟩:=ha;refine⟨_,Z.cb (Z.Gz K hK) hg hm PyProof.Rows.boot_isinstance (Z.cons q (Z.cons (Z.KO hgc hmc hvc hnx hdx) Z.nil) h1) h1,fun F ad B σ H μ Q Qt hK l q k=>r F ad B σ H μ _ _ hK l q fun v H' r1 μ' v1 f k1 q1=>?_⟩;show L2.oB K [v,.ty C] H' Q;refine⟨hc,?_⟩
 split at q1
 ·rename_i t e
  split at q1
  ·rename_i b e2;obtain⟨s,e3,e4⟩:=Vw.ty (Vr.vw v1 e) e2;rw[e3];subst e4;exact k _ H' (.tr (.bl _)) μ' (Vr.flat v1.rl (.bl _)) f.d k1 q1
  ·exact q1.elim
 ·exact q1.elim
noncomputable def bT(xs:List α)(lo hi:Option Int):List α:=(xs.drop (HT.bq xs.length 0 lo)).take (HT.bq xs.length xs.length hi-HT.bq xs.length 0 lo)
theorem aj.cut(r:aj K H B vs ts)(lo hi:Option Int):aj K H B (lO vs lo hi) (bT ts lo hi):=by
 unfold lO bT;rw[r.length];exact (r.drop _).take _
noncomputable def HS(K:Qf):V->Option Int->Option Int->Hp->VK->Prop:=fun x lo hi H Q=>∃ a xs,x=.ref a/\bL K H a xs/\HT.bq xs.length 0 lo=0/\HT.bq xs.length xs.length hi=xs.length/\Q (.ref a) H
theorem h7{A:Around}{t sl:Addr}{vl vu:Value}{lo hi:Option Int}(ht:IsTup s.heap t items)(hs:s.heap.IsSliceOf sl vl vu .none)(pl:IsPart vl lo)(pu:IsPart vu hi)
  (h1:HT.bq items.size 0 lo=0) (h2:HT.bq items.size items.size hi=items.size) (h:Q (.ref t) s):wpAny (model prog w) A (getItem (.ref t) (.ref sl)) Q E s:=by
 obtain⟨os,hos,hcs,qK⟩:=id hs;have hTs:s.TypeIs (.ref sl) "slice":=⟨os,hos,hcs⟩;unfold getItem
 try with_reducible refine LM ?_
 first|refine KU (Lh ?_)|skip
 refine KU (wpAny_sequenceKey ht.typeIs (by decide) ?_)
 refine KU (LZ (name:=Str.ofString "__getitem__") ht.typeIs M0
  (Mb M0 ht.typeIs entry_tuple_getitem ?_ (args_tuple_getitem _ _)))
 show wpAny _ _ (Builtin.Tuple.tupleItemsOf (.ref t) >>= _) _ _ s;refine KU (tupleItemsOf_ ht ?_);refine KU (Ow hTs ?_);rw[Li (by decide)]
 refine KU (HT.eH hs pl pu ?_);show wpAny _ _ (if (((HT.bq items.size 0 lo:Nat):Int) == 0 && (1:Int) == 1 && (HT.bq items.size items.size hi-HT.bq items.size 0 lo) == items.size)=true then _ else _) _ _ s
 rw[Li (by rw[h1,h2];simp)]
 unfold Builtin.Tuple.tupleIsExact;refine KU ?_;refine KU (Ow ht.typeIs (Lh ?_));rw[Li (by decide)]
 exact KU (OQ (Lh ⟨_,rfl,Lh h⟩))
theorem EV:vo X (HS X.K):=by
 intro pins s σ H x v vl vu lo hi sl Q I rx hs pl pu h;obtain⟨a,xs,rfl,hx,h1,h2,q⟩:=h;cases rx;obtain⟨its,r,ht,hz⟩:=I.tuple hx;have hlen:its.toArray.size=xs.length:=by rw[Ld];exact r.length.symm
 exact⟨"tuple",_,M0.lookup,ht.typeIs,h7 ht hs pl pu (by rw[hlen];exact h1) (by rw[hlen];exact h2) ⟨.ref a,H,I,rfl,q⟩⟩
noncomputable def Fz(K:Qf):V->Option Int->Option Int->Hp->VK->Prop:=fun x lo hi H Q=>Gb K x lo hi H Q\/AI K x lo hi H Q\/HS K x lo hi H Q
theorem IX(K:Qf)(hK:X.K=K):vo X (Fz K):=by subst hK;exact AK.or (Fd.or EV)
noncomputable def Jw(ue:UE)(ul uh:UO):UE:=fun μ Q=>ue μ fun r μ1=>ul μ1 fun lo μ2=>uh μ2 fun hi μ3=>match cont μ3 r.d with
 |some (.lst xs)=>Q (.fr (.lst (bT xs lo hi))) μ3
 |some (.e7 xs)=>Q (.fr (.lst (bT xs lo hi))) μ3
 |some (.tup xs)=>Q (.tr (.tup (bT xs lo hi))) μ3
 |_=>False
end
end Y
structure zd (F:Fx) (B:aR) (H:Hp) (D:Ends) (E:Ed):Prop where
 nx:∀ ad' B' σ' H' μ',Rl F ad' B' σ' H' μ'->Fr B H B' H'->E.nx μ'->D.nx σ' H'
 rt:∀ ad' B' σ' H' μ' v r,Vr F ad' B' σ' H' μ' v r->E.rt r μ'->D.rt v H'
 bk:∀ ad' B' σ' H' μ',Rl F ad' B' σ' H' μ'->Fr B H B' H'->E.bk μ'->D.bk σ' H'
 ct:∀ ad' B' σ' H' μ',Rl F ad' B' σ' H' μ'->Fr B H B' H'->E.ct μ'->D.ct σ' H'
theorem zd.step{B1:aR}{H1:Hp}{D:Ends}{E:Ed}(h:zd F B H D E)(f:Fr B H B1 H1):zd F B1 H1 D E:=
 ⟨fun ad' B' σ' H' μ' l g q=>h.nx ad' B' σ' H' μ' l (f.trans g) q,h.rt,fun ad' B' σ' H' μ' l g q=>h.bk ad' B' σ' H' μ' l (f.trans g) q,fun ad' B' σ' H' μ' l g q=>h.ct ad' B' σ' H' μ' l (f.trans g) q⟩
noncomputable def RS(K:Qf)(ts:TS)(us:US):Prop:=∀(F:Fx) (D:Ends) (E:Ed) (ad:Nat->Addr) (B:aR) (σ:St) (H:Hp) (μ:Mu),F.K=K->Rl F ad B σ H μ->us E μ->zd F B H D E->ts D σ H
abbrev UG:=R->Mu->(Mu->Prop)->Prop
abbrev rN:=List T->Mu->(Mu->Prop)->Prop
noncomputable def RG(K:Qf)(g:TG)(ug:UG):Prop:=∀(F:Fx) (ad:Nat->Addr) (B:aR) (σ:St) (H:Hp) (μ:Mu) (v:V) (r:R) (B0:aR) (H0:Hp) (Q:St->Hp->Prop) (Qt:Mu->Prop),F.K=K->Vr F ad B σ H μ v r->Fr B0 H0 (Bv B v r) H->ug r μ Qt ->
 (∀ ad' B' σ' H' μ',Rl F ad' B' σ' H' μ'->Fr B0 H0 B' H'->Qt μ'->Q σ' H')->g v σ H Q
noncomputable def K7(K:Qf)(g:uG)(ug:rN):Prop:=∀(F:Fx) (ad:Nat->Addr) (B:aR) (σ:St) (H:Hp) (μ:Mu) (vs:List V) (ts:List T) (B0:aR) (H0:Hp) (Q:St->Hp->Prop) (Qt:Mu->Prop),F.K=K->Rl F ad B σ H μ->aj F.K H B vs ts->Fr B0 H0 B H->ug ts μ Qt ->
 (∀ ad' B' σ' H' μ',Rl F ad' B' σ' H' μ'->Fr B0 H0 B' H'->Qt μ'->Q σ' H')->g vs σ H Q
structure YG (X:Cx) (e:Expr) (u:UG):Prop where
 ex:∃ t,QG X e t/\RG X.K t u
structure HH (X:Cx) (es:List Expr) (u:rN):Prop where
 ex:∃ t,HR X es t/\K7 X.K t u
structure YS (X:Cx) (st:Stmt) (u:US):Prop where
 ex:∃ t,QS X st t/\RS X.K t u
structure YB (X:Cx) (sts:List Stmt) (u:US):Prop where
 ex:∃ t,QB X sts t/\RS X.K t u
namespace Y
noncomputable def vm(μ:Mu)(i:Nat):Prop:=match μ[i]? with
 |some (.pb _)=>False
 |_=>True
theorem mL(h:vm μ i):∀ c,μ[i]?≠some (.pb c):=fun c e=>by unfold vm at h;rw[e] at h;exact h
noncomputable def gN(i:Nat):UG:=fun r μ Q=>match r with
 |.tr t=>vm μ i/\Q (μ.set i (.tr t))
 |.fr c=>vm μ i/\Q (μ.set i (.bx c))
 |.br _=>False
section
variable {X:Cx} {a b c e o tg:Expr} {es rest:List Expr} {ua ub uc ue uo:UE} {uA uB:UT} {us:UA} {pos pos' p p2 p3:Pos} {x:Str} {st:Stmt} {sts xs ys:List Stmt} {u w:US}
theorem lP:RG K (cV i) (gN i):=fun F ad B σ H μ v r B0 H0 Q Qt hK h f q k=>by
 cases r with
 |tr t=>exact k ad B _ H _ (h.1.CO (mL q.1) h.2) f q.2
 |br i=>exact q.elim
 |fr c =>
  obtain⟨l,a,rfl,n,h0,l2,x⟩:=h;exact k _ _ _ H _ (l2.setB (mL q.1) h0 n l.own l.gB x) f q.2
theorem aK(hN:X.N.Nodup)(hi:X.N[i]?=some x)(hx:Loc X.env.scope x)(hf:autoParam (X.fn x=true\/X.env.scope.names.lookup x=some .local) ℜ2):YG X (.Name x pos) (gN i):=⟨_,Z.aK hN hi hx hf,lP⟩
noncomputable def Ig:rN:=fun ts μ Q=>match ts with
 |[]=>Q μ
 |_=>False
noncomputable def Iz(g:UG)(gs:rN):rN:=fun ts μ Q=>match ts with
 |[]=>False
 |t::ts=>g (.tr t) μ fun μ'=>gs ts μ' Q
theorem g_:HH X [] Ig:=⟨_,Z.g_,fun F ad B σ H μ vs ts B0 H0 Q Qt hK l r f q k=>by
 cases r with
 |nil=>exact⟨rfl,k ad B σ H μ l f q⟩
 |cons=>exact q.elim⟩
theorem bJ{g:UG}{gs:rN}(h1:YG X e g)(h2:HH X es gs)(hs:autoParam ((assignEach (e::es) X.env).map (·.2)=assign e X.env::(assignEach es X.env).map (·.2)) ℜ0):HH X (e::es) (Iz g gs):=by
 obtain⟨t,q,r⟩:=h1;obtain⟨t',q',r'⟩:=h2;refine⟨_,Z.bJ q q' hs,fun F ad B σ H μ vs ts B0 H0 Q Qt hK l rs f q k=>?_⟩
 cases rs with
 |nil=>exact q.elim
 |cons h hr=>exact⟨_,_,rfl,r F ad B σ H μ _ (.tr _) B H _ _ hK ⟨l,h⟩ Fr.refl q fun ad' B' σ' H' μ' l' f' q'=>r' F ad' B' σ' H' μ' _ _ B0 H0 _ _ hK l' (hr.fr f') (f.trans f') q' k⟩
noncomputable def gT(n:Nat)(gs:rN):UG:=fun r μ Q=>match cont μ r.d with
 |some (.tup ts)=>ts.length=n/\gs ts μ Q
 |some (.lst ts)=>ts.length=n/\gs ts μ Q
 |_=>False
noncomputable def GQ(K:Qf)(n:Nat)(t:uG):TG:=fun v σ H Q=>∃ a xs,v=.ref a/\(bL K H a xs\/bH K H a xs)/\xs.length=n/\t xs σ H Q
theorem kN{prog:Program}{w:World}{A:Around}{E:Value->Shared->Prop}{t:Addr}(hne:t≠it):∀(n i:Nat) (s:Shared) (Q:List Value->Shared->Prop),s.heap.IsListIter it t i->s.heap.IsList t items->i+n<=items.size ->
  (∀ h',h'.IsListIter it t (i+n)->Heap.SameBut it s.heap h'->Q ((items.toList.drop i).take n) {s with heap:=h'})->wpAny (model prog w) A (draw (.ref it) n) Q E s
 |0,i,s,Q,hit,_,_,hQ=>by
  show wpAny _ _ (pure []) Q E s;exact Lh (by simpa using hQ s.heap hit (Heap.SameBut.refl ..))
 |n+1,i,s,Q,hit,ht,hle,hQ=>by
  have hlt:i<items.size:=by lia
  show wpAny _ _ (pyNext (.ref it) >>= _) Q E s;refine KU (NW hit ht (x:=items[i]) (by simp[hlt]) fun h₁ hit₁ hs₁=>?_)
  refine KU (LM (kN hne n (i+1) _ _ hit₁ (ht.extBut hs₁.extBut hne) (by lia) fun h₂ hit₂ hs₂=>Lh ?_))
  have hd:items.toList.drop i=items[i]::items.toList.drop (i+1):=by simp[LL,hlt]
  have:=hQ h₂ (by rw[show i+(n+1)=i+1+n by lia];exact hit₂) (hs₁.trans hs₂)
  rw[hd,List.take_succ_cons] at this;exact this
theorem i3{w:World}{A:Around}{t:Addr}{Q:List Value->Shared->Prop}(hh:A.handled=none)(ht:s.heap.IsList t items)
  (hQ:∀ h',Heap.ExtBut s.heap.objs.size s.heap h'->Q items.toList {s with heap:=h'}):wpAny (model prog w) A (unpackItems (.ref t) items.size none) Q E s:=by
 have hlt:t≠s.heap.objs.size:=by obtain⟨o,ho,_⟩:=ht;exact Ly (Lm ho)
 unfold unpackItems;refine KU ?_
 ·unfold notIterableAtAll;refine KU (wpAny_specialOf ht.typeIs F.slot_list_iter.lookup ?_);refine Lh ?_;simp only[Mp,M7];refine KU (LM (NT ht ?_));refine KU (LM (kN hlt items.size 0 _ _ ⟨_,Lq _ rfl,rfl,rfl⟩ (ht.push _) (by lia) fun h₁ hit₁ hs₁=>?_))
  have hall:List.take items.size (List.drop 0 items.toList)=items.toList:=by
   rw[Nx];exact Mm (by simp)
  rw[hall];rw[Lc (by simp)]
  have ht₁:h₁.IsList t items:=(ht.push _).extBut hs₁.extBut hlt;refine KU (LM (Of hh hit₁ ht₁ (by simp) fun h₂ he₂=>?_))
  simp only[Option.isSome_none,Mp,M7];refine Lh (hQ h₂ fun b o hb e=>he₂ b o hb (hs₁.extBut b o hb (La _ e)))
theorem B8{t:uG}(hc:X.calm=true)(h:Fs X es t)
  (hn:autoParam ((assignEach es X.env).length=n) ℜ0) (hst:autoParam ((assignEach es X.env).findIdx? (·.1)=none) ℜ0):PG X (.Tuple es k pos) (GQ X.K n t):=by
 intro pins s σ H v u Q I r hw;obtain⟨a,xs,e1,hq,hl,hw⟩:=hw;rcases hq with hq|hq
 ·exact zh hc h hn hst pins s σ H v u Q I r ⟨a,xs,e1,hq,hl,hw⟩
 ·subst e1;cases r;obtain⟨its,rv,ht,hz⟩:=I.list hq;rw[assign_Tuple];refine KU (NZ ?_);unfold unpack;have hsz:(assignEach es X.env).length=its.toArray.size:=by rw[hn,<- hl,rv.length];simp
  rw[hsz,hst];refine KU (LM (i3 (I.ok.hd hc) ht.isList fun h' hx=>?_));have I1:Inv X pins σ H {s with heap:=h'}:=I.kept (t':=s.toks) fun b o e=>hx b o (Ly (Lm e)) e
  exact h pins _ σ H xs _ Q I1 (by simpa using rv) hw
theorem vh(K:Qf)(hK:X.K=K){gs:rN}(hc:X.calm=true)(h:HH X es gs)(hn:autoParam ((assignEach es X.env).length=n) ℜ0)(hst:autoParam ((assignEach es X.env).findIdx? (·.1)=none) ℜ0):YG X (.Tuple es k pos) (gT n gs):=by
 obtain⟨t,q,r⟩:=h;subst hK;refine⟨_,⟨B8 hc q.h hn hst⟩,fun F ad B σ H μ v rr B0 H0 Q Qt hF h f q k=>?_⟩;have l:=h.rl;have f':Fr B0 H0 B H:=fun b o h n=>⟨(f b o h n).1,fun z=>(f b o h n).2 (by cases rr<;>first|exact z | (cases v<;>first|exact z|exact .inr z))⟩
 unfold gT at q
 split at q
 ·rename_i ts e;have w:=h.hv.vw l e;rw[hF] at w;obtain⟨_,_,rfl,ha,ra⟩:=Vw.tupI w;exact⟨_,_,rfl,.inl (bL.of ha),by rw[ra.length];exact q.1,r F ad B σ H μ _ ts B0 H0 Q Qt hF l (by rw[hF];exact ra) f' q.2 k⟩
 ·rename_i ts e;have w:=h.hv.vw l e;rw[hF] at w;obtain⟨_,_,rfl,ha,ra⟩:=Vw.ef w;exact⟨_,_,rfl,.inr (bH.of ha),by rw[ra.length];exact q.1,r F ad B σ H μ _ ts B0 H0 Q Qt hF l (by rw[hF];exact ra) f' q.2 k⟩
 ·exact q.elim
theorem b6:YB X [] (fun E μ=>E.nx μ):=⟨_,Z.b6,fun F D E ad B σ H μ hK l q h=>h.nx ad B σ H μ l Fr.refl q⟩
theorem az(h:YS X st u):YB X [st] u:=by obtain⟨t,q,r⟩:=h;exact⟨t,Z.az q,r⟩
noncomputable def Bo(u w:US):US:=fun E μ=>u {E with nx:=w E} μ
theorem ab(h:YS X st u)(h2:YB X sts w):YB X (st::sts) (Bo u w):=by
 obtain⟨t,q,r⟩:=h;obtain⟨t',q',r'⟩:=h2;exact⟨_,Z.ab q q',fun F D E ad B σ H μ hK l q h=>r F {D with nx:=t' D} {E with nx:=w E} ad B σ H μ hK l q
  ⟨fun ad1 B1 σ1 H1 μ1 l1 f1 q1=>r' F D E ad1 B1 σ1 H1 μ1 hK l1 q1 (h.step f1),h.rt,h.bk,h.ct⟩⟩
noncomputable def kg(ue:UE)(g:UG):US:=fun E μ=>ue μ fun r μ'=>g r μ' E.nx
theorem jf{tg:TG}{g:UG}(he:RE K te ue)(hg:RG K tg g):RS K (pF te tg) (kg ue g):=fun F D E ad B σ H μ hK l q h =>
 he F ad B σ H μ _ _ hK l q fun v H' r μ' v1 f k1 q1=>hg F ad B σ H' μ' v r B H _ _ hK v1 f q1 fun ad' B' σ' H2 μ2 l2 f2 q2=>h.nx ad' B' σ' H2 μ2 l2 f2 q2
theorem set(hN:X.N.Nodup)(hi:X.N[i]?=some x)(hx:Loc X.env.scope x)(he:YE X e ue)(hs:autoParam (Z.Fn e=true) ℜ0)(hf:autoParam (X.fn x=true\/X.env.scope.names.lookup x=some .local) ℜ2):
  YS X (.Assign [.Name x pos'] e pos) (kg ue (gN i)):=by
 obtain⟨t,q,r⟩:=he;exact⟨_,Z.set hN hi hx q hs hf,jf r lP⟩
theorem asg{g:UG}(he:YE X e ue)(hg:YG X tg g)(hs:autoParam (swapsWithSole [tg] e pos.line X.env=pure false) ℜ0)(hw:autoParam (swappedStores [tg] e X.env=pure none) ℜ0)
  (h1:autoParam ((assignEach [tg] X.env).map (·.2)=[assign tg X.env]) ℜ0):YS X (.Assign [tg] e pos) (kg ue g):=by
 obtain⟨t,q,r⟩:=he;obtain⟨t',q',r'⟩:=hg;exact⟨_,Z.asg q q' hs hw h1,jf r r'⟩
noncomputable def Bd(ue:UE):US:=fun E μ=>ue μ E.rt
theorem ret(he:YE X e ue):YS X (.Return (some e) pos) (Bd ue):=by
 obtain⟨t,q,r⟩:=he;exact⟨_,Z.ret q,fun F D E ad B σ H μ hK l q h=>r F ad B σ H μ _ _ hK l q fun v H' r1 μ' v1 f k1 q1=>h.rt ad B σ H' μ' v r1 v1 q1⟩
noncomputable def rP(ue:UE):US:=fun E μ=>ue μ fun _ μ'=>E.nx μ'
theorem expr(he:YE X e ue)(hs:autoParam (Z.Fn e=true) ℜ0):YS X (.Expr e pos) (rP ue):=by
 obtain⟨t,q,r⟩:=he;exact⟨_,Z.expr q hs,fun F D E ad B σ H μ hK l q h=>r F ad B σ H μ _ _ hK l q fun v H' r1 μ' v1 f k1 q1=>h.nx ad B σ H' μ' v1.rl f.d q1⟩
noncomputable def B6(c:UT)(u w:US):US:=fun E μ=>c μ fun b μ'=>if b=true then u E μ' else w E μ'
theorem eJ(hc:YT X c uA)(ha:YB X xs u)(hb:YB X ys w):YS X (.If c xs ys pos) (B6 uA u w):=by
 obtain⟨tc,qc,rc⟩:=hc;obtain⟨t,q,r⟩:=ha;obtain⟨t',q',r'⟩:=hb;refine⟨_,Z.eJ qc q q',fun F D E ad B σ H μ hK l q h=>rc F ad B σ H μ _ _ hK l q fun b H' μ' l1 f k1 q1=>?_⟩
 cases b with
 |true=>rw[Li rfl] at q1 ⊢;exact r F D E ad B σ H' μ' hK l1 q1 (h.step f)
 |false=>rw[Lc Lg] at q1 ⊢;exact r' F D E ad B σ H' μ' hK l1 q1 (h.step f)
end
end Y
structure jv (K:Qf) (J:It) (Src:Hp->aR->Prop) (items:List T):Prop where
 step:∀ H B i t,(∀ b,B b->∃ o,H b=some o)->Src H B->items[i]?=some t->J.go i H/\∀ x H2,J.HD i H x H2->bB H H2/\Rep K H2 B x t
 stop:∀ H B,Src H B->J.stop items.length H
theorem jv.imp{J:It}{Src Src':Hp->aR->Prop}{items:List T}(h:jv K J Src items)(f:∀ H B,Src' H B->Src H B):jv K J Src' items:=⟨fun H B i t hb s e=>h.step H B i t hb (f H B s) e,fun H B s=>h.stop H B (f H B s)⟩
noncomputable def HK(F:Fx)(ad:Nat->Addr)(Src:Hp->aR->Prop):Option (Nat×List T)->Prop
 |none=>∀ B1 H1 B2 H2,Fr B1 H1 B2 H2->Src H1 B1->Src H2 B2
 |some (j,ls)=>(∀ B' σ' H' μ',Rl F ad B' σ' H' μ'->cont μ' (.br j)=some (.lst ls)->Src H' B')/\∀ B' H',Rep F.K H' B' (.ref (ad j)) (.lst ls)->Src H' B'
abbrev UI:=Mu->(List T->Option (Nat×List T)->Mu->Prop)->Prop
noncomputable def RI(K:Qf)(wi:TI)(ui:UI):Prop:=∀(F:Fx) (ad:Nat->Addr) (B:aR) (σ:St) (H:Hp) (μ:Mu) (R:It->Hp->Prop) (Rt:List T->Option (Nat×List T)->Mu->Prop),F.K=K->Rl F ad B σ H μ->ui μ Rt ->
 (∀ J H' μ' items gd Src,Rl F ad B σ H' μ'->Fr B H B H'->Kp μ μ'->jv K J Src items->Src H' B->HK F ad Src gd->(∀ j ls,gd=some (j,ls)->cont μ' (.br j)=some (.lst ls))->Rt items gd μ'->R J H')->wi σ H R
structure YI (X:Cx) (tg it:Expr) (u:UI):Prop where
 ex:∃ t,QI X tg it t/\RI X.K t u
theorem yu:jv K (HN K a) (fun H B=>∃ vs,bH K H a vs/\aj K H B vs ts) ts:=
 ⟨fun H B i t hb ⟨vs,h,r⟩ e=>by
  obtain⟨v,e1,rv⟩:=r.get e;refine⟨⟨vs,v,h,e1⟩,fun x H2 y=>?_⟩;obtain⟨rfl,y⟩:=y;have:=y vs h;rw[e1] at this;cases this;exact⟨bB.refl _,rv⟩,fun H B ⟨vs,h,r⟩=>⟨vs,h,by rw[r.length];exact Lj _⟩⟩
theorem CP:jv K (GS K a) (fun H B=>∃ vs,bL K H a vs/\aj K H B vs ts) ts:=
 ⟨fun H B i t hb ⟨vs,h,r⟩ e=>by
  obtain⟨v,e1,rv⟩:=r.get e;refine⟨⟨vs,v,h,e1⟩,fun x H2 y=>?_⟩;obtain⟨rfl,y⟩:=y;have:=y vs h;rw[e1] at this;cases this;exact⟨bB.refl _,rv⟩,fun H B ⟨vs,h,r⟩=>⟨vs,h,by rw[r.length];exact Lj _⟩⟩
noncomputable def pairs(ts:List T):List T:=(List.range ts.length).map fun i=>.tup [.int (i:Nat),(ts[i]?).getD .aC]
theorem wK:jv K (v_ K a) (fun H B=>∃ vs,bL K H a vs/\aj K H B vs ts) (pairs ts):=by
 refine⟨fun H B i t hb ⟨vs,h,r⟩ e=>?_,fun H B ⟨vs,h,r⟩=>⟨vs,h,by rw[r.length];simp[pairs]⟩⟩
 unfold pairs at e;rw[Lr] at e;have hi:i<ts.length:=by
  rcases Ma i ts.length with z|z
  ·exact z
  ·rw[L4.mpr (by simpa using z)] at e;cases e
 rw[Md hi] at e;have e':T.tup [.int (i:Nat),(ts[i]?).getD .aC]=t:=Option.some.inj e;have et:ts[i]?=some ts[i]:=KW hi;obtain⟨v,e1,rv⟩:=r.get et;refine⟨⟨v,vs,h,e1⟩,fun x H2 y=>?_⟩;obtain⟨p,y,hy,hp,rfl,rfl⟩:=y;have:=hy vs h;rw[e1] at this;cases this;subst e';rw[et];refine⟨bB.new hp,.tup (fun z=>?_) aq (.cons (.int _) (.cons (rv.fr (Fr.same (bB.new hp))) .nil))⟩;obtain⟨o,q⟩:=hb p z;rw[hp] at q;cases q
theorem EX:jv K (HC lo n) (fun _ _=>True) ((List.range n).map fun k=>T.int (lo+(k:Nat))):=
 ⟨fun H B i t hb _ e=>by
  rw[Lr] at e;have hi:i<n:=by
   rcases Ma i n with z|z
   ·exact z
   ·rw[L4.mpr (by simpa using z)] at e;cases e
  rw[Md hi] at e;refine⟨hi,fun x H2 y=>?_⟩;obtain⟨rfl,rfl⟩:=y;cases e;exact⟨bB.refl _,.int _⟩,fun H B _=>by simp[HC]⟩
noncomputable def JH(K:Qf)(tl:TE):TI:=fun σ H R=>tl σ H fun x H1=>∃ a,x=V.ref a/\(((∃ xs,bH K H1 a xs)/\R (HN K a) H1)\/((∃ xs,bL K H1 a xs)/\R (GS K a) H1))
theorem EL{l:Expr}{tl:TE}(hl:PE X l tl):PI X tg l (JH X.K tl):=by
 intro pins s σ H R I h;refine bu (hl pins s σ H _ I h) fun v s1 ⟨x,H1,I1,r1,q1⟩=>?_;obtain⟨a,rfl,q⟩:=q1;cases r1;rcases q with ⟨⟨xs,hq⟩,q⟩|⟨⟨xs,hq⟩,q⟩
 ·obtain⟨its,rv,p,hz⟩:=I1.list hq;refine NT p.isList ?_;refine⟨s1.heap.objs.size,[s1.heap.objs.size],_,_,H1,rfl,I1.kept (t':=s1.toks) fun b o e=>La _ e,vk a _,⟨_,Lq _ rfl,rfl,rfl⟩,fun b hb=>?_,q⟩;have e:b=s1.heap.objs.size:=by simpa using hb
  subst e;exact I1.uz (Lj _) (I1.aJ.fresh (Lj _))
 ·obtain⟨its,rv,p,hz⟩:=I1.tuple hq;refine NH (show s1.heap.IsTuple a its.toArray from p) ?_;refine⟨s1.heap.objs.size,[s1.heap.objs.size],_,_,H1,rfl,I1.kept (t':=s1.toks) fun b o e=>La _ e,pj a _,⟨_,Lq _ rfl,rfl,rfl⟩,fun b hb=>?_,q⟩;have e:b=s1.heap.objs.size:=by simpa using hb
  subst e;exact I1.uz (Lj _) (I1.aJ.fresh (Lj _))
namespace Y
section
variable {X:Cx} {a b c e o tg it:Expr} {es rest:List Expr} {ua ub uc ue uo:UE} {uA uB:UT} {us:UA} {pos pos' p p2 p3:Pos} {x:Str} {st:Stmt} {sts xs ys:List Stmt} {u w:US}
noncomputable def BS(ue:UE):UI:=fun μ Rt=>ue μ fun r μ'=>match r with
 |.br j=>(match cont μ' (.br j) with|some (.lst ts)=>Rt ts (some (j,ts)) μ'|_=>False)
 |.tr (.lst ts)=>Rt ts none μ'
 |.fr (.lst ts)=>Rt ts none μ'
 |.tr (.tup ts)=>Rt ts none μ'
 |.tr (.e7 ts)=>Rt ts none μ'
 |.tr (.dq ts)=>Rt ts none μ'
 |_=>False
theorem any(K:Qf)(hK:X.K=K)(he:YE X e ue):YI X tg e (BS ue):=by
 obtain⟨t,q,r⟩:=he;subst hK;refine⟨_,⟨EL q.h⟩,fun F ad B σ H μ R Rt hF l q k=>r F ad B σ H μ _ _ hF l q fun v H' r1 μ' v1 f k1 q1=>?_⟩;have hv:=v1.hv;have l1:=v1.rl;have go:∀(ts:List T) (a:Addr) (t:T),v=.ref a->Rep F.K H' B (.ref a) t->(t=.lst ts\/t=.e7 ts)->Rt ts none μ'->∃ a,v=V.ref a/\(((∃ xs,bH X.K H' a xs)/\R (HN X.K a) H')\/((∃ xs,bL X.K H' a xs)/\R (GS X.K a) H')):=fun ts a t ev rp et q=>by
  have sr:∀ H B,Rep F.K H B (.ref a) t->∃ vs,bH X.K H a vs/\aj X.K H B vs ts:=fun H B h=>by
   rw[hF] at h;rcases et with rfl|rfl
   ·obtain⟨_,n,h,r⟩:=Rep.DV h;exact⟨_,bH.of h,r⟩
   ·obtain⟨_,h,r⟩:=Rep.Ju h;exact⟨_,h.sq,r⟩
  obtain⟨vs,h1,_⟩:=sr _ _ rp;exact⟨a,ev,.inl ⟨⟨vs,h1⟩,k _ H' μ' ts none (fun H B=>Rep F.K H B (.ref a) t) l1 f.d k1 (yu.imp sr) rp (fun B1 H1 B2 H2 f h=>h.fr f) (fun j ls z=>by cases z) q⟩⟩
 have goT:∀(ts:List T) (a:Addr) (t:T),v=.ref a->Rep F.K H' B (.ref a) t->(t=.tup ts\/t=.dq ts)->Rt ts none μ'->∃ a,v=V.ref a/\(((∃ xs,bH X.K H' a xs)/\R (HN X.K a) H')\/((∃ xs,bL X.K H' a xs)/\R (GS X.K a) H')):=fun ts a t ev rp et q=>by
  have sr:∀ H B,Rep F.K H B (.ref a) t->∃ vs,bL X.K H a vs/\aj X.K H B vs ts:=fun H B h=>by
   rw[hF] at h;rcases et with rfl|rfl
   ·obtain⟨_,n,h,r⟩:=Rep.oD h;exact⟨_,bL.of h,r⟩
   ·obtain⟨_,h,r⟩:=Rep.Jn h;exact⟨_,.inr h,r⟩
  obtain⟨vs,h1,_⟩:=sr _ _ rp;exact⟨a,ev,.inr ⟨⟨vs,h1⟩,k _ H' μ' ts none (fun H B=>Rep F.K H B (.ref a) t) l1 f.d k1 (CP.imp sr) rp (fun B1 H1 B2 H2 f h=>h.fr f) (fun j ls z=>by cases z) q⟩⟩
 split at q1
 ·rename_i j
  split at q1
  ·rename_i ts e;obtain⟨ev,s,c,e1,e2⟩:=hv;have src:∀ B' σ' H' μ',Rl F ad B' σ' H' μ'->cont μ' (.br j)=some (.lst ts)->∃ vs,bH X.K H' (ad j) vs/\aj X.K H' B' vs ts:=fun B' σ' H' μ' l e=>by
    have e3:(μ'[j]?).bind Sl.box=some (.lst ts):=e
    cases q:μ'[j]? with
    |none=>rw[q] at e3;cases e3
    |some s' =>
     rw[q] at e3;have bx:=((l.slot j s' q).boxed (c:=.lst ts) e3).2.2.1;rw[hF] at bx;obtain⟨vs,h1,h2⟩:=bx;exact⟨vs,bH.of h1,h2⟩
   obtain⟨vs,h1,h2⟩:=src _ _ _ _ l1 e;refine⟨ad j,ev,.inl ⟨⟨vs,h1⟩,k _ H' μ' ts (some (j,ts)) _ l1 f.d k1 yu ⟨vs,h1,h2⟩ ⟨src,fun B' H' h=>?_⟩ (fun j' ls z=>by cases z;exact e) q1⟩⟩
   rw[hF] at h;obtain⟨_,n,h,r⟩:=Rep.DV h;exact⟨_,bH.of h,r⟩
  ·exact q1.elim
 ·have rp:Rep F.K H' B v _:=hv;obtain⟨_,_,rfl,n,h,r⟩:=Rep.ef rp;exact go _ _ _ rfl (.lst n h r) (.inl rfl) q1
 ·have rp:Rep F.K H' B v _:=hv;obtain⟨_,_,rfl,n,h,r⟩:=Rep.ef rp;exact go _ _ _ rfl (.lst n h r) (.inl rfl) q1
 ·have rp:Rep F.K H' B v _:=hv;obtain⟨_,_,rfl,n,h,r⟩:=Rep.tupI rp;exact goT _ _ _ rfl (.tup n h r) (.inl rfl) q1
 ·have rp:Rep F.K H' B v _:=hv;obtain⟨_,_,rfl,h,r⟩:=Rep.uR rp;exact go _ _ _ rfl (.e7 h r) (.inr rfl) q1
 ·have rp:Rep F.K H' B v _:=hv;obtain⟨_,_,rfl,h,r⟩:=Rep.qM rp;exact goT _ _ _ rfl (.dq h r) (.inr rfl) q1
 ·exact q1.elim
noncomputable def Iq(us:UA):UI:=fun μ Rt=>us μ fun rs μ'=>match rs with
 |[.tr (.int j)]=>-(2^62)<=j/\j<2^62/\Rt ((List.range j.toNat).map fun k=>T.int (0+(k:Nat))) none μ'
 |_=>False
theorem jV(hg:Gl X "range")(hm:X.mg "range"=none)(ha:YA X [a] us)(h:autoParam (cL a=true) ℜ0):YI X tg (.Call (.Name "range" p) [a] [] pos) (Iq us):=by
 obtain⟨t,q,r⟩:=ha;refine⟨_,Z.jV hg hm q h,fun F ad B σ H μ R Rt hF l q k=>r F ad B σ H μ _ _ hF l q fun vs H' rs μ' l1 ps f k1 q1=>?_⟩
 split at q1
 ·obtain⟨_,_,rfl,h1,ps⟩:=Paired.aO ps
  cases ps;cases aL h1;exact⟨_,rfl,q1.1,q1.2.1,k _ H' μ' _ none _ l1 f k1 EX trivial (fun _ _ _ _ _ _=>trivial) (fun j ls z=>by cases z) q1.2.2⟩
 ·exact q1.elim
noncomputable def Ie(us:UA):UI:=fun μ Rt=>us μ fun rs μ'=>match rs with
 |[.tr (.tup ts)]=>Rt (pairs ts) none μ'
 |_=>False
theorem enum(K:Qf)(hK:X.K=K)(hg:Gl X "enumerate")(hm:X.mg "enumerate"=none)(ha:YA X [e] us)(h1:autoParam (cL e=true) ℜ0):YI X (.Tuple es k tp) (.Call (.Name "enumerate" p) [e] [] pos) (Ie us):=by
 obtain⟨t,q,r⟩:=ha;refine⟨_,Z.enum K hK hg hm q h1,fun F ad B σ H μ R Rt hF l q k=>r F ad B σ H μ _ _ hF l q fun vs H' rs μ' l1 ps f k1 q1=>?_⟩;have hF':F.K=K:=hF.trans hK
 split at q1
 ·rename_i ts;obtain⟨_,_,rfl,h1,ps⟩:=Paired.aO ps;obtain rfl:=Paired.eV ps;have rp:=aL h1
  cases rp with
  |@tup a vs _ n h rr =>
   have sr:∀ H B,Rep F.K H B (.ref a) (.tup ts)->∃ vs,bL X.K H a vs/\aj X.K H B vs ts:=fun H B h=>by
    rw[hF] at h;obtain⟨_,n,h,r⟩:=Rep.oD h;exact⟨_,bL.of h,r⟩
   refine⟨a,rfl,⟨vs,bL.of h⟩,?_⟩;have:=k (v_ X.K a) H' μ' (pairs ts) none (fun H B=>Rep F.K H B (.ref a) (.tup ts)) l1 f k1 (wK.imp sr) (.tup n h rr) (fun B1 H1 B2 H2 f h=>h.fr f) (fun j ls z=>by cases z) q1
   rw[hK] at this;exact this
 ·exact q1.elim
noncomputable def gj(g:UG)(body:US)(E:Ed):List T->Mu->Prop
 |[],μ=>E.nx μ
 |t::ts,μ=>g (.tr t) μ fun μ1=>body {E with nx:=gj g body E ts,ct:=gj g body E ts,bk:=E.nx} μ1
noncomputable def Bq(ui:UI)(g:UG)(body:US):US:=fun E μ=>ui μ fun items gd μ'=>match gd with
 |none=>gj g body E items μ'
 |some (j,_)=>(match μ'[j]? with
  |some (.bx c)=>gj g body E items (μ'.set j (.tr c))
  |_=>False)
theorem nH{g:TG}{ug:UG}{tb:TS}{body:US}{D:Ends}{E:Ed}{J:It}{Src:Hp->aR->Prop}{items:List T}{B0:aR}{H0:Hp}(hF:F.K=K)(hg:RG K g ug)(hb:RS K tb body)(it:jv K J Src items)
  (pe:∀ B1 H1 B2 H2,Fr B1 H1 B2 H2->Src H1 B1->Src H2 B2) (hE:zd F B0 H0 D E)      (l:Rl F ad B σ H μ) (f:Fr B0 H0 B H) (sr:Src H B) (q:gj ug body E items μ) :
  ∃ W:Nat->Nat->St->Hp->Prop,(∃ m,W 0 m σ H)/\∀ i m σ H,W i m σ H ->
   (J.stop i H/\D.nx σ H)\/(J.go i H/\∃ N:St->Hp->Prop,(∀ σ' H',N σ' H'->∃ m',m'<m/\W (i+1) m' σ' H')/\∀ x H',J.HD i H x H'->g x σ H' fun σ2 H2=>tb {D with nx:=N,ct:=N,bk:=D.nx} σ2 H2):=by
 refine⟨fun i m σ H=>m=items.length-i/\i<=items.length/\∃ ad B μ,Rl F ad B σ H μ/\Fr B0 H0 B H/\Src H B/\gj ug body E (items.drop i) μ,⟨items.length,by simp,LH _,ad,B,μ,l,f,sr,q⟩,?_⟩
 rintro i m σ H ⟨rfl,hi,ad,B,μ,l,f,sr,q⟩;by_cases hlt:i<items.length
 ·have ei:items[i]?=some items[i]:=KW hlt;rw[LL hlt] at q;obtain⟨go,yl⟩:=it.step H B i _ l.fi sr ei;refine .inr ⟨go,fun σ' H'=>∃ ad' B' μ',Rl F ad' B' σ' H' μ'/\Fr B0 H0 B' H'/\Src H' B'/\gj ug body E (items.drop (i+1)) μ',fun σ' H' h=>⟨items.length-(i+1),by lia,rfl,hlt,h⟩,fun x H2 y=>?_⟩
  obtain⟨sm,rp⟩:=yl x H2 y;refine hg F ad B σ H2 μ x (.tr _) B H2 _ _ hF ⟨l.same sm,by show Rep F.K H2 B x _;rw[hF];exact rp⟩ Fr.refl q fun ad3 B3 σ3 H3 μ3 l3 f3 q3=>?_
  have f03:Fr B0 H0 B3 H3:=(f.trans (Fr.same sm)).trans f3;have s3:Src H3 B3:=pe _ _ _ _ ((Fr.same sm).trans f3) sr;exact hb F _ _ ad3 B3 σ3 H3 μ3 hF l3 q3 ⟨fun ad' B' σ' H' μ' l' f' q'=>⟨ad',B',μ',l',f03.trans f',pe _ _ _ _ f' s3,q'⟩,hE.rt,fun ad' B' σ' H' μ' l' f' q'=>hE.nx ad' B' σ' H' μ' l' (f03.trans f') q',fun ad' B' σ' H' μ' l' f' q'=>⟨ad',B',μ',l',f03.trans f',pe _ _ _ _ f' s3,q'⟩⟩
 ·have e:i=items.length:=by lia
  subst e;rw[N1] at q;exact .inl ⟨it.stop H B sr,hE.nx ad B σ H μ l f q⟩
theorem gg{ui:UI}{g:UG}(hp:PassesOwn (model X.prog X.w) X.A X.env X.xe)(hc:X.calm=true)(hi:YI X tg it ui)(hg:YG X tg g)(hb:YB X xs u)(hs:autoParam (∀ x,foldedSetIterable it X.env x=pure x) ℜ3):YS X (.For tg it xs [] pos) (Bq ui g u):=by
 obtain⟨ti,qi,ri⟩:=hi;obtain⟨tg',qg,rg⟩:=hg;obtain⟨t,q,r⟩:=hb;refine⟨_,Z.gg hp hc qi qg q hs,fun F D E ad B σ H μ hF l q h=>ri F ad B σ H μ _ _ hF l q fun J H' μ' items gd Src l1 f1 k1 it sr so gok q1=>?_⟩
 split at q1
 ·exact nH hF rg r it so h l1 f1 sr q1
 ·rename_i j ls
  split at q1
  ·rename_i c ej;have bx:=l1.slot j _ ej;have hc:¬ F.Bc (ad j):=fun z=>by
    obtain⟨o,e⟩:=F.bh _ z;rw[bx.2.2.1] at e;cases e
   obtain⟨l2,rp⟩:=l1.freeze ej hc;have ec:c=.lst ls:=by
    have:=gok j ls rfl;have e2:(μ'[j]?).bind Sl.box=some (.lst ls):=this;rw[ej] at e2;exact Option.some.inj e2
   subst ec;exact nH (Src:=fun H B=>Rep F.K H B (.ref (ad j)) (.lst ls)) hF rg r (it.imp fun H B h=>so.2 B H h) (fun B1 H1 B2 H2 f h=>h.fr f) h l2 (f1.trans (Fr.less fun b z=>z.1)) rp q1
  ·exact q1.elim
noncomputable def DP(c:UT)(body:US):US:=fun E μ=>∃ I:Nat->Mu->Prop,(∃ m,I m μ)/\∀ m μ,I m μ->c μ fun b μ'=>if b=true then body {E with nx:=fun μ2=>∃ m',m'<m/\I m' μ2,ct:=fun μ2=>∃ m',m'<m/\I m' μ2,bk:=E.nx} μ' else E.nx μ'
theorem m5(hp:PassesOwn (model X.prog X.w) X.A X.env X.xe)(hc:YT X c uA)(hb:YB X xs u):YS X (.While c xs [] pos) (DP uA u):=by
 obtain⟨tc,qc,rc⟩:=hc;obtain⟨t,q,r⟩:=hb;refine⟨_,Z.m5 hp qc q,fun F D E ad B σ H μ hF l q h=>?_⟩;obtain⟨I,⟨m0,i0⟩,turn⟩:=q;refine⟨fun m σ' H'=>∃ ad' B' μ',Rl F ad' B' σ' H' μ'/\Fr B H B' H'/\I m μ',⟨m0,ad,B,μ,l,Fr.refl,i0⟩,?_⟩;rintro m σ1 H1 ⟨ad1,B1,μ1,l1,f1,i1⟩;refine rc F ad1 B1 σ1 H1 μ1 _ _ hF l1 (turn m μ1 i1) fun b H2 μ2 l2 f2 k2 q2=>?_
 cases b with
 |true =>
  rw[Li rfl] at q2 ⊢;refine⟨fun σ' H'=>∃ m',m'<m/\∃ ad' B' μ',Rl F ad' B' σ' H' μ'/\Fr B H B' H'/\I m' μ',fun σ' H' h=>h,?_⟩;have hn:∀ ad' B' σ' H' μ',Rl F ad' B' σ' H' μ'->Fr B1 H2 B' H'->(∃ m',m'<m/\I m' μ')->∃ m',m'<m/\∃ ad' B' μ',Rl F ad' B' σ' H' μ'/\Fr B H B' H'/\I m' μ':=fun ad' B' σ' H' μ' l' f' ⟨m',hm,i'⟩=>⟨m',hm,ad',B',μ',l',(f1.trans f2).trans f',i'⟩;exact r F _ _ ad1 B1 σ1 H2 μ2 hF l2 q2 ⟨hn,h.rt,fun ad' B' σ' H' μ' l' f' q'=>h.nx ad' B' σ' H' μ' l' ((f1.trans f2).trans f') q',hn⟩
 |false =>
  rw[Lc Lg] at q2 ⊢;exact h.nx ad1 B1 σ1 H2 μ2 l2 (f1.trans f2) q2
end
end Y
noncomputable def uw(K:Qf)(u:UE):TE:=fun σ H Q=>∃(F:Fx) (ad:Nat->Addr) (B:aR) (μ:Mu) (Qt:R->Mu->Prop),F.K=K/\Rl F ad B σ H μ/\u μ Qt/\∀ v H' r μ',Vr F ad B σ H' μ' v r->Fr B H (Bv B v r) H'->Kp μ μ'->Qt r μ'->Q v H'
noncomputable def va(K:Qf)(u:UT):TT:=fun σ H Q=>∃(F:Fx) (ad:Nat->Addr) (B:aR) (μ:Mu) (Qt:Bool->Mu->Prop),F.K=K/\Rl F ad B σ H μ/\u μ Qt/\∀ b H' μ',Rl F ad B σ H' μ'->Fr B H B H'->Kp μ μ'->Qt b μ'->Q b H'
theorem YE.Bs{u:UE}(h:YE X e u):QE X e (uw X.K u):=⟨fun pins s σ H Q I hh=>by
 obtain⟨F,ad,B,μ,Qt,hF,l,q,k⟩:=hh;obtain⟨t,qe,r⟩:=h;exact qe.h pins s σ H Q I (r F ad B σ H μ Q Qt hF l q k)⟩
theorem BR.Bs{e:List Expr}{u:UT}(h:BR X e u):Fv X e (va X.K u):=⟨fun pins s σ H Q I hh=>by
 obtain⟨F,ad,B,μ,Qt,hF,l,q,k⟩:=hh;obtain⟨t,qe,r⟩:=h;exact qe.h pins s σ H Q I (r F ad B σ H μ Q Qt hF l q k)⟩
theorem sT{u:UE}:RE K (uw K u) u:=fun F ad B σ H μ Q Qt hF l q k=>⟨F,ad,B,μ,Qt,hF,l,q,k⟩
theorem rC{u:UT}:RT K (va K u) u:=fun F ad B σ H μ Q Qt hF l q k=>⟨F,ad,B,μ,Qt,hF,l,q,k⟩
noncomputable def Fx.sh(F:Fx):Fx:={F with P:=fun i=>match i with|0=>none|i+1=>F.P i}
noncomputable def Gn(ad:Nat->Addr):Nat->Addr:=fun i=>match i with|0=>0|i+1=>ad i
theorem Rl.push{x:V}{t:T}(l:Rl F ad B σ H μ)(h:Rep F.K H B x t):Rl F.sh (Gn ad) B (some x::σ) H (.tr t::μ):=by
 refine⟨L0 (·+1) l.len,fun i s e=>?_,fun i j s u c d e1 e2 b1 b2 q=>?_,fun i a p=>?_,l.bc,l.fi,fun b o e n=>l.old b o e fun i z=>n (i+1) z,fun a ws ga=>?_⟩
 ·cases i with
  |zero =>
   have e':Sl.tr t=s:=by simpa using e
   subst e';exact⟨x,rfl,h⟩
  |succ i=>exact l.slot i s (by simpa using e)
 ·cases i with
  |zero =>
   have e':Sl.tr t=s:=by simpa using e1
   subst e';cases b1
  |succ i=>cases j with
   |zero =>
    have e':Sl.tr t=u:=by simpa using e2
    subst e';cases b2
   |succ j=>exact L0 (·+1) (l.inj i j s u c d (by simpa using e1) (by simpa using e2) b1 b2 q)
 ·cases i with
  |zero=>cases p
  |succ i=>obtain⟨⟨c,e⟩,z⟩:=l.par i a p;exact⟨⟨c,by simpa using e⟩,z⟩
 ·obtain⟨g1,g2,g3⟩:=l.gh a ws ga;refine⟨g1,g2,fun i s c e b=>?_⟩
  cases i with
  |zero =>
   have e':Sl.tr t=s:=by simpa using e
   subst e';cases b
  |succ i=>exact g3 i s c (by simpa using e) b
theorem Rl.D3{y:Option V}(l:Rl F.sh (Gn ad) B (y::σ) H μ):Rl F ad B σ H μ.tail:=by
 have get:∀ i,μ.tail[i]?=μ[i+1]?:=fun i=>by cases μ<;>simp
 refine⟨?_,fun i s e=>?_,fun i j s u c d e1 e2 b1 b2 q=>?_,fun i a p=>?_,l.bc,l.fi,fun b o e n=>l.old b o e fun i z=>?_,fun a ws ga=>let ⟨g1,g2,g3⟩:=l.gh a ws ga;⟨g1,g2,fun i s c e b=>g3 (i+1) s c (by rw[<- get];exact e) b⟩⟩
 ·have:=l.len;rw[Oc,this];rfl
 ·rw[get] at e;exact l.slot (i+1) s e
 ·rw[get] at e1 e2;exact Nat.succ.inj (l.inj (i+1) (j+1) s u c d e1 e2 b1 b2 q)
 ·obtain⟨⟨c,e⟩,z⟩:=l.par (i+1) a p;exact⟨⟨c,by rw[get];exact e⟩,z⟩
 ·cases i with
  |zero=>cases z
  |succ i=>exact n i z
theorem Kp.tail{s:Sl}(k:Kp (s::μ) μ'):Kp μ μ'.tail:=fun i=>by
 have:=k (i+1);rw[NQ] at this;rw[this]
 cases μ'<;>simp
noncomputable def Fx.g(F:Fx)(D:Addr)(ys:List V):Fx:={F with G:=fun b=>if b=D then some ys else F.G b}
section
variable {F:Fx} {ad:Nat->Addr} {B:aR} {σ:St} {H:Hp} {μ:Mu} {D:Addr} {ys zs:List V}
theorem Rl.JA(l:Rl F ad B σ H μ)(h:H D=some (.lst ys))(hb:B D)(n:∀(i:Nat) (s:Sl) (c:T),μ[i]?=some s->s.box=some c->ad i≠D):Rl (F.g D ys) ad B σ H μ:=by
 refine⟨l.len,l.slot,l.inj,l.par,l.bc,l.fi,l.old,fun a vs e=>?_⟩;have e':(if a=D then some ys else F.G a)=some vs:=e
 by_cases z:a=D
 ·rw[Li z] at e';cases e';subst z;exact⟨h,hb,n⟩
 ·rw[Lc z] at e';exact l.gh a vs e'
theorem Rl.JF(l:Rl (F.g D ys) ad B σ H μ):H D=some (.lst ys)/\B D/\∀(i:Nat) (s:Sl) (c:T),μ[i]?=some s->s.box=some c->ad i≠D:=l.gh D ys (show (if D=D then some ys else F.G D)=some ys from Li rfl)
theorem Rl.Ck(l:Rl (F.g D ys) ad B σ H μ)(hg:F.G D=none):Rl F ad B σ H μ:=by
 refine⟨l.len,l.slot,l.inj,l.par,l.bc,l.fi,l.old,fun a vs e=>l.gh a vs ?_⟩;show (if a=D then some ys else F.G a)=some vs
 rw[Lc (by rintro rfl;rw[hg] at e;cases e)]
 exact e
theorem Rl.setG(l:Rl (F.g D ys) ad B σ H μ)(h0:F.H0 D=none):Rl (F.g D zs) ad B σ (upd H D (.lst zs)) μ:=by
 obtain⟨g1,g2,g3⟩:=l.JF;have f:Fr B H B (upd H D (.lst zs)):=Fr.set g2;refine⟨l.len,fun i s e=>?_,l.inj,l.par,l.bc,fun b z=>?_,fun b o e n=>?_,fun a vs e=>?_⟩
 ·have k:=l.slot i s e;unfold hZ at k ⊢
  split at k
  ·trivial
  ·obtain⟨v,e1,r1⟩:=k;exact⟨v,e1,r1.fr f⟩
  ·obtain⟨e1,b,z0,p,x⟩:=k;exact⟨e1,b,z0,p,x.of (ai (g3 i _ _ e rfl)) f⟩
  ·obtain⟨e1,b,p,x⟩:=k;exact⟨e1,b,p,x.of (ai (g3 i _ _ e rfl)) f⟩
 ·by_cases z':b=D
  ·subst z';exact⟨_,aq⟩
  ·rw[ai z'];exact l.fi b z
 ·rw[ai (by rintro rfl;have e':F.H0 _=some o:=e;rw[h0] at e';cases e')]
  exact l.old b o e n
 ·have e':(if a=D then some zs else F.G a)=some vs:=e
  by_cases z:a=D
  ·rw[Li z] at e';cases e';subst z;exact⟨aq,g2,g3⟩
  ·rw[Lc z] at e';obtain⟨a1,a2,a3⟩:=l.gh a vs (show (if a=D then some ys else F.G a)=some vs by rw[Lc z];exact e')
   exact⟨by rw[ai z];exact a1,a2,a3⟩
end
namespace Y
noncomputable def Hq:Option (Nat×List T)->Mu->Prop
 |none,_=>True
 |some (j,ls),μ=>cont μ (.br j)=some (.lst ls)
noncomputable def oV(gd:Option (Nat×List T))(own:T->Mu->Option Mu)(dr:Mu->Mu)(ut:UT)(ue:UE)(Q:R->Mu->Prop):List T->List T->Mu->Prop
 |[],acc,μ=>Hq gd μ/\Q (.fr (.lst acc)) μ
 |t::r,acc,μ=>Hq gd μ/\acc.length<sizeLine/\(match own t μ with
  |none=>False
  |some μ1=>ut μ1 fun b μ2=>if b=true then ue μ2 fun rr μ3=>(match rr.d with
    |.tr t'=>oV gd own dr ut ue Q r (acc++[t']) (dr μ3)
    |_=>False) else oV gd own dr ut ue Q r acc (dr μ2))
noncomputable def wV(t:T)(μ:Mu):Option Mu:=some (.tr t::μ)
noncomputable def xl(t:T)(μ:Mu):Option Mu:=match t with
 |.tup [a,b]=>some (.tr a::.tr b::μ)
 |_=>none
noncomputable def Hf(μ:Mu):Mu:=μ.tail
noncomputable def IT(μ:Mu):Mu:=μ.tail.tail
noncomputable def iG(own:T->Mu->Option Mu)(dr:Mu->Mu)(ui:UI)(ut:UT)(ue:UE):UE:=fun μ Q=>ui μ fun items gd μ'=>oV gd own dr ut ue Q items [] μ'
structure vT (K:Qf) (k:Nat) (g:TG) (own:T->Mu->Option Mu) (dr:Mu->Mu) (shF:Fx->Fx) (shA:(Nat->Addr)->Nat->Addr):Prop where
 fK:∀ F,(shF F).K=F.K
 step:∀(F:Fx) (ad:Nat->Addr) (B:aR) (σ:St) (H:Hp) (μ μ1:Mu) (x:V) (t:T) (σ':St) (Q:St->Hp->Prop),F.K=K->Rl F ad B σ H μ->Rep F.K H B x t->own t μ=some μ1->σ'.length=k->(∀ σ1,σ1.length=k->Rl (shF F) (shA ad) B (σ1++σ) H μ1->Q (σ1++σ) H)->g x (σ'++σ) H Q
 back:∀(F:Fx) (ad:Nat->Addr) (B:aR) (σ σ1:St) (H:Hp) (μ:Mu),σ1.length=k->Rl (shF F) (shA ad) B (σ1++σ) H μ->Rl F ad B σ H (dr μ)
 kp:∀(μ μ1 μ2:Mu) (t:T),own t μ=some μ1->Kp μ1 μ2->Kp μ (dr μ2)
theorem vx{α:Type _}{l:List α}(h:l.length=1):∃ y,l=[y]:=by
 rcases l with _|⟨a,_|⟨b,t⟩⟩
 ·cases h
 ·exact⟨a,rfl⟩
 ·cases h
theorem Ak{α:Type _}{l:List α}(h:l.length=2):∃ y z,l=[y,z]:=by
 rcases l with _|⟨a,t⟩
 ·cases h
 ·obtain⟨b,rfl⟩:=vx (Nat.succ.inj h);exact⟨a,b,rfl⟩
theorem HU{α:Type _}{l:List α}(h:l.length=3):∃ x y z,l=[x,y,z]:=by
 rcases l with _|⟨a,t⟩
 ·cases h
 ·obtain⟨b,c,rfl⟩:=Ak (Nat.succ.inj h);exact⟨a,b,c,rfl⟩
theorem JX{α:Type _}{l:List α}(h:l.length=4):∃ w x y z,l=[w,x,y,z]:=by
 rcases l with _|⟨a,t⟩
 ·cases h
 ·obtain⟨b,c,d,rfl⟩:=HU (Nat.succ.inj h);exact⟨a,b,c,d,rfl⟩
theorem lJ:vT K 1 (cV 0) wV Hf Fx.sh Gn where
 fK:=fun F=>rfl
 step:=fun F ad B σ H μ μ1 x t σ' Q hF l r e hk h=>by
  cases e;obtain⟨y,rfl⟩:∃ y,σ'=[y]:=by
   exact vx hk
  exact h [some x] rfl (l.push r)
 back:=fun F ad B σ σ1 H μ hk l=>by
  obtain⟨y,rfl⟩:∃ y,σ1=[y]:=by
   exact vx hk
  exact l.D3
 kp:=fun μ μ1 μ2 t e k=>by cases e;exact k.tail
theorem BI:vT K 2 (Be K 2 (kn (cV 0) (kn (cV 1) zT))) xl IT (fun F=>F.sh.sh) (fun ad=>Gn (Gn ad)) where
 fK:=fun F=>rfl
 step:=fun F ad B σ H μ μ1 x t σ' Q hF l r e hk h=>by
  unfold xl at e
  split at e
  ·rename_i a b;cases e;obtain⟨y,z,rfl⟩:∃ y z,σ'=[y,z]:=by
    exact Ak hk
   obtain⟨_,_,rfl,n,hh,rr⟩:=Rep.tupI r;obtain⟨_,_,rfl,r1,rr⟩:=aj.aO rr;obtain⟨_,_,rfl,r2,rr⟩:=aj.aO rr;obtain rfl:=aj.eV rr;exact⟨_,_,rfl,bL.of hh,rfl,_,_,rfl,_,_,rfl,rfl,h [some _,some _] rfl ((l.push r2).push (F:=F.sh) r1)⟩
  ·cases e
 back:=fun F ad B σ σ1 H μ hk l=>by
  obtain⟨y,z,rfl⟩:∃ y z,σ1=[y,z]:=by
   exact Ak hk
  exact (Rl.D3 (F:=F.sh) l).D3
 kp:=fun μ μ1 μ2 t e k=>by
  unfold xl at e
  split at e
  ·cases e;exact k.tail.tail
  ·cases e
theorem iO{g:TG}{own:T->Mu->Option Mu}{shF:Fx->Fx}{shA:(Nat->Addr)->Nat->Addr}{wi:TI}{ui:UI}{ut:UT}(O:vT K k g own dr shF shA)(hi:RI K wi ui)(ht:RT K tc ut)(he:RE K te ue):RE K (lu wi k g tc te) (iG own dr ui ut ue):=by
 intro F ad B σ H μ Q Qt hF l q kk;refine hi F ad B σ H μ _ _ hF l q fun J H1 μ1 items gd Src l1 f1 k1 it sr so gk q1=>?_;intro D hD;have hnB:=l1.p7 hD;have h0D:=l1.ym hD;have hGD:F.G D=none:=by
  cases q:F.G D with
  |none=>rfl
  |some vs=>have:=(l1.gh D vs q).1;rw[hD] at this;cases this
 have nbx:∀(μ':Mu),Kp μ μ'->∀(i:Nat) (s:Sl) (c:T),μ'[i]?=some s->s.box=some c->B (ad i):=fun μ' k i s c e b=>by
  obtain⟨s',c',e',b'⟩:=k.symm.fwd i s c e b;exact l.own i s' c' e' b'
 refine⟨fun i m ys σ' H'=>m=items.length-i/\i<=items.length/\∃ σ1 μ' acc,σ'=σ1++σ/\σ1.length=k/\Rl (F.g D ys) ad (more B D) σ H' μ'/\aj F.K H' (more B D) ys acc/\Fr B H (more B D) H'/\Kp μ μ'/\(gd=none->Src H' (more B D))/\oV gd own dr ut ue Qt (items.drop i) acc μ',
  ⟨items.length,by simp,LH _,_,μ1,[],rfl,Ln,(l1.new hD).JA aq (.inl rfl) (fun i s c e b z=>hnB (z ▸ nbx μ1 k1 i s c e b)),.nil,f1.trans (Fr.more hD),k1,fun z=>?_,q1⟩,?_⟩
 ·subst z;exact so _ _ _ _ (Fr.more hD) sr
 rintro i m ys σ' H' ⟨rfl,hi',σ1,μ',acc,rfl,hk,l2,ra,f2,k2,s2,q2⟩;have hD2:=l2.JF.1;refine⟨hD2,?_⟩;have src:Hq gd μ'->Src H' (more B D):=fun hg=>by
  cases gd with
  |none=>exact s2 rfl
  |some jl=>obtain⟨j,ls⟩:=jl;exact so.1 _ _ _ _ (l2.Ck hGD) hg
 by_cases hlt:i<items.length
 ·have ei:items[i]?=some items[i]:=KW hlt;rw[LL hlt] at q2;obtain⟨hg,hz,q2⟩:=q2;have sr2:=src hg;obtain⟨go,yl⟩:=it.step H' (more B D) i _ l2.fi sr2 ei;refine .inr ⟨go,by rw[ra.length];exact hz,fun x H3 y=>?_⟩
  obtain⟨sm,rp⟩:=yl x H3 y
  split at q2
  ·exact q2.elim
  ·rename_i μ3 eo;have f3:Fr (more B D) H' (more B D) H3:=Fr.same sm;have hF2:(F.g D ys).K=K:=hF;refine O.step (F.g D ys) ad (more B D) σ H3 μ' μ3 x _ σ1 _ hF2 (l2.same sm) (by rw[hF2];exact rp) eo hk fun σ4 hk4 l4=>?_
   refine ht (shF (F.g D ys)) (shA ad) (more B D) _ H3 μ3 _ _ ((O.fK _).trans hF2) l4 q2 fun b H5 μ5 l5 f5 k5 q5=>?_
   cases b with
   |true =>
    rw[Li rfl] at q5 ⊢;refine he (shF (F.g D ys)) (shA ad) (more B D) _ H5 μ5 _ _ ((O.fK _).trans hF2) l5 q5 fun v H6 r6 μ6 v6 f6 k6 q6=>?_;have l6:=O.back (F.g D ys) ad (more B D) σ σ4 H6 μ6 hk4 v6.rl;refine⟨l6.JF.1,?_⟩;have hv:=v6.hv
    split at q6
    ·rename_i t' e6;rw[e6] at hv;have rv:Rep F.K H6 (more B D) v t':=by have:=hv;unfold Hv at this;rw[O.fK] at this;exact this
     have fa:=(f3.trans f5).trans f6.d;have fs:Fr (more B D) H6 (more B D) (upd H6 D (.lst (ys++[v]))):=Fr.set (.inl rfl);refine⟨items.length-(i+1),by lia,rfl,hlt,σ4,dr μ6,acc++[t'],rfl,hk4,l6.setG h0D,((ra.fr fa).append (.cons rv .nil)).fr fs,(f2.trans fa).trans fs,k2.trans (O.kp μ' μ3 μ6 _ eo (k5.trans k6)),fun z=>?_,q6⟩
     subst z;exact so _ _ _ _ (fa.trans fs) (s2 rfl)
    ·exact q6.elim
   |false =>
    rw[Lc Lg] at q5 ⊢;have l6:=O.back (F.g D ys) ad (more B D) σ σ4 H5 μ5 hk4 l5;have fa:=f3.trans f5;refine⟨items.length-(i+1),by lia,rfl,hlt,σ4,dr μ5,acc,rfl,hk4,l6,ra.fr fa,f2.trans fa,k2.trans (O.kp μ' μ3 μ5 _ eo k5),fun z=>?_,q5⟩
    subst z;exact so _ _ _ _ fa (s2 rfl)
 ·have e:i=items.length:=by lia
  subst e;rw[N1] at q2;obtain⟨hg,q2⟩:=q2;have l3:=l2.Ck hGD;refine .inl ⟨it.stop H' (more B D) (src hg),kk (.ref D) H' (.fr (.lst acc)) μ' ⟨l3.less (fun b z=>.inr z) l.bc (nbx μ' k2) (fun a vs ga=>?_),D,rfl,hnB,h0D,l3,ys,hD2,ra⟩ f2 k2 q2⟩;exact l.gB a vs ga
section
variable {X:Cx} {elt tg iter:Expr} {ifs:List Expr} {ue:UE} {ut:UT} {ui:UI} {pos pos' p2:Pos} {x:Str} {osc scope:Scope} {ON own N:List Str}
theorem kA(S:bS osc ON scope own N)(hosc:X.env.scope=osc)(hON:X.N=ON)(hc:X.calm=true)(ho:own.length=1)(hi:YI X tg iter ui)
  (hg:∀ C s H fp,QG (aE X scope N C s H fp) tg (cV 0)) (ht:∀ C s H fp,BR (aE X scope N C s H fp) ifs ut) (he:∀ C s H fp,YE (aE X scope N C s H fp) elt ue) (hs:autoParam (∀ x,foldedSetIterable iter X.env x=pure x) ℜ3) :
  YE X (.ListComp elt [⟨tg,iter,ifs,0⟩] scope pos) (iG wV Hf ui ut ue):=by
 obtain⟨t,q,r⟩:=hi;have h:=Z.comp (pos:=pos) (tc:=va X.K ut) (te:=uw X.K ue) S hosc hON hc q hg (fun C s H fp=>(ht C s H fp).Bs) (fun C s H fp=>(he C s H fp).Bs) hs;rw[ho] at h;exact⟨_,h,iO lJ r rC sT⟩
theorem rm(K:Qf)(hK:X.K=K)(S:bS osc ON scope own N)(hosc:X.env.scope=osc)(hON:X.N=ON)(hc:X.calm=true)(ho:own.length=2)(hi:YI X tg iter ui)
  (hg:∀ C s H fp,QG (aE X scope N C s H fp) tg (Be K 2 (kn (cV 0) (kn (cV 1) zT)))) (ht:∀ C s H fp,BR (aE X scope N C s H fp) ifs ut) (he:∀ C s H fp,YE (aE X scope N C s H fp) elt ue) (hs:autoParam (∀ x,foldedSetIterable iter X.env x=pure x) ℜ3) :
  YE X (.ListComp elt [⟨tg,iter,ifs,0⟩] scope pos) (iG xl IT ui ut ue):=by
 obtain⟨t,q,r⟩:=hi;subst hK;have h:=Z.comp (pos:=pos) (tc:=va X.K ut) (te:=uw X.K ue) S hosc hON hc q hg (fun C s H fp=>(ht C s H fp).Bs) (fun C s H fp=>(he C s H fp).Bs) hs;rw[ho] at h;exact⟨_,h,iO BI r rC sT⟩
theorem Hc(hN:X.N.Nodup)(hj:X.N[j]?=some x)(hx:Loc X.env.scope x)(S:bS osc ON scope own N)(hosc:X.env.scope=osc)(hON:X.N=ON)(hc:X.calm=true)(ho:own.length=1)(hi:YI X tg iter ui)
  (hg:∀ C s H fp,QG (aE X scope N C s H fp) tg (cV 0)) (ht:∀ C s H fp,BR (aE X scope N C s H fp) ifs ut) (he:∀ C s H fp,YE (aE X scope N C s H fp) elt ue)
  (hsw:autoParam (swapsWith (.ListComp elt [⟨tg,iter,ifs,0⟩] scope p2) (some (.Name x pos')) pos.line X.env=pure true) ℜ0)
  (hf:autoParam (X.fn x=true\/X.env.scope.names.lookup x=some .local) ℜ2) (hs:autoParam (∀ x,foldedSetIterable iter X.env x=pure x) ℜ3) :
  YS X (.Assign [.Name x pos'] (.ListComp elt [⟨tg,iter,ifs,0⟩] scope p2) pos) (kg (iG wV Hf ui ut ue) (gN j)):=by
 obtain⟨t,q,r⟩:=hi;have h:=Z.setC (tc:=va X.K ut) (te:=uw X.K ue) hN hj hx S hosc hON hc q hg (fun C s H fp=>(ht C s H fp).Bs) (fun C s H fp=>(he C s H fp).Bs) hsw hf hs;rw[ho] at h;exact⟨_,h,jf (iO lJ r rC sT) lP⟩
theorem pI:BR X [] (fun μ Q=>Q true μ):=⟨_,Z.pI,fun F ad B σ H μ Q Qt hK l q k=>k true H μ l Fr.refl (Kp.refl μ) q⟩
theorem IZ{c:Expr}(h:YT X c ut):BR X [c] ut:=by obtain⟨t,q,r⟩:=h;exact⟨t,Z.IZ q,r⟩
end
end Y
noncomputable def de(μ:Mu)(j:Nat)(c:T):Mu:=match μ[j]? with
 |some s=>μ.set j (s.put c)
 |none=>μ
namespace Y
section
variable {X:Cx} {a b c e o tg it i:Expr} {es rest:List Expr} {ua ub uc ue uo ui:UE} {uA uB:UT} {us:UA} {pos pos' p p2 p3 apos:Pos} {x:Str} {st:Stmt} {sts xs ys:List Stmt} {u w:US}
noncomputable def gS(uo ui:UE):UG:=fun r μ Q=>match r.d with
 |.tr t=>uo μ fun ro μ1=>ui μ1 fun ri μ2=>(match ro,ri with
  |.br j,.tr (.int k)=>(match (μ2[j]?).bind Sl.box with
   |some (.lst ts)=>(match ie ts.length k with
    |some n=>Q (de μ2 j (.lst (ts.set n t)))
    |none=>False)
   |_=>False)
  |_,_=>False)
 |_=>False
theorem mT(ho:YE X o uo)(hi:YE X i ui)
  (ha:autoParam (∀ v,assign (.Subscript o i pos) X.env v=(do
   let ov <- holding [v] (eval o X.env)
   let iv <- holding [v,ov] (eval i X.env)
   standAt pos
   holding [v,ov,iv] (setItem ov iv v)
   release [v,ov,iv] [])) ℜ3):YG X (.Subscript o i pos) (gS uo ui):=by
 obtain⟨t,q,r⟩:=ho;obtain⟨t',q',r'⟩:=hi;refine⟨_,Z.mT q q' ha,fun F ad B σ H μ v rr B0 H0 Q Qt hF h f q k=>?_⟩;unfold gS at q;have f0:Fr B0 H0 B H:=fun b o h n=>⟨(f b o h n).1,fun z=>(f b o h n).2 (by cases rr<;>first|exact z | (cases v<;>first|exact z|exact .inr z))⟩
 have hv:=h.hv
 split at q
 ·rename_i t0 e0;rw[e0] at hv;refine r F ad B σ H μ _ _ hF h.rl q fun ov H1 r1 μ1 v1 f1 k1 q1=>r' F ad B σ H1 μ1 _ _ hF v1.rl q1 fun iv H2 r2 μ2 v2 f2 k2 q2=>?_
  split at q2
  ·rename_i j kk;have rp:=v2.2;obtain rfl:=Rep.bZ rp;obtain⟨rfl,_⟩:=(v1.hv.fr f2.d k2)
   split at q2
   ·rename_i ts e
    split at q2
    ·rename_i n en
     cases ej:μ2[j]? with
     |none=>rw[ej] at e;cases e
     |some s =>
      rw[ej] at e;have e':s.box=some (.lst ts):=e;have l2:=v2.rl;obtain⟨vs,hl,rs⟩:=((l2.slot j s ej).boxed e').2.2.1;have rv:Rep F.K H2 B v t0:=(show Rep F.K H B v t0 from hv).fr (f1.d.trans f2.d);have l3:=l2.put ej e' (rs.set n rv);show xg (.ref (ad j)) (.int kk) v H2 _;rw[Ap.setRef,hl];simp only;rw[rs.length,en];simp only;unfold de at q2;rw[ej] at q2;exact k ad B σ _ _ l3 ((f0.trans (f1.d.trans f2.d)).trans (Fr.set ((l2.slot j s ej).boxed e').2.1)) q2
    ·exact q2.elim
   ·exact q2.elim
  ·exact q2.elim
 ·exact q.elim
abbrev UM:=Nat->List R->Mu->(R->Mu->Prop)->Prop
noncomputable def Io:Option T->Prop->Prop
 |some (.lst _),p=>p
 |_,_=>False
noncomputable def IB(um:UM)(uo:UE)(us:UA):UE:=fun μ Q=>uo μ fun ro μ1=>match ro with
 |.br j=>Io ((μ1[j]?).bind Sl.box) (us μ1 fun rs μ2=>um j rs μ2 Q)
 |_=>False
noncomputable def RM(K:Qf)(r:V->List V->Hp->VK->Prop)(um:UM):Prop:=∀(F:Fx) (ad:Nat->Addr) (B:aR) (σ:St) (H:Hp) (μ:Mu) (Q:VK) (Qt:R->Mu->Prop) (j:Nat) (s:Sl) (c:T) (xs:List V) (rs:List R),F.K=K->Rl F ad B σ H μ->μ[j]?=some s->s.box=some c->Paired (Hv F ad B H μ) xs rs->um j rs μ Qt ->
 (∀ v H' r μ',Vr F ad B σ H' μ' v r->Fr B H (Bv B v r) H'->Kp μ μ'->Qt r μ'->Q v H')->r (.ref (ad j)) xs H Q
theorem bm(K:Qf)(hK:X.K=K){id:String}{r:V->List V->Hp->VK->Prop}{um:UM}(slot:Slot "list" name id)(hty:typeOf (.builtin id)=pure (.type "method_descriptor"))(hm:vt X id r)(hr:RM X.K r um)(ho:YE X o uo)(ha:YA X (e::es) us)
  (hbase:autoParam (attributeBase o name X.env (eval o X.env)=eval o X.env) ℜ0) (hline:autoParam ((apos.endLine == pos.line)=true) ℜ0) (h:autoParam ((e::es).all cL=true) ℜ0) (hl:autoParam ((e::es).length<30) ℜ1):YE X (.Call (.Attribute o name apos) (e::es) [] pos) (IB um uo us):=by
 obtain⟨t,q,rr⟩:=ho;obtain⟨t',q',r'⟩:=ha;refine⟨_,Z.bm K hK PySem.F.plainAttrs_list slot hty hm q q' hbase hline h hl,fun F ad B σ H μ Q Qt hF l q k=>rr F ad B σ H μ _ _ hF l q fun v H1 r1 μ1 v1 f1 k1 q1=>?_⟩
 split at q1
 ·rename_i j;obtain⟨l1,rfl,s,c,e1,e2⟩:=v1;rw[e1] at q1;have q1':Io s.box _:=q1;rw[e2] at q1';rcases ((l1.slot j s e1).boxed e2).2.2.1.is with ⟨ts,vs,rfl,hl,_⟩|⟨_,_,_,rfl,_⟩
  case inr=>exact q1'.elim
  have q1:=(show us μ1 _ from q1');refine⟨.inl ⟨rfl,vs,bH.of hl⟩,?_⟩;refine r' F ad B σ H1 μ1 _ _ hF l1 q1 fun xs H2 rs μ2 l2 ps f2 k2 q2=>?_;obtain⟨s',c',e3,e4⟩:=k2.fwd j s _ e1 e2;exact hr F ad B σ H2 μ2 _ _ j s' c' xs rs hF l2 e3 e4 ps q2 fun v H3 r3 μ3 v3 f3 k3 q3=>k v H3 r3 μ3 v3 ((f1.d.trans f2).trans f3) ((k1.trans k2).trans k3) q3
 ·exact q1.elim
noncomputable def gW:UM:=fun j rs μ Q=>match rs with
 |[.tr t]=>(match (μ[j]?).bind Sl.box with
  |some (.lst ts)=>ts.length<sizeLine/\Q (.tr .aC) (de μ j (.lst (ts++[t])))
  |_=>False)
 |_=>False
theorem fW:RM K sQ gW:=by
 intro F ad B σ H μ Q Qt j s c xs rs hF l e b ps q k;unfold gW at q
 split at q
 ·obtain⟨_,_,rfl,h,ps⟩:=Paired.aO ps;obtain rfl:=Paired.eV ps;rw[e] at q;have q':(match s.box with|some (.lst ts)=>ts.length<sizeLine/\Qt (.tr .aC) (de μ j (.lst (ts++[_])))|_=>False):=q
  rw[b] at q';rcases ((l.slot j s e).boxed b).2.2.1.is with ⟨ts,vs,rfl,hl,rv⟩|⟨_,_,_,rfl,_⟩
  case inr=>exact q'.elim
  simp only at q';refine⟨_,_,_,rfl,rfl,hl,by rw[rv.length];exact q'.1,?_⟩
  have l3:=l.put e b (rv.append (.cons (aL h) .nil));have q2:=q'.2;unfold de at q2;rw[e] at q2;exact k _ _ (.tr .aC) _ (Vr.flat l3 .aC) (Fr.set ((l.slot j s e).boxed b).2.1) (Kp.set e b (Sl.iP b)) q2
 ·exact q.elim
end
end Y
noncomputable def qm:List Bool->List V->List Addr
 |true::md,.ref a::vs=>a::qm md vs
 |_::md,_::vs=>qm md vs
 |_,_=>[]
noncomputable def gF(K:Qf)(H:Hp)(B:aR):List Bool->List V->List T->Prop
 |[],[],[]=>True
 |false::md,v::vs,t::ts=>Rep K H B v t/\gF K H B md vs ts
 |true::md,v::vs,t::ts=>(∃ a,v=.ref a/\B a/\Bx K H B a t)/\gF K H B md vs ts
 |_,_,_=>False
abbrev dG:=List T->(R->List T->Prop)->Prop
variable{tsp:dG}
noncomputable def G7(K:Qf)(H H':Hp)(B:aR)(as:List Addr)(v:V)(outs:List T):R->Prop
 |.tr t=>Rep K H' B v t/\Paired (Bx K H' B) as outs
 |.fr c=>∃ a,v=.ref a/\H a=none/\¬ B a/\Bx K H' (more B a) a c/\Paired (Bx K H' (more B a)) as outs
 |.br _=>False
noncomputable def spT(K:Qf)(md:List Bool)(tsp:dG):Sp:=fun vs H Q _=>∃(B:aR) (args:List T) (Qt:R->List T->Prop),gF K H B md vs args/\(∀ b,B b->∃ o,H b=some o)/\(qm md vs).Nodup/\tsp args Qt /\
 ∀ v H' r outs,Qt r outs->(∀ b o,H b=some o->b∉qm md vs->H' b=some o)->G7 K H H' B (qm md vs) v outs r->Q v H'
theorem gF.len:∀{md:List Bool} {vs:List V} {ts:List T},gF K H B md vs ts->vs.length=md.length/\ts.length=md.length
 |[],[],[],_=>⟨rfl,rfl⟩
 |false::md,v::vs,t::ts,h=>⟨L0 (·+1) (gF.len h.2).1,L0 (·+1) (gF.len h.2).2⟩
 |true::md,v::vs,t::ts,h=>⟨L0 (·+1) (gF.len h.2).1,L0 (·+1) (gF.len h.2).2⟩
theorem gF.get:∀{md:List Bool} {vs:List V} {ts:List T} {i:Nat} {b:Bool},gF K H B md vs ts->md[i]?=some b->∃ v t,vs[i]?=some v/\ts[i]?=some t/\(if b=true then ∃ a,v=.ref a/\B a/\Bx K H B a t else Rep K H B v t)
 |[],[],[],i,b,_,e=>by simp at e
 |c::md,[],_,_,_,h,_=>by cases c<;>exact h.elim
 |c::md,v::vs,[],_,_,h,_=>by cases c<;>exact h.elim
 |c::md,v::vs,t::ts,0,b,h,e=>by
  have e':c=b:=by simpa using e
  subst e'
  cases c with
  |false=>exact⟨v,t,rfl,rfl,by rw[Lc Lg];exact h.1⟩
  |true=>exact⟨v,t,rfl,rfl,by rw[Li rfl];exact h.1⟩
 |c::md,v::vs,t::ts,i+1,b,h,e=>by
  have h2:gF K H B md vs ts:=by cases c<;>exact h.2
  obtain⟨v',t',e1,e2,q⟩:=gF.get h2 (show md[i]?=some b by simpa using e)
  exact⟨v',t',by simpa using e1,by simpa using e2,q⟩
theorem iU:∀{md:List Bool} {vs:List V} {i:Nat} {a:Addr},md[i]?=some true->vs[i]?=some (.ref a)->a∈qm md vs
 |[],_,_,_,e,_=>by simp at e
 |c::md,[],_,_,_,e=>by simp at e
 |c::md,v::vs,0,a,e1,e2=>by
  have e1':c=true:=by simpa using e1
  have e2':v=.ref a:=by simpa using e2
  subst e1' e2';exact K_
 |c::md,v::vs,i+1,a,e1,e2=>by
  have:=iU (md:=md) (vs:=vs) (i:=i) (a:=a) (by simpa using e1) (by simpa using e2)
  cases c with
  |false=>exact this
  |true=>cases v<;>first|exact KZ _ this|exact this
theorem rD:∀{md:List Bool} {vs:List V} {i j:Nat} {a:Addr},(qm md vs).Nodup->md[i]?=some true->md[j]?=some true->vs[i]?=some (.ref a)->vs[j]?=some (.ref a)->i=j
 |[],_,_,_,_,_,e,_,_,_=>by simp at e
 |c::md,[],_,_,_,_,_,_,e,_=>by simp at e
 |c::md,v::vs,i,j,a,nd,e1,e2,e3,e4=>by
  have tl:(qm md vs).Nodup:=by
   cases c with
   |false=>exact nd
   |true=>cases v<;>first|exact (LP.mp nd).2|exact nd
  cases i with
  |zero =>
   have e1':c=true:=by simpa using e1
   have e3':v=.ref a:=by simpa using e3
   subst e1' e3'
   cases j with
   |zero=>rfl
   |succ j=>exact absurd (iU (md:=md) (vs:=vs) (i:=j) (a:=a) (by simpa using e2) (by simpa using e4)) (LP.mp nd).1
  |succ i=>cases j with
   |zero =>
    have e1':c=true:=by simpa using e2
    have e3':v=.ref a:=by simpa using e4
    subst e1' e3';exact absurd (iU (md:=md) (vs:=vs) (i:=i) (a:=a) (by simpa using e1) (by simpa using e3)) (LP.mp nd).1
   |succ j=>exact L0 (·+1) (rD tl (by simpa using e1) (by simpa using e2) (by simpa using e3) (by simpa using e4))
noncomputable def cH:List Bool->Nat->Mu->List T
 |[],_,_=>[]
 |true::md,i,μ=>(match μ[i]? with
  |some (.pb c)=>c::cH md (i+1) μ
  |_=>cH md (i+1) μ)
 |false::md,i,μ=>cH md (i+1) μ
theorem Ah{P:Addr->T->Prop}:∀{md:List Bool} {vs:List V} {i:Nat},vs.length=md.length->(∀ n,md[n]?=some true->∃ a c,vs[n]?=some (.ref a)/\μ[i+n]?=some (.pb c)/\P a c)->Paired P (qm md vs) (cH md i μ)
 :=by
  intro md
  induction md with
  |nil =>
    intro vs i hl h
    cases vs with
    |nil=>exact .nil
    |cons v vs=>cases hl
  |cons b md ih =>
    intro vs i hl h
    cases vs with
    |nil=>cases hl
    |cons v vs =>
      have rest:=ih (vs:=vs) (i:=i+1) (Nat.succ.inj hl) fun n e=>by
        obtain⟨a,c,e1,e2,p⟩:=h (n+1) e;exact⟨a,c,e1,by rw[MM,Nat.add_comm 1 n];exact e2,p⟩
      cases b with
      |false=>exact rest
      |true =>
        obtain⟨a,c,e1,e2,p⟩:=h 0 rfl;have e1':v=.ref a:=Option.some.inj e1;subst e1';rw[NJ] at e2;show Paired P (a::qm md vs) (match μ[i]? with|some (.pb c)=>c::cH md (i+1) μ|_=>cH md (i+1) μ)
        rw[e2];exact .cons p rest
noncomputable def startM:List Bool->List T->Nat->Mu
 |b::md,t::ts,n=>(if b=true then .pb t else .tr t)::startM md ts (n-1)
 |_,_,n=>List.replicate n .un
noncomputable def yF(md:List Bool)(Qt:R->List T->Prop):Ed where
 nx:=fun μ=>Qt (.tr .aC) (cH md 0 μ)
 rt:=fun r μ=>match r with
  |.tr t=>Qt (.tr t) (cH md 0 μ)
  |.fr c=>Qt (.fr c) (cH md 0 μ)
  |.br i=>(match μ[i]? with
   |some (.bx c)=>Qt (.fr c) (cH md 0 μ)
   |_=>False)
theorem jC:∀{md:List Bool} {ts:List T} {n:Nat},ts.length=md.length->md.length<=n->(startM md ts n).length=n
 |[],[],n,_,_=>Ln
 |b::md,t::ts,n,h,hn=>by
  cases n with
  |zero=>simp at hn
  |succ n=>exact L0 (·+1) (jC (by simpa using h) (by simpa using hn))
theorem gH:∀{md:List Bool} {ts:List T} {n i:Nat} {s:Sl},(startM md ts n)[i]?=some s->s=.un\/∃ b t,md[i]?=some b/\ts[i]?=some t/\s=(if b=true then .pb t else .tr t)
 |[],ts,n,i,s,e=>by
  have e':(List.replicate n Sl.un)[i]?=some s:=by cases ts<;>exact e
  rw[Nd] at e'
  split at e'
  ·exact .inl (Option.some.inj e').symm
  ·cases e'
 |b::md,[],n,i,s,e=>by
  have e':(List.replicate n Sl.un)[i]?=some s:=e;rw[Nd] at e'
  split at e'
  ·exact .inl (Option.some.inj e').symm
  ·cases e'
 |b::md,t::ts,n,0,s,e=>.inr ⟨b,t,rfl,rfl,by have e':some (if b=true then Sl.pb t else .tr t)=some s:=e;exact (Option.some.inj e').symm⟩
 |b::md,t::ts,n,i+1,s,e=>by
  rcases gH (md:=md) (ts:=ts) (n:=n-1) (i:=i) (s:=s) (by simpa[startM] using e) with h|⟨b',t',h1,h2,h3⟩
  ·exact .inl h
  ·exact .inr ⟨b',t',by simpa using h1,by simpa using h2,h3⟩
theorem kP:∀{md:List Bool} {ts:List T} {n i:Nat} {b:Bool} {t:T},md[i]?=some b->ts[i]?=some t->(startM md ts n)[i]?=some (if b=true then .pb t else .tr t)
 |[],_,_,_,_,_,e,_=>by simp at e
 |b::md,[],_,_,_,_,_,e=>by simp at e
 |b::md,t::ts,n,0,b',t',e1,e2=>by
  have e1':b=b':=by simpa using e1
  have e2':t=t':=by simpa using e2
  subst e1' e2';rfl
 |b::md,t::ts,n,i+1,b',t',e1,e2=>by
  have:=kP (md:=md) (ts:=ts) (n:=n-1) (i:=i) (b:=b') (t:=t') (by simpa using e1) (by simpa using e2)
  simpa[startM] using this
noncomputable def qB(vs:List V)(i:Nat):Addr:=match vs[i]? with
 |some (.ref a)=>a
 |_=>0
noncomputable def HF(md:List Bool)(vs:List V)(i:Nat):Option Addr:=match md[i]?,vs[i]? with
 |some true,some (.ref a)=>some a
 |_,_=>none
theorem qI(h:HF md vs i=some a):md[i]?=some true/\vs[i]?=some (.ref a):=by
 unfold HF at h
 split at h
 ·rename_i e1 e2;cases h;exact⟨e1,e2⟩
 ·cases h
theorem yd(h1:md[i]?=some true)(h2:vs[i]?=some (.ref a)):HF md vs i=some a:=by
 unfold HF;rw[h1,h2]
noncomputable def Ba(K:Qf)(H:Hp)(md:List Bool)(vs:List V)(B:aR)(bh:∀ b,B b->∃ o,H b=some o):Fx:=⟨K,H,HF md vs,B,bh,fun _=>none⟩
theorem wj{args:List T}(ag:gF K H B md vs args)(bh:∀ b,B b->∃ o,H b=some o)(nd:(qm md vs).Nodup)(hN:md.length<=N.length):
  Rl (Ba K H md vs B bh) (qB vs) B (start N vs) H (startM md args N.length):=by
 obtain⟨l1,l2⟩:=ag.len;have sget:∀ i v,vs[i]?=some v->(start N vs)[i]?=some (some v):=fun i v e=>by
  have hi:=(Ll.mp e).1;unfold start;rw[MQ (by simpa using hi),Lr,e];rfl
 refine⟨?_,fun i s e=>?_,fun i j s u c d e1 e2 b1 b2 q=>?_,fun i a p=>?_,fun b z=>z,bh,fun b o e n=>e,fun a ws ga=>by cases ga⟩
 ·rw[jC l2 hN];unfold start;rw[KY,Lb,Ln];lia
 ·rcases gH e with rfl|⟨b,t,h1,h2,rfl⟩
  ·trivial
  ·obtain⟨v,t',e1,e2,q⟩:=ag.get h1;rw[h2] at e2;cases e2
   cases b with
   |false =>
    rw[Lc Lg] at q;rw[Lc Lg];exact⟨v,sget i v e1,q⟩
   |true =>
    rw[Li rfl] at q;rw[Li rfl];obtain⟨a,rfl,hb,x⟩:=q;have ea:qB vs i=a:=by unfold qB;rw[e1]
    show _/\_/\_/\_;rw[ea];exact⟨sget i _ e1,hb,yd h1 e1,x⟩
 ·have one:∀{i:Nat} {s:Sl} {c:T},(startM md args N.length)[i]?=some s->s.box=some c->md[i]?=some true/\∃ a,vs[i]?=some (.ref a)/\qB vs i=a:=fun {i s c} e b=>by
   rcases gH e with rfl|⟨b',t,h1,h2,rfl⟩
   ·cases b
   ·cases b' with
    |false=>rw[Lc Lg] at b;cases b
    |true =>
     obtain⟨v,t',e1,e2,q⟩:=ag.get h1;rw[Li rfl] at q;obtain⟨a,rfl,_⟩:=q;exact⟨h1,a,e1,by unfold qB;rw[e1]⟩
  obtain⟨m1,a1,v1,z1⟩:=one e1 b1;obtain⟨m2,a2,v2,z2⟩:=one e2 b2;rw[z1,z2] at q;subst q;exact rD nd m1 m2 v1 v2
 ·obtain⟨h1,h2⟩:=qI p;obtain⟨v,t',e1,e2,q⟩:=ag.get h1;refine⟨⟨t',?_⟩,by unfold qB;rw[h2]⟩
  have:=kP (n:=N.length) h1 e2;rw[Li rfl] at this;exact this
noncomputable def t7(K:Qf)(f:Addr)(cdv:Value):Prop:=∃(o:Obj) (fd:FuncData),K.lookup f=some o/\o.data=.func fd/\fd.code=cdv
theorem ow{N ps:List Str}{f:Addr}(F:CK K x x st f fd)(S:ar N ps (aa st))(md:List Bool)(hm:md.length=ps.length)(hN:md.length<=N.length)
  (hbody:∀(args:List T) (Qt:R->List T->Prop),args.length=ps.length->tsp args Qt->∀(cdv:Value) (A:Around) (outer:List Env) (s:Shared) (H:Hp) (E:XK),bG k (A.deeper (envOfC x (aa st) s.heap.objs.size f cdv))->t7 K f cdv ->
   ∃ us,YB (lL aX P w K mg base N x (aa st) f cdv A outer s H E).Dr (bP st) us/\us (yF md Qt) (startM md args N.length)):dZ P w K mg base aX (k+1) f fd ps (spT K md tsp):=by
 obtain⟨oc,od,kV,doc,pm,an,cdv,ct,osl,rfl,lk,gJ⟩:=F.ex;refine Gw (CX:=aX) lk gJ S (fun vs H Q E h=>?_) (fun A outer s H vs Q E hr h=>?_)
 ·obtain⟨B,args,Qt,ag,_⟩:=h;rw[ag.len.1,hm]
 ·obtain⟨B,args,Qt,ag,bh,nd,ht,fin⟩:=h;obtain⟨us,⟨t,q,r⟩,hu⟩:=hbody args Qt (by rw[ag.len.2,hm]) ht cdv A outer s H E hr ⟨_,_,lk,rfl,rfl⟩
  refine⟨t,q.h.Dr,?_⟩;have l0:=wj (N:=N) ag bh nd hN;have outs:∀ ad' B' σ' H' μ' (B2:aR),Rl (Ba K H md vs B bh) ad' B' σ' H' μ'->(∀ b,B2 b->B' b)->Paired (Bx K H' B2) (qm md vs) (cH md 0 μ'):=fun ad' B' σ' H' μ' B2 l hB=>by
   refine Ah (ag.len.1) fun n e=>?_;obtain⟨v,t',e1,e2,q⟩:=ag.get e;rw[Li rfl] at q;obtain⟨a,rfl,_⟩:=q;obtain⟨⟨c,hc⟩,ha⟩:=l.par n a (yd e e1);have sl:=l.slot n _ hc;refine⟨a,c,e1,by rw[M9];exact hc,?_⟩
   rw[<- ha];exact (sl.2.2.2).of rfl (Fr.less hB)
  have keep:∀ ad' B' σ' H' μ',Rl (Ba K H md vs B bh) ad' B' σ' H' μ'->∀ b o,H b=some o->b∉qm md vs->H' b=some o:=fun ad' B' σ' H' μ' l b o e n=>l.old b o e fun i z=>n (iU (qI z).1 (qI z).2);refine r (Ba K H md vs B bh) _ _ (qB vs) B (start N vs) H _ rfl l0 hu ⟨fun ad' B' σ' H' μ' l _ q=>?_,fun ad' B' σ' H' μ' v rr h q=>?_,fun _ _ _ _ _ _ _ z=>z.elim,fun _ _ _ _ _ _ _ z=>z.elim⟩
  ·exact fin .aC H' (.tr .aC) _ q (keep _ _ _ _ _ l) ⟨.aC,outs _ _ _ _ _ _ l l.bc⟩
  ·cases rr with
   |tr t=>exact fin v H' (.tr t) _ q (keep _ _ _ _ _ h.1) ⟨(show Rep K H' B' v t from h.2).fr (Fr.less h.1.bc),outs _ _ _ _ _ _ h.1 h.1.bc⟩
   |fr c =>
    obtain⟨l,a,rfl,n,h0,l2,x⟩:=h;have sub:∀ b,more B a b->more B' a b:=fun b z=>z.imp id (l.bc b);exact fin _ H' (.fr c) _ q (keep _ _ _ _ _ l) ⟨a,rfl,h0,fun z=>n (l.bc a z),x.of rfl (Fr.less sub),outs _ _ _ _ _ _ l2 sub⟩
   |br i =>
    have q':(match μ'[i]? with|some (.bx c)=>Qt (.fr c) (cH md 0 μ')|_=>False):=q
    obtain⟨l,rfl,s',c',e1,e2⟩:=h
    split at q'
    ·rename_i c ec;have sl:=l.slot i _ ec;have sub:∀ b,more B (ad' i) b->B' b:=fun b z=>z.elim (fun z=>by rw[z];exact sl.2.1) (l.bc b)
     refine fin _ H' (.fr c) _ q' (keep _ _ _ _ _ l) ⟨ad' i,rfl,sl.2.2.1,fun z=>?_,(sl.2.2.2.2).of rfl (Fr.less sub),outs _ _ _ _ _ _ l sub⟩;obtain⟨o,e⟩:=bh _ z;have:H (ad' i)=none:=sl.2.2.1;rw[this] at e;cases e
    ·exact q'.elim
theorem HasFn.G1{ps:List Str}(F:HasFn K mg x st ps)(S:ar N ps (aa st))(md:List Bool)(hm:md.length=ps.length)(hN:md.length<=N.length)
  (hbody:∀(args:List T) (Qt:R->List T->Prop),args.length=ps.length->tsp args Qt->∀(f:Addr) (cdv:Value) (A:Around) (outer:List Env) (s:Shared) (H:Hp) (E:XK),bG k (A.deeper (envOfC x (aa st) s.heap.objs.size f cdv))->mg x=some (.ref f)->t7 K f cdv ->
   ∃ us,YB (lL aX P w K mg base N x (aa st) f cdv A outer s H E).Dr (bP st) us/\us (yF md Qt) (startM md args N.length)):ae P w K mg base aX (k+1) x ps (spT K md tsp):=by
 obtain⟨f,fd,F1,bnd,m⟩:=F.ex;exact⟨f,fd,m,F1.kp,bnd,ow F1 S md hm hN fun args Qt hl h cdv A outer s H E hr c=>hbody args Qt hl h f cdv A outer s H E hr m c⟩
theorem HasFn.gC{ps:List Str}(F:HasFn K mg x st ps)(S:ar N ps (aa st))(md:List Bool)(hm:md.length=ps.length)(hN:md.length<=N.length)
  (hbody:∀(args:List T) (Qt:R->List T->Prop),args.length=ps.length->tsp args Qt->∀(f:Addr) (cdv:Value) (A:Around) (outer:List Env) (s:Shared) (H:Hp) (E:XK),bG k (A.deeper (envOfC x (aa st) s.heap.objs.size f cdv)) ->
   ∃ us,YB (lL aX P w K mg base N x (aa st) f cdv A outer s H E).Dr (bP st) us/\us (yF md Qt) (startM md args N.length)):ae P w K mg base aX (k+1) x ps (spT K md tsp):=
 F.G1 S md hm hN fun args Qt hl h f cdv A outer s H E hr _ _=>hbody args Qt hl h f cdv A outer s H E hr
noncomputable def CJ(μ:Mu):List Bool->List R->Option (List T)
 |[],[]=>some []
 |false::md,r::rs=>(match cont μ r,CJ μ md rs with
  |some t,some ts=>some (t::ts)
  |_,_=>none)
 |true::md,.br j::rs=>(match cont μ (.br j),CJ μ md rs with
  |some t,some ts=>some (t::ts)
  |_,_=>none)
 |_,_=>none
noncomputable def oi:List Bool->List R->List Nat
 |true::md,.br j::rs=>j::oi md rs
 |_::md,_::rs=>oi md rs
 |_,_=>[]
noncomputable def pw:List Bool->List R->List Nat
 |false::md,.br j::rs=>j::pw md rs
 |_::md,_::rs=>pw md rs
 |_,_=>[]
noncomputable def oC:T->Bool
 |.lst ts=>ts.all aN
 |.ig _ ts=>ts.all aN
 |t=>aN t
noncomputable def kT:R->Bool
 |.tr t=>aN t
 |.fr c=>oC c
 |.br _=>false
noncomputable def putAll:List Nat->List T->Mu->Mu
 |j::js,c::cs,μ=>putAll js cs (de μ j c)
 |_,_,μ=>μ
theorem t4(h:i≠j):(de μ j c)[i]?=μ[i]?:=by
 unfold de;split
 ·rw[LO (Ne.symm h)]
 ·rfl
theorem B5{s:Sl}(e:μ[j]?=some s):(de μ j c)[j]?=some (s.put c):=by
 unfold de;rw[e];exact LK (Ll.mp e).1
theorem vG:(de μ j c).length=μ.length:=by
 unfold de;split
 ·exact LV
 ·rfl
theorem jB:∀{js:List Nat} {cs:List T} {μ:Mu},(putAll js cs μ).length=μ.length
 |[],_,_=>rfl
 |_::_,[],_=>rfl
 |j::js,c::cs,μ=>(jB (js:=js)).trans vG
theorem e8:∀{js:List Nat} {cs:List T} {μ:Mu} {i:Nat},i∉js->(putAll js cs μ)[i]?=μ[i]?
 |[],_,_,_,_=>rfl
 |_::_,[],_,_,_=>rfl
 |j::js,c::cs,μ,i,h=>(e8 (js:=js) (fun z=>h (KZ _ z))).trans (t4 fun z=>h (z ▸ K_))
theorem dy{P:Addr->T->Prop}:∀{js:List Nat} {cs:List T} {μ:Mu} {i:Nat} {s:Sl},js.Nodup->Paired P (js.map ad) cs->i∈js->μ[i]?=some s->∃ c,(putAll js cs μ)[i]?=some (s.put c)/\P (ad i) c
 |[],_,_,_,_,_,_,h,_=>by cases h
 |j::js,c::cs,μ,i,s,nd,.cons p ps,h,e=>by
  rw[LP] at nd;by_cases z:i=j
  ·subst z;refine⟨c,?_,p⟩;show (putAll js cs (de μ i c))[i]?=_;rw[e8 nd.1];exact B5 e
  ·rcases Le.mp h with z'|z'
   ·exact absurd z' z
   ·exact dy (js:=js) nd.2 ps z' (by rw[t4 z];exact e)
theorem Rl.call{B2:aR}{js:List Nat}{outs:List T}(l:Rl F ad B σ H μ)(hb:∀ j∈js,∃(s:Sl) (c:T),μ[j]?=some s/\s.box=some c)(nd:js.Nodup)
  (keep:∀ b o,H b=some o->b∉js.map ad->H' b=some o) (sB:∀ b,B b->B2 b) (nB:∀ b o,H b=some o->¬ B b->¬ B2 b) (tB:∀ b,B2 b->¬ B b->∃ o,H' b=some o) (ps:Paired (Bx F.K H' B2) (js.map ad) outs) :
  Rl F ad B2 σ H' (putAll js outs μ)/\Kp μ (putAll js outs μ)/\Fr B H B2 H':=by
 have inB:∀ b∈js.map ad,B b:=fun b hb'=>by
  obtain⟨j,hj,rfl⟩:=L6.mp hb';obtain⟨s,c,e,q⟩:=hb j hj;exact l.own j s c e q
 have f:Fr B H B2 H':=fun b o e n=>⟨keep b o e fun z=>n (inB b z),nB b o e n⟩;have cases':∀ i s,(putAll js outs μ)[i]?=some s->(i∉js/\μ[i]?=some s)\/(i∈js/\∃ s0 c0 c,μ[i]?=some s0/\s0.box=some c0/\s=s0.put c/\Bx F.K H' B2 (ad i) c):=fun i s e=>by
  by_cases z:i∈js
  ·obtain⟨s0,c0,e0,q0⟩:=hb i z;obtain⟨c,e1,p⟩:=dy nd ps z e0;rw[e1] at e;exact .inr ⟨z,s0,c0,c,e0,q0,(Option.some.inj e).symm,p⟩
  ·rw[e8 z] at e;exact .inl ⟨z,e⟩
 have boxOld:∀(i:Nat) (s:Sl) (c:T),(putAll js outs μ)[i]?=some s->s.box=some c->∃(s0:Sl) (c0:T),μ[i]?=some s0/\s0.box=some c0:=fun i s c e b=>by
  rcases cases' i s e with ⟨_,e'⟩|⟨_,s0,c0,_,e0,q0,_⟩
  ·exact⟨s,c,e',b⟩
  ·exact⟨s0,c0,e0,q0⟩
 have ne:∀(i:Nat) (s:Sl) (c:T),i∉js->μ[i]?=some s->s.box=some c->ad i∉js.map ad:=fun i s c z e b hm=>by
  obtain⟨j,hj,q⟩:=L6.mp hm;obtain⟨s0,c0,e0,q0⟩:=hb j hj;exact z (l.inj i j s s0 c c0 e e0 b q0 q.symm ▸ hj)
 refine⟨⟨by rw[jB];exact l.len,fun i s e=>?_,fun i j s u c d e1 e2 b1 b2 q=>?_,fun i a p=>?_,fun b z=>sB b (l.bc b z),fun b z=>?_,fun b o e n=>?_,fun a ws ga=>?_⟩,fun i=>?_,f⟩
 ·rcases cases' i s e with ⟨z,e'⟩|⟨z,s0,c0,c,e0,q0,rfl,x⟩
  ·have k:=l.slot i s e';unfold hZ at k ⊢
   split at k
   ·trivial
   ·obtain⟨v,e1,r1⟩:=k;exact⟨v,e1,r1.fr f⟩
   ·obtain⟨e1,b,z0,p,x⟩:=k;obtain⟨o,eo⟩:=x.fi;exact⟨e1,sB _ b,z0,p,x.of ((keep _ o eo (ne i _ _ z e' rfl)).trans eo.symm) f⟩
   ·obtain⟨e1,b,p,x⟩:=k;obtain⟨o,eo⟩:=x.fi;exact⟨e1,sB _ b,p,x.of ((keep _ o eo (ne i _ _ z e' rfl)).trans eo.symm) f⟩
  ·have k:=l.slot i s0 e0
   cases s0 with
   |un=>cases q0
   |tr t=>cases q0
   |bx d=>exact⟨k.1,sB _ k.2.1,k.2.2.1,k.2.2.2.1,x⟩
   |pb d=>exact⟨k.1,sB _ k.2.1,k.2.2.1,x⟩
 ·obtain⟨s1,c1,g1,g2⟩:=boxOld i s c e1 b1;obtain⟨s2,c2,g3,g4⟩:=boxOld j u d e2 b2;exact l.inj i j s1 s2 c1 c2 g1 g3 g2 g4 q
 ·obtain⟨⟨c,e⟩,ha⟩:=l.par i a p;refine⟨?_,ha⟩;by_cases z:i∈js
  ·obtain⟨c',e1,_⟩:=dy nd ps z e;exact⟨c',e1⟩
  ·exact⟨c,by rw[e8 z];exact e⟩
 ·by_cases zb:B b
  ·obtain⟨o,e⟩:=l.fi b zb;by_cases z2:b∈js.map ad
   ·obtain⟨j,hj,rfl⟩:=L6.mp z2;obtain⟨s0,c0,e0,q0⟩:=hb j hj;obtain⟨c,_,x⟩:=dy nd ps hj e0;exact x.fi
   ·exact⟨o,keep b o e z2⟩
  ·exact tB b z zb
 ·have e2:=l.old b o e n;refine keep b o e2 fun hm=>?_;obtain⟨j,hj,rfl⟩:=L6.mp hm;obtain⟨s0,c0,e0,q0⟩:=hb j hj;rcases ((l.slot j s0 e0).boxed q0).2.2.2 with z|z
  ·exact n j z
  ·rw[z] at e;cases e
 ·obtain⟨g1,g2,g3⟩:=l.gh a ws ga;refine⟨keep a _ g1 fun hm=>?_,sB a g2,fun i s c e b=>?_⟩
  ·obtain⟨j,hj,q⟩:=L6.mp hm;obtain⟨s0,c0,e0,q0⟩:=hb j hj;exact g3 j s0 c0 e0 q0 q
  ·obtain⟨s0,c0,e0,q0⟩:=boxOld i s c e b;exact g3 i s0 c0 e0 q0
 ·by_cases z:i∈js
  ·obtain⟨s0,c0,e0,q0⟩:=hb i z;obtain⟨c,e1,_⟩:=dy nd ps z e0;rw[e0,e1];show (s0.box).isSome=((s0.put c).box).isSome;rw[q0,Sl.iP q0];rfl
  ·rw[e8 z]
theorem GU(l:Rl F ad B σ H μ)(ro:List Nat):∀{md:List Bool} {xs:List V} {rs:List R} {args:List T},Paired (Hv F ad B H μ) xs rs->CJ μ md rs=some args->(∀ j∈pw md rs,j∈ro)->(∀ j∈oi md rs,j∉ro) ->
  (∀ j∈ro,∃(s:Sl) (c:T),μ[j]?=some s/\s.box=some c) ->
  gF F.K H (fun b=>B b/\∀ j∈ro,b≠ad j) md xs args/\qm md xs=(oi md rs).map ad/\∀ j∈oi md rs,∃(s:Sl) (c:T),μ[j]?=some s/\s.box=some c:=by
 intro md
 induction md with
 |nil =>
  intro xs rs args p e _ _ _
  cases p with
  |nil=>cases e;exact⟨trivial,rfl,fun j h=>by cases h⟩
  |cons h p=>cases e
 |cons bb md ih =>
  intro xs rs args pp e h1 h2 h3
  cases pp with
  |nil=>cases bb<;>cases e
  |cons h p =>
   rename_i x r xs2 rs
   cases bb with
   |false =>
    unfold CJ at e
    split at e
    ·rename_i t ts e1 e2;cases e;have sub:∀ j∈pw md rs,j∈ro:=fun j hj=>h1 j (by cases r<;>first|exact hj|exact KZ _ hj)
     obtain⟨g1,g2,g3⟩:=ih p e2 sub h2 h3;refine⟨⟨?_,g1⟩,?_,g3⟩
     ·cases r with
      |tr t' =>
       have e1':t'=t:=Option.some.inj e1;subst e1';exact (show Rep F.K H B x t' from h).fr (Fr.less fun _ z=>z.1)
      |br j =>
       obtain⟨rfl,s,c,q1,q2⟩:=h;have e1':(μ[j]?).bind Sl.box=some t:=e1;rw[q1] at e1';have bx:=((l.slot j s q1).boxed (c:=t) e1').2.2.1;exact (bx.of rfl (Fr.less fun _ z=>z.1)).rep fun z=>z.2 j (h1 j K_) rfl
      |fr c=>exact h.elim
     ·show qm (false::md) (_::_)=_;rw[show oi (false::md) (r::rs)=oi md rs by cases r<;>rfl]
      exact g2
    ·cases e
   |true =>
    cases r with
    |tr t=>cases e
    |fr c=>cases e
    |br j =>
     unfold CJ at e
     split at e
     ·rename_i t ts e1 e2;cases e;obtain⟨g1,g2,g3⟩:=ih p e2 h1 (fun i hi=>h2 i (KZ _ hi)) h3;obtain⟨rfl,s,c,q1,q2⟩:=h;have e1':(μ[j]?).bind Sl.box=some t:=e1;rw[q1] at e1';have bx:=(l.slot j s q1).boxed (c:=t) e1';refine⟨⟨⟨ad j,rfl,⟨bx.2.1,fun i hi z=>?_⟩,bx.2.2.1.of rfl (Fr.less fun _ z=>z.1)⟩,g1⟩,L0 (ad j::·) g2,fun i hi=>?_⟩
      ·obtain⟨s',c',q3,q4⟩:=h3 i hi;have:=l.inj j i s s' t c' q1 q3 e1' q4 z;subst this;exact h2 j K_ hi
      ·rcases Le.mp hi with z|z
       ·subst z;exact⟨s,t,q1,e1'⟩
       ·exact g3 i z
     ·cases e
theorem lN:∀{md:List Bool} {xs:List V} {rs:List R},Paired (Hv F ad B H μ) xs rs->∀ j∈pw md rs,∃(s:Sl) (c:T),μ[j]?=some s/\s.box=some c
 |[],_,_,_,j,h=>by cases h
 |b::md,_,_,.nil,j,h=>by cases b<;>cases h
 |b::md,_,r::rs,.cons h p,j,hj=>by
  cases b with
  |true=>exact lN (md:=md) p j (by cases r<;>exact hj)
  |false =>
   cases r with
   |tr t=>exact lN (md:=md) p j hj
   |fr c=>exact h.elim
   |br i =>
    rcases Le.mp hj with z|z
    ·subst z;exact h.2
    ·exact lN (md:=md) p j z
theorem Bx.flat(h:Bx K H B a c)(f:oC c=true):Bx K H B' a c:=by
 rcases h.is with ⟨ts,vs,rfl,e,r⟩|⟨ks,ts,vs,rfl,e,l,r⟩
 ·exact⟨vs,e,r.flat f⟩
 ·exact⟨vs,e,l,r.flat f⟩
theorem Paired.wG:∀{as:List Addr} {outs:List T},Paired (Bx K H B) as outs->outs.all oC=true->Paired (Bx K H B') as outs
 |_,_,.nil,_=>.nil
 |_,_,.cons h p,f=>by
  rw[L_,LQ] at f;exact .cons (h.flat f.1) (Paired.wG p f.2)
namespace Y
noncomputable def Fq(md:List Bool)(tsp:dG)(us:UA):UE:=fun μ Q=>us μ fun rs μ1=>match CJ μ1 md rs with
 |some args=>(oi md rs).Nodup/\(∀ j∈oi md rs,j∉pw md rs)/\tsp args fun r outs=>(pw md rs=[]\/(kT r=true/\outs.all oC=true))/\Q r (putAll (oi md rs) outs μ1)
 |none=>False
theorem Ca{md:List Bool}{E:XK}{t:TA}{us:UA}(ha:RA K t us):RE K (jF (spT K md tsp) [] E t) (Fq md tsp us):=by
 intro F ad B σ H μ Q Qt hF l q k;refine ha F ad B σ H μ _ _ hF l q fun vs H1 rs μ1 l1 ps f1 k1 q1=>?_
 split at q1
 ·rename_i args ea;obtain⟨nd,dj,q1⟩:=q1;have hro:=lN (md:=md) ps;obtain⟨ag,eb,hb⟩:=GU l1 (pw md rs) ps ea (fun j h=>h) dj hro;rw[hF] at ag;show spT K md tsp (vs++[]) H1 Q E;rw[L8];have inj:∀{js:List Nat},js.Nodup->(∀ j∈js,∃(s:Sl) (c:T),μ1[j]?=some s/\s.box=some c)->(js.map ad).Nodup:=fun {js}=>by
   induction js with
   |nil=>exact fun _ _=>P9
   |cons j js ih =>
    intro nd hb;rw[LP] at nd;rw[L3,LP];refine⟨fun hm=>?_,ih nd.2 fun i hi=>hb i (KZ _ hi)⟩;obtain⟨i,hi,z⟩:=L6.mp hm;obtain⟨s1,c1,e1,b1⟩:=hb j K_;obtain⟨s2,c2,e2,b2⟩:=hb i (KZ _ hi);exact nd.1 (l1.inj i j s2 s1 c2 c1 e2 e1 b2 b1 z ▸ hi)
  refine⟨_,args,_,ag,fun b z=>l1.fi b z.1,by rw[eb];exact inj nd hb,q1,fun v H2 r outs hq keep res=>?_⟩
  rw[eb] at keep res;obtain⟨hfl,hq⟩:=hq;have nro:∀{b:Addr},pw md rs=[]->B b->B b/\∀ j∈pw md rs,b≠ad j:=fun {b} z h=>⟨h,fun j hj=>by rw[z] at hj;cases hj⟩
  cases r with
  |br i=>exact res.elim
  |tr t =>
   obtain⟨rv,po⟩:=res;have rv':Rep F.K H2 B v t:=by
    rw[hF];rcases hfl with z|z
    ·exact rv.fr (Fr.less fun b h=>nro z h)
    ·exact rv.flat z.1
   have po':Paired (Bx F.K H2 B) ((oi md rs).map ad) outs:=by
    rw[hF];rcases hfl with z|z
    ·exact Paired.uN po fun a c h=>h.of rfl (Fr.less fun b h=>nro z h)
    ·exact Paired.wG po z.2
   obtain⟨l2,k2,f2⟩:=l1.call hb nd keep (fun _ z=>z) (fun _ _ _ z=>z) (fun b z n=>absurd z n) po';exact k v H2 (.tr t) _ ⟨l2,rv'⟩ (f1.trans f2) (k1.trans k2) hq
  |fr c =>
   obtain⟨a,rfl,ha0,nBa,x,po⟩:=res;have nBa':¬ B a:=l1.p7 ha0;have sub:pw md rs=[]->∀ b,more B a b->more (fun b=>B b/\∀ j∈pw md rs,b≠ad j) a b:=fun z b h=>h.imp id fun h=>nro z h;have x':Bx F.K H2 (more B a) a c:=by
    rw[hF];rcases hfl with z|z
    ·exact x.of rfl (Fr.less (sub z))
    ·exact x.flat z.1
   have po':Paired (Bx F.K H2 (more B a)) ((oi md rs).map ad) outs:=by
    rw[hF];rcases hfl with z|z
    ·exact Paired.uN po fun a' c h=>h.of rfl (Fr.less (sub z))
    ·exact Paired.wG po z.2
   have po2:Paired (Bx F.K H2 B) ((oi md rs).map ad) outs:=Paired.uN po' fun a' c h=>h.of rfl (Fr.less fun _ z=>.inr z);obtain⟨l2,k2,f2⟩:=l1.call hb nd keep (fun _ z=>z) (fun _ _ _ z=>z) (fun b z n=>absurd z n) po2;obtain⟨l3,_,f3⟩:=l1.call (B2:=more B a) hb nd keep (fun _ z=>.inr z) (fun b o e n z=>z.elim (fun z=>by rw[z,ha0] at e;cases e) n) (fun b z n=>z.elim (fun z=>by rw[z];exact x'.fi) fun z=>absurd z n) po'
   exact k _ H2 (.fr c) _ ⟨l2,a,rfl,nBa',l1.ym ha0,l3,x'⟩ (f1.trans f3) (k1.trans k2) hq
 ·exact q1.elim
section
variable {X:Cx} {e:Expr} {es:List Expr} {us:UA} {pos p:Pos} {x:Str} {k:Nat} {ps:List Str} {md:List Bool} {tsp:dG} {E:XK}
theorem fn(K:Qf)(hK:X.K=K)(F:ae X.prog X.w X.K X.mg X.base aX k x ps (spT K md tsp))(hr:bG k X.A)(hg:Gl X x)(hx:Passes aX X E)(ha:YA X (e::es) us)(h1:autoParam (cL e=true) ℜ0)(h2:autoParam (es.all cL=true) ℜ0)(hdb:autoParam ((x ==("__debug__":Str))=false) ℜ1):
  YE X (.Call (.Name x p) (e::es) [] pos) (Fq md tsp us):=by
 obtain⟨t,q,r⟩:=ha;subst hK;exact⟨_,Z.fn F hr hg hx q h1 h2 hdb,Ca r⟩
end
end Y
noncomputable def DT:dG:=fun args Q=>∃ ns:List Int,args=[.e7 (ns.map T.int)]/\ns.length<=63/\Q (.tr (.bl true)) []
noncomputable def i4(K:Qf)(k:Bool)(H:Hp)(a:Addr)(xs:List V):Prop:=if k=true then bH K H a xs else bL K H a xs
noncomputable def j7(k:Bool)(h:Heap)(it a:Addr)(i:Nat):Prop:=if k=true then h.IsListIter it a i else h.IsTupleIter it a i
noncomputable def bK(k:Bool)(h:Heap)(a:Addr)(items:Array Value):Prop:=if k=true then h.IsList a items else h.IsTuple a items
theorem sI{A:Around}(k:Bool)(hh:A.handled=none)(it l:Addr)(hne:l≠it)(items:Array Value):Draws prog w A it [it,l] items.size (fun i v=>items[i]?=some v) (fun i h=>j7 k h it l i/\bK k h l items):=by
 cases k with
 |true=>exact Draws.list hh it l hne items
 |false=>exact ik hh it l hne items
theorem Inv.n5{k:Bool}(I:Inv X pins σ H s)(h:i4 X.K k H a xs):∃ its:List Value,Vals xs its/\bK k s.heap a its.toArray:=by
 cases k with
 |true=>obtain⟨its,r,p,_⟩:=I.list h;exact⟨its,r,p.isList⟩
 |false=>obtain⟨its,r,p,_⟩:=I.tuple h;exact⟨its,r,p⟩
theorem Inv.yA{k:Bool}(I:Inv X pins σ H s)(h:i4 X.K k H a xs)(h':i4 X.K k H a ys):xs=ys:=by
 cases k with
 |true=>exact I.jz h h'
 |false=>exact I.iu h h'
theorem bK.ty{k:Bool}(x:bK k h a items):∃ o,h.get? a=some o/\(o.cls=.type "list"\/o.cls=.type "tuple")/\∃ n,o.data=.seq items n:=by
 cases k with
 |true=>obtain⟨o,e,c,n,d⟩:=(show h.IsList a items from x);exact⟨o,e,.inl c,n,d⟩
 |false=>obtain⟨o,e,c,n,d⟩:=(show h.IsTuple a items from x);exact⟨o,e,.inr c,n,d⟩
theorem j7.ty{k:Bool}(x:j7 k h it a i):∃ o,h.get? it=some o/\(o.cls=.type "list_iterator"\/o.cls=.type "tuple_iterator")/\o.data=.fields #[.ref a,.int i 0]:=by
 cases k with
 |true=>obtain⟨o,e,c,d⟩:=(show h.IsListIter it a i from x);exact⟨o,e,.inl c,d⟩
 |false=>obtain⟨o,e,c,d⟩:=(show h.IsTupleIter it a i from x);exact⟨o,e,.inr c,d⟩
noncomputable def uY(k:Bool):String:=if k=true then "list_iterator" else "tuple_iterator"
theorem wx(x:h.IsTuple a items)(o:Obj):(h.push o).IsTuple a items:=by
 obtain⟨ob,e,r⟩:=x;exact⟨ob,La _ e,r⟩
theorem Hu{k:Bool}(e:h.get? it=some {cls:=.type (uY k),data:=.fields #[.ref a,.int 0 0]}):j7 k h it a 0:=by
 cases k with
 |true=>exact⟨_,e,rfl,rfl⟩
 |false=>exact⟨_,e,rfl,rfl⟩
noncomputable def pG(ts us:List T):List T:=List.zipWith (fun t u=>.tup [t,u]) ts us
noncomputable def gw:T->Option (List T)
 |.lst ts=>some ts
 |.tup ts=>some ts
 |.e7 ts=>some ts
 |.dq ts=>some ts
 |_=>none
noncomputable def kdOf:T->Bool
 |.lst _=>true
 |.e7 _=>true
 |_=>false
theorem Vw.sq{v:V}{t:T}(h:Vw K H B v t)(e:gw t=some ts):∃ a vs,v=.ref a/\i4 K (kdOf t) H a vs/\aj K H B vs ts:=by
 cases h with
 |aC=>cases e
 |bl=>cases e
 |int=>cases e
 |str=>cases e
 |dI=>cases e
 |ig=>cases e
 |exc=>cases e
 |BH=>cases e
 |il=>cases e
 |tup h r=>cases e;exact⟨_,_,rfl,bL.of h,r⟩
 |dq h r=>cases e;exact⟨_,_,rfl,.inr h,r⟩
 |lst h r=>cases e;exact⟨_,_,rfl,bH.of h,r⟩
 |e7 h r=>cases e;exact⟨_,_,rfl,h,r⟩
namespace Y
section
variable {X:Cx} {e1 e2:Expr} {es:List Expr} {us:UA} {pos p tp:Pos} {k:Nat}
noncomputable def iZ(us:UA):UI:=fun μ Rt=>us μ fun rs μ'=>match rs with
 |[.tr t1,.tr t2]=>(match gw t1,gw t2 with
  |some ts,some vs=>Rt (pG ts vs) none μ'
  |_,_=>False)
 |_=>False
end
end Y
theorem A0{ps:List Str}(F:CK K x x st fa fd)(S:ar N ps (aa st))(md:List Bool)(hm:md.length=ps.length)(hN:md.length<=N.length)
  (hbody:∀(args:List T) (Qt:R->List T->Prop),args.length=ps.length->tsp args Qt->∀(cdv:Value) (A:Around) (outer:List Env) (s:Shared) (H:Hp) (E:XK),bG k (A.deeper (envOfC x (aa st) s.heap.objs.size fa cdv)) ->
   ∃ us,YB (lL aX P w K mg base N x (aa st) fa cdv A outer s H E).Dr (bP st) us/\us (yF md Qt) (startM md args N.length)):dZ P w K mg base aX (k+1) fa fd ps (spT K md tsp):=
 ow F S md hm hN fun args Qt hl h cdv A outer s H E hr _=>hbody args Qt hl h cdv A outer s H E hr
namespace Y
section
variable {X:Cx} {es:List Expr} {pos:Pos} {x:Str}
theorem iD{t:T}(hg:Gl X x)(h:∃ w u,X.mg x=some u/\RelV w u/\∀ H B,Rep X.K H B w t)(hd:autoParam ((x ==("__debug__":Str))=false) ℜ1):YE X (.Name x pos) (uC t):=by
 obtain⟨w,u,hm,r,h⟩:=h;exact glob hg hm r h hd
noncomputable def rY:List V->Option (List T)
 |[]=>some []
 |v::vs=>match xJ v,rY vs with
  |some t,some ts=>some (t::ts)
  |_,_=>none
theorem kG:∀{vs:List V} {ts:List T},rY vs=some ts->vs.map xJ=ts.map some
 |[],ts,h=>by cases h;rfl
 |v::vs,ts,h=>by
  unfold rY at h
  split at h
  ·rename_i t us e1 e2;cases h;rw[L3,L3,e1,kG e2]
  ·cases h
theorem bw(h:lE es=some vs)(h2:rY vs=some ts):YA X es (uK ts):=consts h (kG h2)
end
end Y
theorem oy{u w:US}{E:Ed}(h:∀ N,N=w E->u {E with nx:=N} μ):Y.Bo u w E μ:=h _ rfl
noncomputable def mR(o:Option (Prop×R))(Q:R->Prop):Prop:=match o with
 |some (C,r)=>C/\Q r
 |none=>False
noncomputable def FK(o:Option (List T×Option (Nat×List T)))(Q:List T->Option (Nat×List T)->Prop):Prop:=match o with
 |some (ts,g)=>Q ts g
 |none=>False
noncomputable def nb:Option Sl->Prop
 |some (.pb _)=>False
 |_=>True
noncomputable def sl:Option T->Sl
 |none=>.un
 |some t=>.tr t
noncomputable def EI(o:Option Sl)(i:Nat):Option (Prop×R):=match o with
 |some (.tr t)=>some (True,.tr t)
 |some (.bx _)=>some (True,.br i)
 |some (.pb _)=>some (True,.br i)
 |_=>none
noncomputable def za:R->Option Bool
 |.tr (.bl b)=>some b
 |.tr (.int i)=>some (i != 0)
 |_=>none
noncomputable def D1(a b:Option T):Option (Prop×R):=match a,b with
 |some (.int i),some (.int j)=>some (True,.tr (.int (i+j)))
 |some (.str i),some (.str j)=>some (i.length+j.length<=sizeLine,.tr (.str (i++j)))
 |some (.lst xs),some (.lst ys)=>some (xs.length+ys.length<=sizeLine,.fr (.lst (xs++ys)))
 |some (.tup xs),some (.tup ys)=>some (xs.length+ys.length<=sizeLine,.tr (.tup (xs++ys)))
 |_,_=>none
noncomputable def oT(o:Option T):Option (Prop×R):=match o with
 |some t=>some (True,.tr t)
 |none=>none
noncomputable def Jq(a b:Option T):Option (Prop×R):=match a,b with
 |some (.lst xs),some (.int i)=>oT (aY xs i)
 |some (.tup xs),some (.int i)=>oT (aY xs i)
 |some (.dq xs),some (.int i)=>oT (aY xs i)
 |some (.str z),some (.int i)=>(match aY z.cps.toList i with|some c=>some (z.length<=sizeLine,.tr (.str ⟨#[c]⟩))|none=>none)
 |_,_=>none
noncomputable def GJ(a:T):Option (Prop×R):=match a with
 |.lst xs=>some (True,.tr (.int xs.length))
 |.tup xs=>some (True,.tr (.int xs.length))
 |.e7 xs=>some (True,.tr (.int xs.length))
 |.dq xs=>some (True,.tr (.int xs.length))
 |.str z=>some (z.length<=sizeLine,.tr (.int z.length))
 |_=>none
noncomputable def pV(a:Option T):Option (Prop×R):=match a with
 |some (.lst xs)=>some (True,.tr (.tup xs))
 |some (.tup xs)=>some (True,.tr (.tup xs))
 |_=>none
noncomputable def Cz(a:T):Option (Prop×R):=match a with
 |.lst xs=>some (True,.fr (.lst xs))
 |.tup xs=>some (True,.fr (.lst xs))
 |.e7 xs=>some (True,.fr (.lst xs))
 |.dI lo hi=>some ((hi-lo).toNat<=65536/\-(2^62)<=lo/\lo<2^62/\-(2^62)<=hi/\hi<2^62,.fr (.lst ((List.range (hi-lo).toNat).map fun k=>T.int (lo+(k:Nat)))))
 |_=>none
noncomputable def xR(a:Option T):Option (List T):=match a with
 |some (.tup ts)=>some ts
 |some (.lst ts)=>some ts
 |_=>none
noncomputable def CI(r:R)(μ:Mu):Option (List T×Option (Nat×List T)):=match r with
 |.br j=>(match cont μ (.br j) with|some (.lst ts)=>some (ts,some (j,ts))|_=>none)
 |.tr (.lst ts)=>some (ts,none)
 |.fr (.lst ts)=>some (ts,none)
 |.tr (.tup ts)=>some (ts,none)
 |.tr (.e7 ts)=>some (ts,none)
 |.tr (.dq ts)=>some (ts,none)
 |_=>none
namespace A
open Y
theorem uC(t:T)(μ:Mu)(Q:R->Mu->Prop):Y.uC t μ Q=Q (.tr t) μ:=rfl
theorem me(i:Nat)(μ:Mu)(Q:R->Mu->Prop):Y.me i μ Q=mR (EI μ[i]? i) fun r=>Q r μ:=by
 unfold Y.me EI
 cases μ[i]? with
 |none=>rfl
 |some s=>cases s<;>exact propext ⟨fun h=>by first|exact h|exact⟨trivial,h⟩,fun h=>by first|exact h|exact h.2⟩
theorem kr(ue:UE)(μ:Mu)(Q:Bool->Mu->Prop):Y.kr ue μ Q=ue μ fun r μ'=>match r with|.tr (.bl b)=>Q b μ'|_=>False:=rfl
theorem jQ(u u':U2)(ua ub uc:UE)(μ:Mu)(Q:R->Mu->Prop):Y.jQ u u' ua ub uc μ Q=ua μ fun r1 μ1=>ub μ1 fun r2 μ2=>u r1.d r2.d μ2 fun z μ3=>match z with
 |.tr (.bl true)=>uc μ3 fun r3 μ4=>u' r2.d r3.d μ4 Q
 |.tr (.bl false)=>Q (.tr (.bl false)) μ3
 |_=>False:=rfl
theorem AS(ut:UT)(μ:Mu)(Q:Bool->Mu->Prop):Y.AS ut μ Q=ut μ fun b μ'=>Q (!b) μ':=rfl
theorem w_(u w:UT)(μ:Mu)(Q:Bool->Mu->Prop):Y.w_ u w μ Q=u μ fun b μ'=>if b=true then w μ' Q else Q false μ':=rfl
theorem G3(u w:UT)(μ:Mu)(Q:Bool->Mu->Prop):Y.G3 u w μ Q=u μ fun b μ'=>if b=true then Q true μ' else w μ' Q:=rfl
theorem oA(ue:UE)(μ:Mu)(Q:Bool->Mu->Prop):Y.oA ue μ Q=ue μ fun r μ'=>match za r with|some b=>Q b μ'|none=>False:=by
 unfold Y.oA za;congr 1
 funext r μ'
 cases r with
 |tr t=>cases t<;>rfl
 |br i=>rfl
 |fr c=>rfl
theorem sk(ue:UE)(μ:Mu)(Q:R->Mu->Prop):Y.sk ue μ Q=ue μ fun r μ'=>match r with|.tr (.bl b)=>Q (.tr (.bl (!b))) μ'|_=>False:=rfl
theorem rK(ua ub:UE)(μ:Mu)(Q:R->Mu->Prop):Y.rK ua ub μ Q=ua μ fun r μ'=>match r with|.tr (.bl true)=>ub μ' Q|.tr (.bl false)=>Q (.tr (.bl false)) μ'|_=>False:=rfl
theorem Ih(uc:UT)(ua ub:UE)(μ:Mu)(Q:R->Mu->Prop):Y.Ih uc ua ub μ Q=uc μ fun b μ'=>if b=true then ua μ' Q else ub μ' Q:=rfl
theorem zy(ue:UE)(μ:Mu)(Q:R->Mu->Prop):Y.zy ue μ Q=ue μ fun r μ'=>match r with|.tr (.int i)=>Q (.tr (.int (-i))) μ'|_=>False:=rfl
theorem vW(μ:Mu)(Q:List R->Mu->Prop):Y.vW μ Q=Q [] μ:=rfl
theorem uK(ts:List T)(μ:Mu)(Q:List R->Mu->Prop):Y.uK ts μ Q=Q (ts.map R.tr) μ:=rfl
theorem BC(us:UA)(μ:Mu)(Q:R->Mu->Prop):Y.BC us μ Q=us μ fun rs μ'=>match trees rs with|some ts=>ts.length<=sizeLine/\Q (.tr (.tup ts)) μ'|none=>False:=rfl
theorem Bj(us:UA)(μ:Mu)(Q:R->Mu->Prop):Y.Bj us μ Q=us μ fun rs μ'=>match trees rs with|some ts=>ts.length<=sizeLine/\Q (.fr (.lst ts)) μ'|none=>False:=rfl
theorem Fi(u:UC)(us:UA)(μ:Mu)(Q:R->Mu->Prop):Y.Fi u us μ Q=us μ fun rs μ'=>u rs μ' Q:=rfl
theorem iS(μ:Mu)(Q:Option Int->Mu->Prop):Y.iS μ Q=Q none μ:=rfl
theorem q_(ue:UE)(μ:Mu)(Q:Option Int->Mu->Prop):Y.q_ ue μ Q=ue μ fun r μ'=>match r with|.tr (.int i)=>Q (some i) μ'|_=>False:=rfl
theorem qW(f:T->T->Mu->(R->Mu->Prop)->Prop)(r1 r2:R)(μ:Mu)(Q:R->Mu->Prop):Y.qW f r1 r2 μ Q=(match cont μ r1,cont μ r2 with|some t,some u=>f t u μ Q|_,_=>False):=rfl
theorem Gs(C:Int->Int->Prop)(g:Int->Int->Int)(i j:Int)(μ:Mu)(Q:R->Mu->Prop):y_ C g (.int i) (.int j) μ Q=(C i j/\Q (.tr (.int (g i j))) μ):=rfl
theorem JQ(g:Int->Int->Bool)(i j:Int)(μ:Mu)(Q:R->Mu->Prop):IE g (.int i) (.int j) μ Q=Q (.tr (.bl (g i j))) μ:=rfl
theorem kf(r1 r2:R)(μ:Mu)(Q:R->Mu->Prop):Y.kf r1 r2 μ Q=mR (D1 (cont μ r1) (cont μ r2)) fun r=>Q r μ:=by
 unfold Y.kf D1
 cases cont μ r1 with
 |none=>rfl
 |some t=>cases cont μ r2 with
  |none=>cases t<;>rfl
  |some u=>cases t<;>cases u<;>first|rfl|exact propext ⟨fun h=>⟨trivial,h⟩,fun h=>h.2⟩
theorem pA(r1 r2:R)(μ:Mu)(Q:R->Mu->Prop):Y.pA r1 r2 μ Q=mR (Jq (cont μ r1) (cont μ r2)) fun r=>Q r μ:=by
 unfold Y.pA Jq;have e:∀(xs:List T) (i:Int),(match aY xs i with|some t=>Q (.tr t) μ|none=>False)=mR (oT (aY xs i)) fun r=>Q r μ:=fun xs i=>by
  cases aY xs i with
  |none=>rfl
  |some t=>exact propext ⟨fun h=>⟨trivial,h⟩,fun h=>h.2⟩
 cases cont μ r1 with
 |none=>rfl
 |some t=>cases cont μ r2 with
  |none=>cases t<;>rfl
  |some u =>
   cases t<;>cases u<;>first|rfl|exact e _ _|skip
   rename_i z i;show (z.length<=sizeLine/\(match aY z.cps.toList i with|some c=>Q (.tr (.str ⟨#[c]⟩)) μ|none=>False))=mR (match aY z.cps.toList i with|some c=>some (z.length<=sizeLine,.tr (.str ⟨#[c]⟩))|none=>none) fun r=>Q r μ
   cases aY z.cps.toList i with
   |none=>exact propext ⟨fun h=>h.2,fun h=>h.elim⟩
   |some c=>rfl
theorem oH(neg:Bool)(t:T)(μ:Mu)(Q:R->Mu->Prop):Y.oH neg t .aC μ Q=Q (.tr (.bl (match t with|.aC=>!neg|_=>neg))) μ:=rfl
theorem HQ(neg:Bool)(i j:Int)(μ:Mu)(Q:R->Mu->Prop):Y.GZ neg (.int i) (.int j) μ Q=Q (.tr (.bl (if neg then !decide (i=j) else decide (i=j)))) μ:=rfl
theorem Kk(neg:Bool)(i j:Str)(μ:Mu)(Q:R->Mu->Prop):Y.GZ neg (.str i) (.str j) μ Q=Q (.tr (.bl (if neg then !decide (i=j) else decide (i=j)))) μ:=rfl
theorem IH(neg:Bool)(xs ys:List T)(μ:Mu)(Q:R->Mu->Prop):Y.GZ neg (.lst xs) (.lst ys) μ Q=(neg=false/\xs.all aN=true/\ys.all aN=true/\Q (.tr (.bl (ng xs ys))) μ):=rfl
theorem vq(f:T->Mu->(R->Mu->Prop)->Prop)(r:R)(μ:Mu)(Q:R->Mu->Prop):Y.vq f [r] μ Q=(match cont μ r with|some t=>f t μ Q|none=>False):=rfl
theorem mU(t:T)(μ:Mu)(Q:R->Mu->Prop):Y.mU t μ Q=mR (GJ t) fun r=>Q r μ:=by
 cases t<;>first|rfl|exact propext ⟨fun h=>⟨trivial,h⟩,fun h=>h.2⟩
theorem i8(r:R)(μ:Mu)(Q:R->Mu->Prop):Y.i8 [r] μ Q=mR (pV (cont μ r)) fun r=>Q r μ:=by
 show (match cont μ r with|some (.lst xs)=>Q (.tr (.tup xs)) μ|some (.tup xs)=>Q (.tr (.tup xs)) μ|_=>False)=_
 unfold pV
 cases cont μ r with
 |none=>rfl
 |some t=>cases t<;>first|rfl|exact propext ⟨fun h=>⟨trivial,h⟩,fun h=>h.2⟩
theorem nA(t:T)(μ:Mu)(Q:R->Mu->Prop):Y.nA t μ Q=mR (Cz t) fun r=>Q r μ:=by
 cases t<;>first|rfl|exact propext ⟨fun h=>⟨trivial,h⟩,fun h=>h.2⟩|exact propext ⟨fun h=>⟨⟨h.1,h.2.1,h.2.2.1,h.2.2.2.1,h.2.2.2.2.1⟩,h.2.2.2.2.2⟩,fun h=>⟨h.1.1,h.1.2.1,h.1.2.2.1,h.1.2.2.2.1,h.1.2.2.2.2,h.2⟩⟩
theorem Bm(j:Int)(μ:Mu)(Q:R->Mu->Prop):Y.pQ [.tr (.int j)] μ Q=Q (.tr (.dI 0 j)) μ:=rfl
theorem Fp(g:Int->Int->Int)(i j:Int)(μ:Mu)(Q:R->Mu->Prop):Y.Fp g [.tr (.int i),.tr (.int j)] μ Q=Q (.tr (.int (g i j))) μ:=rfl
theorem Hm(k:Bool)(μ:Mu)(Q:R->Mu->Prop):Y.w8 [.tr (.bl k)] μ Q=Q (.tr (.int (if k=true then 1 else 0))) μ:=rfl
theorem oB(ue:UE)(c:String)(μ:Mu)(Q:R->Mu->Prop):Y.oB ue c μ Q=ue μ fun r μ'=>match cont μ' r with|some t=>(match Am t c with|some b=>Q (.tr (.bl b)) μ'|none=>False)|none=>False:=rfl
theorem kg(ue:UE)(g:UG)(E:Ed)(μ:Mu):Y.kg ue g E μ=ue μ fun r μ'=>g r μ' E.nx:=rfl
theorem K6(i:Nat)(t:T)(μ:Mu)(Q:Mu->Prop):Y.gN i (.tr t) μ Q=(vm μ i/\Q (μ.set i (.tr t))):=rfl
theorem KD(i:Nat)(t:T)(μ:Mu)(Q:Mu->Prop):Y.gN i (.fr t) μ Q=(vm μ i/\Q (μ.set i (.bx t))):=rfl
theorem vm(μ:Mu)(i:Nat):Y.vm μ i=nb μ[i]?:=rfl
theorem Gj(t:T):nb (some (.tr t))=True:=rfl
theorem G9:nb (some .un)=True:=rfl
theorem GD(o:Option T):nb (some (sl o))=True:=by cases o<;>rfl
theorem gT(n:Nat)(gs:rN)(r:R)(μ:Mu)(Q:Mu->Prop):Y.gT n gs r μ Q=(match xR (cont μ r.d) with|some ts=>ts.length=n/\gs ts μ Q|none=>False):=by
 unfold Y.gT xR
 cases cont μ r.d with
 |none=>rfl
 |some t=>cases t<;>rfl
theorem Iz(g:UG)(gs:rN)(t:T)(ts:List T)(μ:Mu)(Q:Mu->Prop):Y.Iz g gs (t::ts) μ Q=g (.tr t) μ fun μ'=>gs ts μ' Q:=rfl
theorem Ig(μ:Mu)(Q:Mu->Prop):Y.Ig [] μ Q=Q μ:=rfl
theorem gS(uo ui:UE)(t:T)(μ:Mu)(Q:Mu->Prop):Y.gS uo ui (.tr t) μ Q=uo μ fun ro μ1=>ui μ1 fun ri μ2=>(match ro,ri with
  |.br j,.tr (.int k)=>(match (μ2[j]?).bind Sl.box with
   |some (.lst ts)=>(match ie ts.length k with
    |some n=>Q (de μ2 j (.lst (ts.set n t)))
    |none=>False)
   |_=>False)
  |_,_=>False):=rfl
theorem Bd(ue:UE)(E:Ed)(μ:Mu):Y.Bd ue E μ=ue μ E.rt:=rfl
theorem rP(ue:UE)(E:Ed)(μ:Mu):Y.rP ue E μ=ue μ fun _ μ'=>E.nx μ':=rfl
theorem B6(c:UT)(u w:US)(E:Ed)(μ:Mu):Y.B6 c u w E μ=c μ fun b μ'=>if b=true then u E μ' else w E μ':=rfl
theorem BS(ue:UE)(μ:Mu)(Rt:List T->Option (Nat×List T)->Mu->Prop):Y.BS ue μ Rt=ue μ fun r μ'=>FK (CI r μ') fun ts g=>Rt ts g μ':=by
 unfold Y.BS CI;congr 1
 funext r μ'
 cases r with
 |tr t=>cases t<;>rfl
 |br j =>
  show (match cont μ' (.br j) with|some (.lst ts)=>Rt ts (some (j,ts)) μ'|_=>False)=FK (match cont μ' (.br j) with|some (.lst ts)=>some (ts,some (j,ts))|_=>none) fun ts g=>Rt ts g μ'
  cases cont μ' (.br j) with
  |none=>rfl
  |some t=>cases t<;>rfl
 |fr c=>cases c<;>rfl
theorem Iq(us:UA)(μ:Mu)(Rt:List T->Option (Nat×List T)->Mu->Prop):Y.Iq us μ Rt=us μ fun rs μ'=>match rs with
 |[.tr (.int j)]=>-(2^62)<=j/\j<2^62/\Rt ((List.range j.toNat).map fun k=>T.int (0+(k:Nat))) none μ'
 |_=>False:=rfl
theorem Ie(us:UA)(μ:Mu)(Rt:List T->Option (Nat×List T)->Mu->Prop):Y.Ie us μ Rt=us μ fun rs μ'=>match rs with |[.tr (.tup ts)]=>Rt (pairs ts) none μ'|_=>False:=rfl
theorem iZ(us:UA)(μ:Mu)(Rt:List T->Option (Nat×List T)->Mu->Prop):Y.iZ us μ Rt=us μ fun rs μ'=>match rs with
 |[.tr t1,.tr t2]=>(match gw t1,gw t2 with|some ts,some vs=>Rt (pG ts vs) none μ'|_,_=>False)
 |_=>False:=rfl
theorem Bq(ui:UI)(g:UG)(body:US)(E:Ed)(μ:Mu):Y.Bq ui g body E μ=ui μ fun items gd μ'=>match gd with
 |none=>gj g body E items μ'
 |some (j,_)=>(match μ'[j]? with
  |some (.bx c)=>gj g body E items (μ'.set j (.tr c))
  |_=>False):=rfl
theorem iG(own:T->Mu->Option Mu)(dr:Mu->Mu)(ui:UI)(ut:UT)(ue:UE)(μ:Mu)(Q:R->Mu->Prop):Y.iG own dr ui ut ue μ Q=ui μ fun items gd μ'=>oV gd own dr ut ue Q items [] μ':=rfl
theorem IB(um:UM)(uo:UE)(us:UA)(μ:Mu)(Q:R->Mu->Prop):Y.IB um uo us μ Q=uo μ fun ro μ1=>match ro with|.br j=>Y.Io ((μ1[j]?).bind Sl.box) (us μ1 fun rs μ2=>um j rs μ2 Q)|_=>False:=rfl
theorem gW(j:Nat)(t:T)(μ:Mu)(Q:R->Mu->Prop):Y.gW j [.tr t] μ Q=(match (μ[j]?).bind Sl.box with|some (.lst ts)=>ts.length<sizeLine/\Q (.tr .aC) (de μ j (.lst (ts++[t])))|_=>False):=rfl
theorem Fq(md:List Bool)(tsp:dG)(us:UA)(μ:Mu)(Q:R->Mu->Prop):Y.Fq md tsp us μ Q=us μ fun rs μ1=>match CJ μ1 md rs with
 |some args=>(oi md rs).Nodup/\(∀ j∈oi md rs,j∉pw md rs)/\tsp args fun r outs=>(pw md rs=[]\/(kT r=true/\outs.all oC=true))/\Q r (putAll (oi md rs) outs μ1)
 |none=>False:=rfl
theorem K3(ts:List T):gw (.lst ts)=some ts:=rfl
theorem K9(ts:List T):gw (.tup ts)=some ts:=rfl
theorem II(xs:List T):pV (some (.lst xs))=some (True,.tr (.tup xs)):=rfl
theorem JM(xs:List T):Cz (.lst xs)=some (True,.fr (.lst xs)):=rfl
theorem JC(xs:List T):xR (some (.tup xs))=some xs:=rfl
theorem HG(ts:List T)(μ:Mu):CI (.tr (.lst ts)) μ=some (ts,none):=rfl
theorem FU(ts:List T)(μ:Mu):CI (.fr (.lst ts)) μ=some (ts,none):=rfl
theorem FG(ts:List T)(μ:Mu):CI (.tr (.tup ts)) μ=some (ts,none):=rfl
theorem Gg(ts:List T)(μ:Mu):CI (.tr (.dq ts)) μ=some (ts,none):=rfl
theorem Jj(μ:Mu)(t:T):cont μ (.tr t)=some t:=rfl
theorem JK(μ:Mu)(i:Nat):cont μ (.br i)=(μ[i]?).bind Sl.box:=rfl
theorem IG(t:T):R.d (.tr t)=.tr t:=rfl
theorem JG(t:T):R.d (.fr t)=.tr t:=rfl
theorem Ja(b:Bool):za (.tr (.bl b))=some b:=rfl
end A
theorem bD{g:UG}{body:US}{E:Ed}(I:List T->Mu->Prop){items:List T}(h0:I items μ)(hn:∀ μ,I [] μ->E.nx μ)
  (hs:∀ t ts μ (N:Mu->Prop),I (t::ts) μ->(∀ μ',I ts μ'->N μ')->g (.tr t) μ fun μ1=>body {E with nx:=N,ct:=N,bk:=E.nx} μ1):Y.gj g body E items μ:=by
 induction items generalizing μ with
 |nil=>exact hn μ h0
 |cons t ts ih=>exact hs t ts μ _ h0 fun μ' h=>ih h
theorem cO{gd:Option (Nat×List T)}{own:T->Mu->Option Mu}{ut:UT}{Q:R->Mu->Prop}(I:List T->List T->Mu->Prop){items acc:List T}(h0:I items acc μ)(hn:∀ acc μ,I [] acc μ->Y.Hq gd μ/\Q (.fr (.lst acc)) μ)
  (hs:∀ t r acc μ (N:List T->Mu->Prop),I (t::r) acc μ->(∀ acc' μ',I r acc' μ'->N acc' μ')->Y.Hq gd μ/\acc.length<sizeLine/\(match own t μ with
   |none=>False
   |some μ1=>ut μ1 fun b μ2=>if b=true then ue μ2 fun rr μ3=>(match rr.d with
     |.tr t'=>N (acc++[t']) (dr μ3)
     |_=>False) else N acc (dr μ2))):Y.oV gd own dr ut ue Q items acc μ:=by
 induction items generalizing μ acc with
 |nil=>exact hn acc μ h0
 |cons t ts ih=>exact hs t ts acc μ (fun a m=>Y.oV gd own dr ut ue Q ts a m) h0 fun a' μ' h=>ih h
noncomputable def lD(K:Qf):Sp:=fun vs H Q _=>∃(a:Addr) (ns:List Int),vs=[.ref a]/\bH K H a (ns.map V.int)/\ns.length<=63/\∀ H',Q (.bl true) H'
theorem dk:∀ ns:List Int,aj K H B (ns.map V.int) (ns.map T.int)
 |[]=>.nil
 |n::ns=>.cons (.int n) (dk ns)
theorem CV{ps:List Str}(h:dZ P w K mg base aX k fa fd ps (spT K [false] DT)):dZ P w K mg base aX k fa fd ps (lD K):=by
 refine h.imp fun vs H Q E ⟨a,ns,e,hs,hl,q⟩=>?_;subst e;refine⟨fun _=>False,[.e7 (ns.map T.int)],fun r outs=>r=.tr (.bl true),⟨.e7 ?_ (dk ns),trivial⟩,fun b z=>z.elim,P9,⟨ns,rfl,hl,rfl⟩,fun v H' r outs hr _ res=>?_⟩
 ·rcases hs with hs|hs
  ·exact .inl ⟨fun z=>z,hs⟩
  ·exact .inr hs
 ·subst hr;have rv:=res.1;obtain rfl:=Rep.vd rv;exact q H'
namespace Y
theorem ER(hu:X.A.units<cLine):cE X (compareOp .NotEq) (AF X.K true):=by
 intro pins s σ H x y v u Q I rx ry h;obtain⟨a,b,xs,ys,rfl,rfl,hq,fx,fy,q⟩:=h
 cases rx;cases ry
 have item:∀(its its2:List Value),Vals xs its->Vals ys its2->∀ j (h1:j<its.toArray.size) (h2:j<its2.toArray.size),SeqAt.EqAt X.A.in1 s its.toArray[j] its2.toArray[j] (match xs[j]?,ys[j]? with|some x,some y=>vb x y|_,_=>true):=fun its its2 r1 r2 j h1 h2=>by
  have l1:=r1.length;have l2:=r2.length;rw[Ld] at h1 h2;obtain⟨u1,e1,g1⟩:=r1.get (i:=j) (x:=xs[j]) (KW (by lia))
  obtain⟨u2,e2,g2⟩:=r2.get (i:=j) (x:=ys[j]) (KW (by lia))
  rw[KW (show j<xs.length by lia),KW (show j<ys.length by lia)]
  have z1:its.toArray[j]=u1:=by
   rw[KW h1] at e1;simpa using e1
  have z2:its2.toArray[j]=u2:=by
   rw[KW h2] at e2;simpa using e2
  rw[z1,z2];exact pq g1 g2 (Mj.mp fx _ (L1 _)) (Mj.mp fy _ (L1 _))
 rcases hq with ⟨ha,hb⟩|⟨ha,hb⟩
 ·obtain⟨its,r1,p1,_⟩:=I.list ha;obtain⟨its2,r2,p2,_⟩:=I.list hb;have l1:=r1.length;have l2:=r2.length;by_cases e:xs.length=ys.length
  ·refine SeqAt.RcNeAt.lists p1.isList p2.isList (by rw[Ld,Ld];lia) hu (item its its2 r1 r2) X.prog X.w X.xe _ ⟨.bl _,H,I,rfl,q _ ?_⟩
   rw[Ld,<- l1,<- e,NI,MX,Bool.true_and]
   try rfl
  ·refine SeqAt.RcNeAt.lists_lengths p1.isList p2.isList (by rw[Ld,Ld,bne_iff_ne];lia) hu X.prog X.w X.xe _ ⟨.bl true,H,I,rfl,?_⟩
   exact q false (by rw[Mc.mpr e,O9])
 ·obtain⟨its,r1,p1,_⟩:=I.tuple ha;obtain⟨its2,r2,p2,_⟩:=I.tuple hb;have l1:=r1.length;have l2:=r2.length;refine SeqAt.RcNeAt.tuples p1 p2 hu (item its its2 r1 r2) X.prog X.w X.xe _ ⟨.bl _,H,I,rfl,q _ ?_⟩;rw[Ld,Ld,<- l1,<- l2,Bool.and_comm]
  try rfl
noncomputable def FJ(K:Qf):R2:=fun x y H Q=>Kn x y H Q\/AF K true x y H Q
theorem qk(K:Qf)(hK:X.K=K)(hu:X.A.units<cLine):cE X (compareOp .NotEq) (FJ K):=by subst hK;exact FI.or (ER hu)
noncomputable def GA:T->T->Mu->(R->Mu->Prop)->Prop:=fun t u μ Q=>match t,u with
 |.int i,.int j=>Q (.tr (.bl (!decide (i=j)))) μ
 |.str i,.str j=>Q (.tr (.bl (!decide (i=j)))) μ
 |.bl i,.bl j=>Q (.tr (.bl (!decide (i=j)))) μ
 |.lst xs,.lst ys=>xs.all aN=true/\ys.all aN=true/\Q (.tr (.bl (!ng xs ys))) μ
 |.tup xs,.tup ys=>xs.all aN=true/\ys.all aN=true/\Q (.tr (.bl (!ng xs ys))) μ
 |_,_=>False
theorem pB:ic K (FJ K) (qW GA):=eN fun F ad B σ H μ Q Qt x y t u hK l v1 v2 q k=>by
 subst hK;unfold GA at q
 split at q
 ·obtain rfl:=Vw.bZ v1;obtain rfl:=Vw.bZ v2;refine .inl ⟨rfl,?_⟩;rw[dV (f:=V.int) (fun a b h=>by injection h)]
  exact k _ H _ (Vr.flat l (.bl _)) Fr.refl q
 ·obtain rfl:=Vw.gf v1;obtain rfl:=Vw.gf v2;refine .inl ⟨rfl,?_⟩;rw[dV (f:=V.str) (fun a b h=>by injection h)]
  exact k _ H _ (Vr.flat l (.bl _)) Fr.refl q
 ·obtain rfl:=Vw.vd v1;obtain rfl:=Vw.vd v2;refine .inl ⟨rfl,?_⟩;rw[dV (f:=V.bl) (fun a b h=>by injection h)]
  exact k _ H _ (Vr.flat l (.bl _)) Fr.refl q
 ·obtain⟨_,_,rfl,ha,ra⟩:=Vw.ef v1;obtain⟨_,_,rfl,hb,rb⟩:=Vw.ef v2;exact .inr ⟨_,_,_,_,rfl,rfl,.inl ⟨bH.of ha,bH.of hb⟩,bN ra q.1,bN rb q.2.1,fun c hc=>by
   rw[<- lQ ra rb q.1 q.2.1] at hc;subst hc;exact k _ H _ (Vr.flat l (.bl _)) Fr.refl q.2.2⟩
 ·obtain⟨_,_,rfl,ha,ra⟩:=Vw.tupI v1;obtain⟨_,_,rfl,hb,rb⟩:=Vw.tupI v2;exact .inr ⟨_,_,_,_,rfl,rfl,.inr ⟨bL.of ha,bL.of hb⟩,bN ra q.1,bN rb q.2.1,fun c hc=>by
   rw[<- lQ ra rb q.1 q.2.1] at hc;subst hc;exact k _ H _ (Vr.flat l (.bl _)) Fr.refl q.2.2⟩
 ·exact q.elim
theorem dn:fillsNumberSlot (.type "tuple") "mul"=pure false:=
 PySem.fillsNumberSlot_seq (id:="tuple.__mul__") (r:=some (.builtin "tuple.__rmul__")) PySem.F.slot_tuple_mul.lookup (by decide +kernel) PySem.F.slot_tuple_rmul.lookup (by decide +kernel)
theorem gx:seqRepeat? (.type "tuple")=pure (some (.builtin "tuple.__mul__")):=by
 unfold seqRepeat?;rw[PySem.seqSlot_of (T:="tuple") (name:="__mul__") (id:="tuple.__mul__") PySem.F.slot_tuple_mul.lookup (by decide +kernel),PySem.seqSlot_of (T:="tuple") (name:="__rmul__") (id:="tuple.__rmul__") PySem.F.slot_tuple_rmul.lookup (by decide +kernel)];rfl
theorem j9(a:Int)(t:Tok)(l:Addr)(ob:Obj)(items:Array Value)(n:Nat)(hc:ob.cls=.type "tuple")(hd:ob.data=.seq items n):
  Meets (Builtin.«int.__rmul__» ⟨[.int a t,.ref l],[]⟩) (fun _ R s=>s.heap.get? l=some ob/\R (.ok (.ret Value.notImplemented)) s):=
 .of_wp fun prog w A R s h=>by
  obtain⟨hp,g,d,tk,os⟩:=s;obtain⟨hl,h⟩:=h;obtain⟨c,dd,da,sl⟩:=ob;simp only at hc hd;subst hc hd
  wp_walk
  exact⟨_,rfl,h⟩
theorem AL(l:Addr)(items:Array Value)(ob:Obj)(n:Nat)(k:Int)(t:Tok)(hc:ob.cls=.type "tuple")(hd:ob.data=.seq items n)(hne:items.isEmpty=false)(h1:1<k)(h2:k<=1000)(hsz:items.size<=1000):
  Meets (Builtin.«tuple.__mul__» ⟨[.ref l,.int k t],[]⟩) (fun _ R s=>s.heap.get? l=some ob/\R (.ok (.ret (.ref s.heap.objs.size))) {s with heap:=s.heap.push {cls:=.type "tuple",data:=.seq ((List.replicate k.toNat items).foldl (·++·) #[])}}):=
 .of_wp fun prog w A R s h=>by
  obtain⟨hp,g,d,tk,os⟩:=s;obtain⟨hl,h⟩:=h;obtain⟨c,dd,da,sl⟩:=ob;simp only at hc hd;subst hc hd;have e1:(decide (k < -(2^63)) || decide (k >= 2^63))=false:=by rw[Lu (by lia),Lu (by lia)];rfl
  have e2:(items.isEmpty || k == 1)=false:=by rw[hne,Mc.mpr (by lia)];rfl
  have e3:(decide (k<=0) || items.isEmpty)=false:=by rw[hne,Lu (by lia)];rfl
  wp_walk using NK hl;rw[Lc (by rw[e1];exact Lg)]
  have ht:IsTup (Shared.heap ⟨hp,g,d,tk,os⟩) l items:=⟨_,hl,rfl,n,rfl⟩;show wpAny _ _ (Builtin.Tuple.tupleItemsOf (.ref l) >>= _) _ _ _;refine KU (tupleItemsOf_ ht ?_);rw[Lc (by rw[e2];exact Lg)]
  show wpAny _ _ (if (decide (k<=0) || items.isEmpty)=true then _ else _) _ _ _
  rw[Lc (by rw[e3];exact Lg)]
  have hm:(items.size:Int)*k<=1000*1000:=Int.mul_le_mul (by lia) h2 (by lia) (by lia)
  show wpAny _ _ (if (items.size:Int)*k >(2^63-1) / 8 then _ else _) _ _ _
  rw[Lc (by lia)]
  show wpAny _ _ (if Builtin.Tuple.tupleTooMany ((items.size:Int)*k)=true then _ else _) _ _ _
  have e4:Builtin.Tuple.tupleTooMany ((items.size:Int)*k)=false:=Lu (by
   have:((sizeLine:Nat):Int) >= 1000000:=by decide
   lia)
  rw[Lc (by rw[e4];exact Lg)]
  have hl2:((List.replicate k.toNat items).foldl (·++·) #[]).size<=sizeLine:=by
   have fs:∀(m:Nat) (acc:Array Value),((List.replicate m items).foldl (·++·) acc).size=acc.size+m*items.size:=fun m=>by
    induction m with
    |zero=>intro acc;simp
    |succ m ih=>intro acc;rw[LN,Ot,ih,Array.size_append,OY];lia
   rw[fs];have h3:k.toNat*items.size<=1000*1000:=Nat.mul_le_mul (by lia) hsz
   have h4:(1000000:Nat)<=sizeLine:=by decide
   simp;lia
  exact KU (m:=Builtin.Tuple.tupleExact _) (Mn (Lh ⟨_,rfl,h⟩) hl2)
theorem vf(its:List Value):∀(m:Nat) (acc:List Value),(List.replicate m its.toArray).foldl (·++·) acc.toArray=(acc++(List.replicate m its).flatten).toArray:=fun m acc=>foldl_rep its m acc
noncomputable def B_(K:Qf):R2:=fun x y H Q=>∃ a k xs,x=.ref a/\y=.int k/\bL K H a xs/\xs≠[]/\xs.length<=1000/\1<k/\k<=1000/\∀ p,H p=none->Q (.ref p) (upd H p (.tup (List.replicate k.toNat xs).flatten))
theorem AB:cE X (binaryOp .Mult) (B_ X.K):=by
 intro pins s σ H x y v u Q I rx ry h;obtain⟨a,k,xs,rfl,rfl,hx,hne,hsz,h1,h2,q⟩:=h;cases rx;obtain⟨t,rfl⟩:=ry;obtain⟨its,r,p,hz⟩:=I.tuple hx;obtain⟨ob,ho,hc,n,hd⟩:=id p;have hlen:=r.length;have hemp:its.toArray.isEmpty=false:=by
  cases its with
  |nil=>cases r;exact absurd rfl hne
  |cons a b=>rfl
 refine MR (T:="tuple") (U:="int") (by decide) ⟨_,ho,hc⟩ (fun s'=>Nk s' k t) dn PySem.F.fills_int_mul PySem.F.slot_int_rmul gx PySem.F.slot_int_index.lookup
  (M8 PySem.F.slot_int_rmul (Nk s k t) PySem.F.entry_int_rmul (PySem.F.args_int_rmul_2 _ _) (j9 k t a ob its.toArray n hc hd)
   ⟨ho,rfl,⟨_,ho,hc⟩,M8 PySem.F.slot_tuple_mul ⟨_,ho,hc⟩ PySem.F.entry_tuple_mul (PySem.F.args_tuple_mul_2 _ _) (AL a its.toArray ob n k t hc hd hemp h1 h2 (by rw[Ld];lia)) ⟨ho,?_⟩⟩)
 have e0:=vf its k.toNat [];rw[Mg] at e0;have e0':(List.replicate k.toNat its.toArray).foldl (·++·) #[]=(List.replicate k.toNat its).flatten.toArray:=e0;rw[e0'];refine⟨.ref s.heap.objs.size,_,I.laid (t':=s.toks) (o:=.tup (List.replicate k.toNat xs).flatten) (fun b ob q=>La _ q) (Lj _) ?_,rfl,q _ (I.aJ.fresh (Lj _))⟩;refine⟨?_,_,r.rep k.toNat,cU.new _ _⟩;rw[len_rep];have h3:k.toNat*xs.length<=1000*1000:=Nat.mul_le_mul (by lia) hsz
 exact Lk h3 (by decide)
noncomputable def ya(K:Qf):R2:=fun x y H Q=>DZ x y H Q\/B_ K x y H Q
theorem bY(K:Qf)(hK:X.K=K):cE X (binaryOp .Mult) (ya K):=by subst hK;exact zL.or AB
noncomputable def ji:U2:=fun r1 r2 μ Q=>match cont μ r1,cont μ r2 with
 |some (.int i),some (.int j)=>nL i j/\Q (.tr (.int (i*j))) μ
 |some (.lst xs),some (.int k)=>-(2^63)<=k/\k<2^63/\xs.length*k.toNat<=sizeLine/\Q (.fr (.lst (List.replicate k.toNat xs).flatten)) μ
 |some (.tup xs),some (.int k)=>(xs≠[]/\xs.length<=1000/\1<k/\k<=1000)/\Q (.tr (.tup (List.replicate k.toNat xs).flatten)) μ
 |_,_=>False
theorem bF:ic K (ya K) ji:=by
 intro F ad B σ H μ Q Qt x y r1 r2 hK l h1 h2 q k;unfold ji at q
 split at q
 ·rename_i i j e1 e2;exact .inl (vQ F ad B σ H μ Q Qt x y r1 r2 hK l h1 h2 (by unfold sA;rw[e1,e2];exact q) k)
 ·rename_i xs j e1 e2;exact .inl (vQ F ad B σ H μ Q Qt x y r1 r2 hK l h1 h2 (by unfold sA;rw[e1,e2];exact q) k)
 ·rename_i xs j e1 e2;have a:=h1.vw l e1;have b:=h2.vw l e2;subst hK;obtain rfl:=Vw.bZ b;obtain⟨_,_,rfl,ha,ra⟩:=Vw.tupI a;refine .inr ⟨_,_,_,rfl,rfl,bL.of ha,?_,by rw[ra.length];exact q.1.2.1,q.1.2.2.1,q.1.2.2.2,fun p hp=>k _ _ _ μ (Vr.u6 l (ra.rep _) hp) (Fr.same (bB.new hp)) (Kp.refl μ) q.2⟩
  rintro rfl;cases ra;exact q.1.1 rfl
 ·exact q.elim
end Y
namespace A
theorem D8(i j:Int)(μ:Mu)(Q:R->Mu->Prop):Y.ji (.tr (.int i)) (.tr (.int j)) μ Q=(nL i j/\Q (.tr (.int (i*j))) μ):=rfl
theorem Dw(xs:List T)(k:Int)(μ:Mu)(Q:R->Mu->Prop):Y.ji (.tr (.lst xs)) (.tr (.int k)) μ Q=(-(2^63)<=k/\k<2^63/\xs.length*k.toNat<=sizeLine/\Q (.fr (.lst (List.replicate k.toNat xs).flatten)) μ):=rfl
theorem GP(i j:Int)(μ:Mu)(Q:R->Mu->Prop):Y.GA (.int i) (.int j) μ Q=Q (.tr (.bl (!decide (i=j)))) μ:=rfl
theorem J_(i j:Str)(μ:Mu)(Q:R->Mu->Prop):Y.GA (.str i) (.str j) μ Q=Q (.tr (.bl (!decide (i=j)))) μ:=rfl
theorem Jf(xs ys:List T)(μ:Mu)(Q:R->Mu->Prop):Y.GA (.tup xs) (.tup ys) μ Q=(xs.all aN=true/\ys.all aN=true/\Q (.tr (.bl (!Y.ng xs ys))) μ):=rfl
end A
open PySem PySem.Spec PyProof PyProof.Rows
namespace Y
theorem eY:∀{us:List Value} {ns:List Int},IntsAre us ns->Vals (ns.map V.int) us
 |_,_,.nil=>.nil
 |_,_,.cons n t h=>.cons ⟨t,rfl⟩ (eY h)
theorem i_:∀{us:List Value} {ns:List Int},IntsAre us ns->us.length=ns.length
 |_,_,.nil=>rfl
 |_,_,.cons n t h=>by simp[i_ h]
section
variable {prog:Program} {w:World} {A:Around} {E:Value->Shared->Prop} {s:Shared}
theorem oh{vs:List Value}{Q:List Value->Shared->Prop}(hl:IsTup s.heap l vs.toArray)(hsz:vs.length<=sizeLine)
  (h:Q vs {s with heap:=(s.heap.push (seqObj "list" #[] 0)).update s.heap.objs.size (Obj.mapSeq (·++vs.toArray))}):wpAny (model prog w) A (collect (.ref l)) Q E s:=by
 obtain⟨o,ho,hc,n,hd⟩:=id hl;unfold collect;refine KU (wpAny_runValue (Nm entry_proto_collect' ?_));show wpAny _ _ (do again (.builtin "list.__iadd__" ⟨[<- newList [],.ref l],[]⟩)) _ _ s
 refine KU (N8 (Lh ⟨Code.quiet_builtin _ (by decide +kernel),Nm entry_list_iadd' ?_⟩))
 show wpAny _ _ (Builtin.List.listExtendWith (.ref s.heap.objs.size) (.ref l) (.ref s.heap.objs.size)) _ _ {s with heap:=s.heap.push (seqObj "list" #[] 0)}
 unfold Builtin.List.listExtendWith;have ho':(s.heap.push (seqObj "list" #[] 0)).get? l=some o:=La _ ho;refine KU (Ow (T:="tuple") ⟨o,ho',hc⟩ ?_);have ht:(Value.type "tuple" == Value.type "tuple")=true:=by rfl
 rw[Li (by rw[ht];simp)]
 refine KU (Ox ho' hd ?_);refine KU (Ox (xs:=#[]) (n:=0) (Lq _ rfl) rfl ?_);rw[Lc (by simp)]
 refine KU (N_ (xs:=#[]) (n:=0) (Lq _ rfl) rfl ?_ (LH _) (by show (#[]++vs.toArray).size<=sizeLine+1;simp only[Array.size_append,Ld,LC];lia))
 refine Lh ?_;show wpAny (model prog w) A (load s.heap.objs.size >>= _) Q E {s with heap:=(s.heap.push (seqObj "list" #[] 0)).update s.heap.objs.size (Obj.mapSeq (·++vs.toArray))}
 refine KU (wpAny_load (NB (Lq _ rfl) _) ?_);show wpAny _ _ (pure ((#[]:Array Value)++vs.toArray).toList) Q E _;rw[show ((#[]:Array Value)++vs.toArray).toList=vs by simp]
 exact Lh h
theorem qC{vs:List Value}(hl:IsTup s.heap l vs.toArray)(hI:IntsAre vs ns)(h64:vs.length<64)
  (h:∀(out:Array Value) (ns':List Int),IntsAre out.toList ns'->ns'.Perm ns->ns'.Pairwise (·<=·)->Q (.ref (s.heap.objs.size+1)) {s with heap:=sortedAll s.heap vs out}) :
  wpAny (model prog w) A (call (.builtin "sorted") [.ref l]) Q E s:=by
 have hz:vs.length<=sizeLine:=Lk (MI h64) (by decide)
 refine OR kind_sorted plain_sorted entry_sorted (args_sorted1 _) ?_;unfold Builtin.«sorted»;refine KU (m:=checkCount "sorted" 1 1 _) (Lh ?_);refine KU (oh hl hz ?_);refine KU (N8 ?_ hz);have hs:((s.heap.push (seqObj "list" #[] 0)).update s.heap.objs.size (Obj.mapSeq (·++vs.toArray))).objs.size=s.heap.objs.size+1:=by rw[Pa,size_push']
 have ho:(((s.heap.push (seqObj "list" #[] 0)).update s.heap.objs.size (Obj.mapSeq (·++vs.toArray))).push (seqObj "list" vs.toArray 0)).get? (s.heap.objs.size+1)=some (seqObj "list" vs.toArray 0):=by
  rw[<- hs];exact Lq _ rfl
 show wpAny _ _ _ _ _ {s with heap:=((s.heap.push (seqObj "list" #[] 0)).update s.heap.objs.size (Obj.mapSeq (·++vs.toArray))).push (seqObj "list" vs.toArray 0)}
 rw[hs];refine KU (LM (Mb slot_list_sort ⟨_,ho,rfl⟩ entry_list_sort (list_sort_tree ho hI h64 fun out ns' a1 a2 a3=>⟨_,rfl,?_⟩) (args_list_sort _)));exact Lh ⟨_,rfl,h out ns' a1 a2 a3⟩
end
noncomputable def BU(K:Qf):List V->Hp->VK->Prop:=fun xs H Q=>∃ p ns,xs=[.ref p]/\bL K H p (ns.map V.int)/\ns.length<64/\∀ ns':List Int,ns'.Perm ns->ns'.Pairwise (·<=·)->∀ l,H l=none->Q (.ref l) (upd H l (.lst (ns'.map V.int)))
theorem uF(K:Qf)(hK:X.K=K):aQ X (.builtin "sorted") (BU K):=by
 subst hK;intro pins s σ H xs us Q I r h;obtain⟨p,ns,rfl,hq,h64,q⟩:=h;obtain⟨u,rfl,ru⟩:=vals1 r;cases ru;obtain⟨its,rv,pl,hz⟩:=I.tuple hq;have hi:=intsAre_of rv;refine qC pl hi (by rw[i_ hi];exact h64) fun out ns' a1 a2 a3=>?_
 obtain⟨e,he⟩:=sortedAll_at s.heap its out;refine⟨.ref (s.heap.objs.size+1),_,I.laid (t':=s.toks) (fun b ob q=>sortedAll_old q) (MH _) (show aP X.prog X.w _ _ _ (.lst (ns'.map V.int)) from⟨?_,out.toList,e,eY a1,by simpa using he⟩),rfl,q ns' a2 a3 _ (I.aJ.fresh (MH _))⟩
 rw[Lb,a2.length_eq];exact Lk (MI h64) (by decide)
theorem dk:∀ ns:List Int,aj K H B (ns.map V.int) (ns.map T.int)
 |[]=>.nil
 |n::ns=>.cons (.int _) (dk ns)
theorem dm:∀{ns:List Int} {vs:List V},aj K H B vs (ns.map T.int)->vs=ns.map V.int
 |[],_,.nil=>rfl
 |n::ns,_,.cons h r=>by cases h;rw[dm r];rfl
noncomputable def HZ(K:Qf):List V->Hp->VK->Prop:=fun xs H Q=>∃(p:Addr) (ns:List Int),xs=[.ref p]/\bH K H p (ns.map V.int)/\Q (.int ns.sum) H
theorem tV(K:Qf)(hK:X.K=K)(hc:X.calm=true):aQ X (.builtin "sum") (HZ K):=by subst hK;exact t_ hc
noncomputable def Ds:T->Mu->(R->Mu->Prop)->Prop:=fun t μ Q=>match t with
 |.lst xs=>∃ ns:List Int,xs=ns.map T.int/\Q (.tr (.int ns.sum)) μ
 |_=>False
theorem CQ:RC K (HZ K) (vq Ds):=iq fun F ad B σ H μ Q Qt x t hK l v1 q k=>by
 subst hK;unfold Ds at q
 split at q
 ·obtain⟨ns,rfl,q⟩:=q;obtain⟨_,_,rfl,ha,ra⟩:=Vw.ef v1;exact⟨_,ns,rfl,by rw[<- dm ra];exact bH.of ha,k _ _ _ (Vr.flat l (.int _)) Fr.refl q⟩
 ·exact q.elim
noncomputable def FC(i j:Int):Prop:=0<j/\j<4611686018427387904
theorem jm:cE X (binaryOp .FloorDiv) (rI FC fun i j=>.int (i / j)):=FY fun i j _ _ _ _ _ hc q=>by
 have h1:(0:Int)<j:=hc.1;have h2:j<4611686018427387904:=hc.2;exact floordiv_int (by lia) (by rw[Int.fdiv_eq_ediv_of_nonneg i (by lia)];exact q) (.inl (PyProof.noPylong_of_log2 (MW ((Nat.log2_lt (k:=62) (by lia)).mpr (by lia)) (by decide))))
end Y
namespace A
theorem Gm(xs:List T)(μ:Mu)(Q:R->Mu->Prop):Y.Ds (.lst xs) μ Q=(∃ ns:List Int,xs=ns.map T.int/\Q (.tr (.int ns.sum)) μ):=rfl
end A
namespace Y
theorem kK:∀ ns:List Str,aj K H B (ns.map V.str) (ns.map T.str)
 |[]=>.nil
 |n::ns=>.cons (.str _) (kK ns)
theorem lq:∀{ns:List Str} {vs:List V},aj K H B vs (ns.map T.str)->vs=ns.map V.str
 |[],_,.nil=>rfl
 |n::ns,_,.cons h r=>by cases h;rw[lq r];rfl
abbrev Cc:=Str->List R->Mu->(R->Mu->Prop)->Prop
noncomputable def Im(um:Cc)(uo:UE)(us:UA):UE:=fun μ Q=>uo μ fun ro μ1=>match ro with
 |.tr (.str z)=>us μ1 fun rs μ2=>um z rs μ2 Q
 |_=>False
noncomputable def Hz(K:Qf)(r:V->List V->Hp->VK->Prop)(um:Cc):Prop:=∀(F:Fx) (ad:Nat->Addr) (B:aR) (σ:St) (H:Hp) (μ:Mu) (Q:VK) (Qt:R->Mu->Prop) (z:Str) (xs:List V) (rs:List R),F.K=K->Rl F ad B σ H μ->Paired (Hv F ad B H μ) xs rs->um z rs μ Qt ->
 (∀ v H' r μ',Vr F ad B σ H' μ' v r->Fr B H (Bv B v r) H'->Kp μ μ'->Qt r μ'->Q v H')->r (.str z) xs H Q
theorem sm{o:Expr}{uo:UE}{us:UA}{pos:Pos}(K:Qf)(hK:X.K=K){id:String}{r:V->List V->Hp->VK->Prop}{um:Cc}(slot:Slot "str" name id)(hty:typeOf (.builtin id)=pure (.type "method_descriptor"))(hm:vt X id r)(hr:Hz X.K r um)(ho:YE X o uo)(ha:YA X (e::es) us)
  (hbase:autoParam (attributeBase o name X.env (eval o X.env)=eval o X.env) ℜ0) (hline:autoParam ((apos.endLine == pos.line)=true) ℜ0) (h:autoParam ((e::es).all cL=true) ℜ0) (hl:autoParam ((e::es).length<30) ℜ1):YE X (.Call (.Attribute o name apos) (e::es) [] pos) (Im um uo us):=by
 obtain⟨t,q,rr⟩:=ho;obtain⟨t',q',r'⟩:=ha;refine⟨_,Z.bm K hK PySem.F.plainAttrs_str slot hty hm q q' hbase hline h hl,fun F ad B σ H μ Q Qt hF l q k=>rr F ad B σ H μ _ _ hF l q fun v H1 r1 μ1 v1 f1 k1 q1=>?_⟩
 split at q1
 ·rename_i z;obtain⟨l1,rp⟩:=v1;obtain rfl:=Rep.gf rp;refine⟨rfl,?_⟩;refine r' F ad B σ H1 μ1 _ _ hF l1 q1 fun xs H2 rs μ2 l2 ps f2 k2 q2=>?_;exact hr F ad B σ H2 μ2 _ _ z xs rs hF l2 ps q2 fun v H3 r3 μ3 v3 f3 k3 q3=>k v H3 r3 μ3 v3 ((f1.d.trans f2).trans f3) ((k1.trans k2).trans k3) q3
 ·exact q1.elim
theorem yJ(l:List Nat):∀(n a:Nat),((List.range n).map (fun k=>a+k)).filterMap (l[·]?)=(l.drop a).take n
 |0,_=>by simp
 |n+1,a=>by
  rw[Oy,L5,List.filterMap_append,yJ l n a,List.take_add_one,Mr]
  cases h:l[a+n]?<;>simp[h]
theorem oM(lo hi:Option Int)(n:Nat):Builtin.Str.strSliceIndices lo hi 1 n=(List.range (HT.bq n n hi-HT.bq n 0 lo)).map (fun k=>HT.bq n 0 lo+k):=by
 have ea:∀(v:Int),max 0 (min (if v<0 then v+(n:Int) else v) (n:Int))=(((if v<0 then (v+(n:Int)).toNat else min v.toNat n):Nat):Int):=by
  intro v;split<;>lia
 have e:Builtin.Str.strSliceIndices lo hi 1 n=sliceRange (HT.bq n 0 lo) (HT.bq n n hi) 1:=by
  cases lo with
  |none=>cases hi with
   |none=>rfl
   |some j=>show sliceRange 0 (max 0 (min (if j<0 then j+(n:Int) else j) (n:Int))) 1=_;rw[ea];rfl
  |some i=>cases hi with
   |none=>show sliceRange (max 0 (min (if i<0 then i+(n:Int) else i) (n:Int))) n 1=_;rw[ea];rfl
   |some j=>show sliceRange (max 0 (min (if i<0 then i+(n:Int) else i) (n:Int))) (max 0 (min (if j<0 then j+(n:Int) else j) (n:Int))) 1=_;rw[ea,ea];rfl
 rw[e];generalize HT.bq n 0 lo=a;generalize HT.bq n n hi=b;unfold sliceRange;simp only[show ((1:Int) > 0)=True from by simp,MV,Int.one_mul]
 have c:(if (a:Int)<(b:Int) then ((b:Int)-a+1-1) / 1 else 0).toNat=b-a:=by split<;>lia
 rw[c];refine List.map_congr_left fun k _=>?_;lia
theorem qS(z:Str)(lo hi:Option Int):Txt.slice z lo hi=⟨((z.cps.toList.drop (HT.bq z.cps.toList.length 0 lo)).take (HT.bq z.cps.toList.length z.cps.toList.length hi-HT.bq z.cps.toList.length 0 lo)).toArray⟩:=by
 have hl:z.cps.toList.length=z.length:=LJ;rw[hl];have hp:(Builtin.Str.strSliceIndices lo hi 1 z.length).filterMap (z.cps[·]?)=(z.cps.toList.drop (HT.bq z.length 0 lo)).take (HT.bq z.length z.length hi-HT.bq z.length 0 lo):=by
  rw[oM];have:=yJ z.cps.toList (HT.bq z.length z.length hi-HT.bq z.length 0 lo) (HT.bq z.length 0 lo)
  simpa using this
 unfold Txt.slice;split
 ·rename_i h;rw[oM] at h;simp at h;have h2:=HT.pU z.length z.length (Lj _) hi;have h3:=HT.pU z.length 0 (LH _) lo;have a0:HT.bq z.length 0 lo=0:=by lia
  have b0:HT.bq z.length z.length hi=z.length:=by lia
  rw[a0,b0,Nx,Pb,<- hl,Od]
 ·rw[hp]
noncomputable def fC(z:Str)(lo hi:Option Int):Str:=⟨(bT z.cps.toList lo hi).toArray⟩
theorem uf(z:Str)(lo hi:Option Int):Txt.slice z lo hi=fC z lo hi:=qS z lo hi
noncomputable def Hb:V->Option Int->Option Int->Hp->VK->Prop:=fun x lo hi H Q=>∃ z,x=.str z/\z.length<=sizeLine/\Q (.str (fC z lo hi)) H
theorem Ee:vo X Hb:=by
 intro pins s σ H x v vl vu lo hi sl Q I rx hs pl pu h;obtain⟨z,rfl,hz,q⟩:=h;rw[<- uf] at q;obtain⟨t,rfl⟩:=rx;refine⟨"str",_,PySem.F.slot_str_getitem.lookup,PM _ _ _,?_⟩
 cases pl<;>cases pu
 ·exact Nf (l:=none) (u:=none) (st:=none) hs rfl (Oz ⟨Lk (Txt.slice_le z _ _) hz,fun t' k=>⟨.str _,H,I.tok _,⟨_,rfl⟩,q⟩⟩)
 ·exact Nf (l:=none) (u:=some (_,_)) (st:=none) hs rfl (Oz ⟨Lk (Txt.slice_le z _ _) hz,fun t' k=>⟨.str _,H,I.tok _,⟨_,rfl⟩,q⟩⟩)
 ·exact Nf (l:=some (_,_)) (u:=none) (st:=none) hs rfl (Oz ⟨Lk (Txt.slice_le z _ _) hz,fun t' k=>⟨.str _,H,I.tok _,⟨_,rfl⟩,q⟩⟩)
 ·exact Nf (l:=some (_,_)) (u:=some (_,_)) (st:=none) hs rfl (Oz ⟨Lk (Txt.slice_le z _ _) hz,fun t' k=>⟨.str _,H,I.tok _,⟨_,rfl⟩,q⟩⟩)
noncomputable def Kf(K:Qf):V->Option Int->Option Int->Hp->VK->Prop:=fun x lo hi H Q=>Fz K x lo hi H Q\/Hb x lo hi H Q
theorem J9(K:Qf)(hK:X.K=K):vo X (Kf K):=(IX K hK).or Ee
noncomputable def Dh(a:Option T)(lo hi:Option Int):Option (Prop×R):=match a with
 |some (.lst xs)=>some (True,.fr (.lst (bT xs lo hi)))
 |some (.e7 xs)=>some (True,.fr (.lst (bT xs lo hi)))
 |some (.tup xs)=>some (True,.tr (.tup (bT xs lo hi)))
 |some (.str z)=>some (z.length<=sizeLine,.tr (.str (fC z lo hi)))
 |_=>none
noncomputable def D6(ue:UE)(ul uh:UO):UE:=fun μ Q=>ue μ fun r μ1=>ul μ1 fun lo μ2=>uh μ2 fun hi μ3=>mR (Dh (cont μ3 r.d) lo hi) fun r=>Q r μ3
theorem E3{p2 pos:Pos}{lo:Option Expr}{ul uh:UO}(K:Qf)(hK:X.K=K)(he:YE X e ue)(hl:YO X lo ul)(hu:YO X hi uh):YE X (.Subscript e (.Slice lo hi none p2) pos) (D6 ue ul uh):=by
 obtain⟨t,q,r⟩:=he;obtain⟨tl,ql,rl⟩:=hl;obtain⟨th,qh,rh⟩:=hu;refine⟨_,Z.slice (J9 K hK) q ql qh,fun F ad B σ H μ Q Qt hF l q k=>r F ad B σ H μ _ _ hF l q fun v H1 r1 μ1 v1 f1 k1 q1=>rl F ad B σ H1 μ1 _ _ hF v1.rl q1 fun i H2 μ2 l2 f2 k2 q2=>rh F ad B σ H2 μ2 _ _ hF l2 q2 fun j H3 μ3 l3 f3 k3 q3=>?_⟩;have hF':F.K=K:=hF.trans hK;clear hF;subst hF';have hv:=v1.hv.fr (f2.trans f3) (k2.trans k3);have ff:=(f1.d.trans f2).trans f3;have kk:=(k1.trans k2).trans k3;generalize eo:cont μ3 r1.d=o at q3;unfold Dh mR at q3
 cases o with
 |none=>exact q3.elim
 |some o=>cases o with
  |il n=>exact q3.elim
  |lst xs =>
   have w:=hv.vw l3 eo;obtain⟨_,_,rfl,ha,ra⟩:=Vw.ef w;exact .inl (.inl ⟨_,_,rfl,bH.of ha,fun p hp=>k _ _ _ μ3 (Vr.i5 l3 (aj.cut ra i j) hp) (ff.trans (Fr.more hp)) kk q3.2⟩)
  |e7 xs =>
   have w:=hv.vw l3 eo;obtain⟨_,_,rfl,ha,ra⟩:=Vw.uR w;exact .inl (.inl ⟨_,_,rfl,ha,fun p hp=>k _ _ _ μ3 (Vr.i5 l3 (aj.cut ra i j) hp) (ff.trans (Fr.more hp)) kk q3.2⟩)
  |tup xs =>
   have w:=Hv.oD l3 hv eo;have w':=w;obtain⟨_,_,rfl,na,ha,ra⟩:=Rep.tupI w;by_cases z:HT.bq xs.length 0 i=0/\HT.bq xs.length xs.length j=xs.length
   ·have e0:bT xs i j=xs:=by unfold bT;rw[z.1,z.2,Pb,Nx,Od]
    have q4:=q3.2;rw[e0] at q4;exact .inl (.inr (.inr ⟨_,_,rfl,bL.of ha,by rw[ra.length];exact z.1,by rw[ra.length];exact z.2,k _ H3 _ μ3 (Vr.flat l3 w') ff kk q4⟩))
   ·exact .inl (.inr (.inl ⟨_,_,rfl,bL.of ha,by rw[ra.length];exact z,fun p hp=>k _ _ _ μ3 (Vr.u6 l3 (aj.cut ra i j) hp) (ff.trans (Fr.same (bB.new hp))) kk q3.2⟩))
  |str z =>
   have w:=hv.vw l3 eo;obtain rfl:=Vw.gf w;exact .inr ⟨z,rfl,q3.1,k _ H3 _ μ3 (Vr.flat l3 (.str _)) ff kk q3.2⟩
  |aC=>exact q3.elim
  |bl b=>exact q3.elim
  |int n=>exact q3.elim
  |dI a b=>exact q3.elim
  |ig a b=>exact q3.elim
  |exc a b=>exact q3.elim
  |dq xs=>exact q3.elim
noncomputable def jR:UM:=fun j rs μ Q=>match rs with
 |[.tr (.int i)]=>(match (μ[j]?).bind Sl.box with
  |some (.lst ts)=>-(2^63)<=i/\i<2^63/\∃ k t,seqIndex? i ts.length=some k/\ts[k]?=some t/\Q (.tr t) (de μ j (.lst (ts.eraseIdx k)))
  |_=>False)
 |_=>False
theorem yR:RM K xZ jR:=by
 intro F ad B σ H μ Q Qt j s c xs rs hF l e b ps q k;unfold jR at q
 split at q
 ·rename_i i;obtain⟨_,_,rfl,h,ps⟩:=Paired.aO ps;obtain rfl:=Paired.eV ps;rw[e] at q
  cases aL h
  have q':(match s.box with|some (.lst ts)=>-(2^63)<=i/\i<2^63/\∃ k t,seqIndex? i ts.length=some k/\ts[k]?=some t/\Qt (.tr t) (de μ j (.lst (ts.eraseIdx k)))|_=>False):=q
  rw[b] at q';rcases ((l.slot j s e).boxed b).2.2.1.is with ⟨ts,vs,rfl,hl,rv⟩|⟨_,_,_,rfl,_⟩
  case inr=>exact q'.elim
  simp only at q';obtain⟨h1,h2,n,t,hk,ht,q2⟩:=q';obtain⟨y,hy,ry⟩:=rv.get ht;have fs:Fr B H B (upd H (ad j) (.lst (vs.eraseIdx n))):=Fr.set ((l.slot j s e).boxed b).2.1;refine⟨_,_,i,n,y,rfl,rfl,hl,h1,h2,by rw[rv.length];exact hk,hy,?_⟩
  have l3:=l.put e b (rv.erase n);unfold de at q2;rw[e] at q2;exact k _ _ (.tr t) _ (Vr.flat l3 (ry.fr fs)) fs (Kp.set e b (Sl.iP b)) q2
 ·exact q.elim
noncomputable def GY(i:Nat):UG:=fun r μ Q=>match r with
 |.tr t=>vm μ i/\Q (μ.set i (.tr t))
 |.fr t=>vm μ i/\Q (μ.set i (.tr t))
 |.br _=>False
theorem jK:RG K (cV i) (GY i):=fun F ad B σ H μ v r B0 H0 Q Qt hK h f q k=>by
 cases r with
 |tr t=>exact k ad B _ H _ (h.1.CO (mL q.1) h.2) f q.2
 |br i=>exact q.elim
 |fr c =>
  refine k ad B _ H _ (h.rl.CO (mL q.1) h.hv) (f.trans (Fr.less fun b z=>?_)) q.2;obtain⟨_,a,rfl,_⟩:=h;exact Or.inr z
section
variable {X:Cx} {e elt tg iter:Expr} {ifs:List Expr} {ue:UE} {ut:UT} {ui:UI} {pos pos' p2:Pos} {x:Str} {osc scope:Scope} {ON own N:List Str}
theorem D0(hN:X.N.Nodup)(hi:X.N[i]?=some x)(hx:Loc X.env.scope x)(hf:autoParam (X.fn x=true\/X.env.scope.names.lookup x=some .local) ℜ2):YG X (.Name x pos) (GY i):=⟨_,Z.aK hN hi hx hf,jK⟩
theorem vg(hN:X.N.Nodup)(hi:X.N[i]?=some x)(hx:Loc X.env.scope x)(he:YE X e ue)(hs:autoParam (Z.Fn e=true) ℜ0)(hf:autoParam (X.fn x=true\/X.env.scope.names.lookup x=some .local) ℜ2):
  YS X (.Assign [.Name x pos'] e pos) (kg ue (GY i)):=by
 obtain⟨t,q,r⟩:=he;exact⟨_,Z.set hN hi hx q hs hf,jf r jK⟩
theorem qd(hN:X.N.Nodup)(hj:X.N[j]?=some x)(hx:Loc X.env.scope x)(S:bS osc ON scope own N)(hosc:X.env.scope=osc)(hON:X.N=ON)(hc:X.calm=true)(ho:own.length=1)(hi:YI X tg iter ui)
  (hg:∀ C s H fp,QG (aE X scope N C s H fp) tg (cV 0)) (ht:∀ C s H fp,BR (aE X scope N C s H fp) ifs ut) (he:∀ C s H fp,YE (aE X scope N C s H fp) elt ue)
  (hsw:autoParam (swapsWith (.ListComp elt [⟨tg,iter,ifs,0⟩] scope p2) (some (.Name x pos')) pos.line X.env=pure true) ℜ0)
  (hf:autoParam (X.fn x=true\/X.env.scope.names.lookup x=some .local) ℜ2) (hs:autoParam (∀ x,foldedSetIterable iter X.env x=pure x) ℜ3) :
  YS X (.Assign [.Name x pos'] (.ListComp elt [⟨tg,iter,ifs,0⟩] scope p2) pos) (kg (iG wV Hf ui ut ue) (GY j)):=by
 obtain⟨t,q,r⟩:=hi;have h:=Z.setC (tc:=va X.K ut) (te:=uw X.K ue) hN hj hx S hosc hON hc q hg (fun C s H fp=>(ht C s H fp).Bs) (fun C s H fp=>(he C s H fp).Bs) hsw hf hs;rw[ho] at h;exact⟨_,h,jf (iO lJ r rC sT) jK⟩
end
end Y
namespace A
theorem Im(um:Y.Cc)(uo:UE)(us:UA)(μ:Mu)(Q:R->Mu->Prop):Y.Im um uo us μ Q=uo μ fun ro μ1=>match ro with|.tr (.str z)=>us μ1 fun rs μ2=>um z rs μ2 Q|_=>False:=rfl
theorem jR(j:Nat)(i:Int)(μ:Mu)(Q:R->Mu->Prop):Y.jR j [.tr (.int i)] μ Q=(match (μ[j]?).bind Sl.box with
  |some (.lst ts)=>-(2^63)<=i/\i<2^63/\∃ k t,seqIndex? i ts.length=some k/\ts[k]?=some t/\Q (.tr t) (de μ j (.lst (ts.eraseIdx k)))
  |_=>False):=rfl
theorem J6(i:Nat)(t:T)(μ:Mu)(Q:Mu->Prop):Y.GY i (.fr t) μ Q=(Y.vm μ i/\Q (μ.set i (.tr t))):=rfl
end A
namespace Y
theorem xI(l:Addr)(items:Array Value)(ob:Obj)(n:Nat)(k:Int)(t:Tok)(hc:ob.cls=.type "tuple")(hd:ob.data=.seq items n)(h1:k=1):
  Meets (Builtin.«tuple.__mul__» ⟨[.ref l,.int k t],[]⟩) (fun _ R s=>s.heap.get? l=some ob/\R (.ok (.ret (.ref l))) s):=
 .of_wp fun prog w A R s h=>by
  obtain⟨hp,g,d,tk,os⟩:=s;obtain⟨hl,h⟩:=h;obtain⟨c,dd,da,sl⟩:=ob;simp only at hc hd;subst hc hd;have e1:(decide (k < -(2^63)) || decide (k >= 2^63))=false:=by rw[Lu (by lia),Lu (by lia)];rfl
  have e2:(items.isEmpty || k == 1)=true:=by rw[PN.mpr h1,Bool.or_true]
  wp_walk using NK hl;exact⟨_,rfl,h⟩
theorem x9(l:Addr)(items:Array Value)(ob:Obj)(n:Nat)(k:Int)(t:Tok)(hc:ob.cls=.type "tuple")(hd:ob.data=.seq items n)(hne:items.isEmpty=false)(h1:k<=0)(h2:-(2^63)<=k):
  Meets (Builtin.«tuple.__mul__» ⟨[.ref l,.int k t],[]⟩) (fun _ R s=>s.heap.get? l=some ob/\R (.ok (.ret (.ref s.heap.objs.size))) {s with heap:=s.heap.push {cls:=.type "tuple",data:=.seq #[]}}):=
 .of_wp fun prog w A R s h=>by
  obtain⟨hp,g,d,tk,os⟩:=s;obtain⟨hl,h⟩:=h;obtain⟨c,dd,da,sl⟩:=ob;simp only at hc hd;subst hc hd;have e1:(decide (k < -(2^63)) || decide (k >= 2^63))=false:=by rw[Lu (by lia),Lu (by lia)];rfl
  have e2:(items.isEmpty || k == 1)=false:=by rw[hne,Mc.mpr (by lia)];rfl
  have e3:(decide (k<=0) || items.isEmpty)=true:=by rw[LG h1];rfl
  wp_walk using NK hl;rw[Lc (by rw[e1];exact Lg)]
  have ht:IsTup (Shared.heap ⟨hp,g,d,tk,os⟩) l items:=⟨_,hl,rfl,n,rfl⟩;show wpAny _ _ (Builtin.Tuple.tupleItemsOf (.ref l) >>= _) _ _ _;refine KU (tupleItemsOf_ ht ?_);rw[Lc (by rw[e2];exact Lg)]
  show wpAny _ _ (if (decide (k<=0) || items.isEmpty)=true then _ else _) _ _ _
  rw[Li e3];exact KU (m:=Builtin.Tuple.tupleExact _) (Mn (Lh ⟨_,rfl,h⟩) (show (#[]:Array Value).size<=sizeLine by decide))
noncomputable def C9(K:Qf):R2:=fun x y H Q=>∃ a k xs,x=.ref a/\y=.int k/\bL K H a xs/\xs≠[]/\k<=1/\-(2^63)<=k/\(k=1->Q (.ref a) H)/\(k<=0->∀ p,H p=none->Q (.ref p) (upd H p (.tup [])))
theorem A1:cE X (binaryOp .Mult) (C9 X.K):=by
 intro pins s σ H x y v u Q I rx ry h;obtain⟨a,k,xs,rfl,rfl,hx,hne,h1,h2,q1,q0⟩:=h;cases rx;obtain⟨t,rfl⟩:=ry;obtain⟨its,r,p,hz⟩:=I.tuple hx;obtain⟨ob,ho,hc,n,hd⟩:=id p;have hlen:=r.length;have hemp:its.toArray.isEmpty=false:=by
  cases its with
  |nil=>cases r;exact absurd rfl hne
  |cons a b=>rfl
 by_cases c:k=1
 ·exact MR (T:="tuple") (U:="int") (by decide) ⟨_,ho,hc⟩ (fun s'=>Nk s' k t) dn PySem.F.fills_int_mul PySem.F.slot_int_rmul gx PySem.F.slot_int_index.lookup
   (M8 PySem.F.slot_int_rmul (Nk s k t) PySem.F.entry_int_rmul (PySem.F.args_int_rmul_2 _ _) (j9 k t a ob its.toArray n hc hd)
    ⟨ho,rfl,⟨_,ho,hc⟩,M8 PySem.F.slot_tuple_mul ⟨_,ho,hc⟩ PySem.F.entry_tuple_mul (PySem.F.args_tuple_mul_2 _ _) (xI a its.toArray ob n k t hc hd c) ⟨ho,⟨.ref a,H,I,rfl,q1 c⟩⟩⟩)
 ·refine MR (T:="tuple") (U:="int") (by decide) ⟨_,ho,hc⟩ (fun s'=>Nk s' k t) dn PySem.F.fills_int_mul PySem.F.slot_int_rmul gx PySem.F.slot_int_index.lookup
   (M8 PySem.F.slot_int_rmul (Nk s k t) PySem.F.entry_int_rmul (PySem.F.args_int_rmul_2 _ _) (j9 k t a ob its.toArray n hc hd)
    ⟨ho,rfl,⟨_,ho,hc⟩,M8 PySem.F.slot_tuple_mul ⟨_,ho,hc⟩ PySem.F.entry_tuple_mul (PySem.F.args_tuple_mul_2 _ _) (x9 a its.toArray ob n k t hc hd hemp (by lia) h2) ⟨ho,?_⟩⟩)
  refine⟨.ref s.heap.objs.size,_,I.laid (t':=s.toks) (o:=.tup []) (fun b ob q=>La _ q) (Lj _) ?_,rfl,q0 (by lia) _ (I.aJ.fresh (Lj _))⟩
  exact⟨LH _,[],.nil,cU.new _ _⟩
noncomputable def C6(K:Qf):R2:=fun x y H Q=>ya K x y H Q\/C9 K x y H Q
theorem mE(K:Qf)(hK:X.K=K):cE X (binaryOp .Mult) (C6 K):=by subst hK;exact (bY X.K rfl).or A1
noncomputable def vJ:U2:=fun r1 r2 μ Q=>match cont μ r1,cont μ r2 with
 |some (.int i),some (.int j)=>nL i j/\Q (.tr (.int (i*j))) μ
 |some (.lst xs),some (.int k)=>-(2^63)<=k/\k<2^63/\xs.length*k.toNat<=sizeLine/\Q (.fr (.lst (List.replicate k.toNat xs).flatten)) μ
 |some (.tup xs),some (.int k)=>(xs≠[]/\xs.length<=1000/\-(2^63)<=k/\k<=1000)/\Q (.tr (.tup (List.replicate k.toNat xs).flatten)) μ
 |_,_=>False
theorem mG:ic K (C6 K) vJ:=by
 intro F ad B σ H μ Q Qt x y r1 r2 hK l h1 h2 q k;unfold vJ at q
 split at q
 ·rename_i i j e1 e2;exact .inl (bF F ad B σ H μ Q Qt x y r1 r2 hK l h1 h2 (by unfold ji;rw[e1,e2];exact q) k)
 ·rename_i xs j e1 e2;exact .inl (bF F ad B σ H μ Q Qt x y r1 r2 hK l h1 h2 (by unfold ji;rw[e1,e2];exact q) k)
 ·rename_i xs j e1 e2;by_cases c:1<j
  ·exact .inl (bF F ad B σ H μ Q Qt x y r1 r2 hK l h1 h2 (by unfold ji;rw[e1,e2];exact⟨⟨q.1.1,q.1.2.1,c,q.1.2.2.2⟩,q.2⟩) k)
  ·have a:=Hv.oD l h1 e1;have b:=h2.vw l e2;subst hK;obtain rfl:=Vw.bZ b;have a':=a;obtain⟨_,_,rfl,na,ha,ra⟩:=Rep.tupI a;refine .inr ⟨_,_,_,rfl,rfl,bL.of ha,?_,by lia,q.1.2.2.1,fun e=>?_,fun e p hp=>?_⟩
   ·rintro rfl;cases ra;exact q.1.1 rfl
   ·subst e;have q2:=q.2;rw[show (1:Int).toNat=1 from rfl] at q2;simp only[List.replicate,Mt,List.flatten_nil,L8] at q2;exact k _ H _ μ (Vr.flat l a') Fr.refl (Kp.refl μ) q2
   ·have q2:=q.2;rw[show j.toNat=0 by lia] at q2
    exact k _ _ _ μ (Vr.u6 l .nil hp) (Fr.same (bB.new hp)) (Kp.refl μ) q2
 ·exact q.elim
noncomputable def fL(z y:Str)(i:Int):Bool:=decide (fromIndex z.length i+y.length<=z.length) && Builtin.Str.subAt z y (fromIndex z.length i)
noncomputable def nv:V->List V->Hp->VK->Prop:=fun x vs H Q=>∃ z y i,x=.str z/\vs=[.str y,.int i]/\Q (.bl (fL z y i)) H
theorem qj:vt X "str.startswith" nv:=by
 intro pins s σ H x xs v us Q I rx rs h;obtain⟨z,y,i,rfl,rfl,q⟩:=h;obtain⟨t,rfl⟩:=rx;obtain⟨_,_,rfl,r1,rs⟩:=Paired.fb rs;obtain⟨_,_,rfl,r2,rs⟩:=Paired.fb rs;obtain rfl:=Paired.mM rs;obtain⟨u1,rfl⟩:=r1;obtain⟨u2,rfl⟩:=r2;exact call_gives PySem.F.slot_str_startswith (PM _ _ _) PySem.F.entry_str_startswith (PySem.F.args_str_startswith_3 _ _ _) (gives_str_startswith_from z y i t _ _) ⟨.bl _,H,I,rfl,q⟩
noncomputable def fP:Cc:=fun z rs μ Q=>match rs with
 |[.tr (.str y),.tr (.int i)]=>Q (.tr (.bl (fL z y i))) μ
 |_=>False
theorem pY:Hz K nv fP:=by
 intro F ad B σ H μ Q Qt z xs rs hF l ps q k;unfold fP at q
 split at q
 ·obtain⟨_,_,rfl,h,ps⟩:=Paired.aO ps;obtain⟨_,_,rfl,h2,ps⟩:=Paired.aO ps;obtain rfl:=Paired.eV ps
  cases aL h
  cases aL h2
  exact⟨z,_,_,rfl,rfl,k _ H _ μ (Vr.flat l (.bl _)) Fr.refl (Kp.refl μ) q⟩
 ·exact q.elim
theorem mf{e c:Option Expr}{pos:Pos}:YS X (.Raise e c pos) (fun _ _=>False):=⟨fun _ _ _=>False,⟨fun _ _ _ _ _ _ h=>h.elim⟩,fun _ _ _ _ _ _ _ _ _ _ h _=>h⟩
end Y
namespace A
theorem De(xs:List T)(k:Int)(μ:Mu)(Q:R->Mu->Prop):Y.vJ (.tr (.tup xs)) (.tr (.int k)) μ Q=((xs≠[]/\xs.length<=1000/\-(2^63)<=k/\k<=1000)/\Q (.tr (.tup (List.replicate k.toNat xs).flatten)) μ):=rfl
theorem fP(z y:Str)(i:Int)(μ:Mu)(Q:R->Mu->Prop):Y.fP z [.tr (.str y),.tr (.int i)] μ Q=Q (.tr (.bl (Y.fL z y i))) μ:=rfl
end A
abbrev Xw:=T->Mu->Prop
abbrev UX:=Mu->(R->Mu->Prop)->Xw->Prop
abbrev KA:=Ed->Xw->Mu->Prop
noncomputable def EB(K:Qf)(mg:Str->Option Value)(x:Str)(f:Addr)(cdv:Value):Prop:=mg x=some (.ref f)/\∃(o:Obj) (fd:FuncData),K.lookup f=some o/\o.data=.func fd/\fd.code=cdv
abbrev UJ:=Mu->(Mu->Prop)->Prop
theorem Af(h:n<=40000):n<=sizeLine:=Lk h (by decide)
namespace Y
noncomputable def fJ(t:T)(xs:List T):Bool:=xs.any fun y=>JU y t
theorem sy{x:V}{t:T}(h:Rep K H B x t)(f:aN t=true):∀{ys:List V} {us:List T},aj K H B ys us->us.all aN=true->dF x=true/\ys.all dF=true/\Ii x ys=fJ t us
 |_,_,.nil,_=>by
  refine⟨?_,rfl,rfl⟩
  cases h<;>first|rfl|cases f
 |_,_,.cons h2 r,f2=>by
  rw[L_,LQ] at f2;obtain⟨a1,a2,a3⟩:=sy h f r f2.2;obtain⟨b1,b2,b3⟩:=Cv h2 h f2.1 f;refine⟨a1,by rw[L_,b1,a2];rfl,?_⟩
  unfold Ii fJ at a3 ⊢;rw[Nh,Nh,b3,a3]
noncomputable def HV(K:Qf)(neg:Bool):R2:=fun x y H Q=>Ku K neg x y H Q\/∃ i j,x=.str i/\y=.str j/\Q (.bl (if neg then !(!(Builtin.Str.occurrences j i 0 j.length 1).isEmpty) else !(Builtin.Str.occurrences j i 0 j.length 1).isEmpty)) H
theorem ml(K:Qf)(hK:X.K=K):cE X (compareOp .In) (HV K false):=by subst hK;exact u9.or uV
noncomputable def Kq(i j:Str):Bool:=!(Builtin.Str.occurrences j i 0 j.length 1).isEmpty
noncomputable def Il(neg:Bool):T->T->Mu->(R->Mu->Prop)->Prop:=fun t u μ Q=>match u with
 |.tup xs=>aN t=true/\xs.all aN=true/\Q (.tr (.bl (if neg then !fJ t xs else fJ t xs))) μ
 |.lst xs=>aN t=true/\xs.all aN=true/\Q (.tr (.bl (if neg then !fJ t xs else fJ t xs))) μ
 |.dq xs=>aN t=true/\xs.all aN=true/\Q (.tr (.bl (if neg then !fJ t xs else fJ t xs))) μ
 |.str j=>(match t with|.str i=>Q (.tr (.bl (if neg then !Kq i j else Kq i j))) μ|_=>False)
 |_=>False
theorem Vw.kT{v:V}{t:T}(h:Vw K H B v t)(f:aN t=true):Rep K H B v t:=by
 cases h with
 |aC=>exact .aC
 |bl b=>exact .bl b
 |int i=>exact .int i
 |str x=>exact .str x
 |tup=>cases f
 |dq=>cases f
 |lst=>cases f
 |e7=>cases f
 |dI=>cases f
 |ig=>cases f
 |exc=>cases f
 |BH=>cases f
 |il=>cases f
theorem tG{neg:Bool}:ic K (HV K neg) (qW (Il neg)):=eN fun F ad B σ H μ Q Qt x y t u hK l v1 v2 q k=>by
 subst hK;unfold Il at q
 split at q
 ·obtain⟨f1,f2,q⟩:=q;obtain⟨_,_,rfl,ha,ra⟩:=Vw.tupI v2;obtain⟨a1,a2,a3⟩:=sy (Vw.kT v1 f1) f1 ra f2;exact .inl ⟨_,_,rfl,.inr (bL.of ha),a1,a2,by rw[a3];exact k _ H _ (Vr.flat l (.bl _)) Fr.refl q⟩
 ·obtain⟨f1,f2,q⟩:=q;obtain⟨_,_,rfl,ha,ra⟩:=Vw.ef v2;obtain⟨a1,a2,a3⟩:=sy (Vw.kT v1 f1) f1 ra f2;exact .inl ⟨_,_,rfl,.inl (bH.of ha),a1,a2,by rw[a3];exact k _ H _ (Vr.flat l (.bl _)) Fr.refl q⟩
 ·obtain⟨f1,f2,q⟩:=q;obtain⟨_,_,rfl,ha,ra⟩:=Vw.qM v2;obtain⟨a1,a2,a3⟩:=sy (Vw.kT v1 f1) f1 ra f2;exact .inl ⟨_,_,rfl,.inr (.inr ha),a1,a2,by rw[a3];exact k _ H _ (Vr.flat l (.bl _)) Fr.refl q⟩
 ·split at q
  ·obtain rfl:=Vw.gf v1;obtain rfl:=Vw.gf v2;exact .inr ⟨_,_,rfl,rfl,k _ H _ (Vr.flat l (.bl _)) Fr.refl q⟩
  ·exact q.elim
 ·exact q.elim
end Y
namespace A
theorem IC(neg:Bool)(t:T)(xs:List T)(μ:Mu)(Q:R->Mu->Prop):Y.Il neg t (.tup xs) μ Q=(aN t=true/\xs.all aN=true/\Q (.tr (.bl (if neg then !Y.fJ t xs else Y.fJ t xs))) μ):=rfl
theorem Jv(neg:Bool)(t:T)(xs:List T)(μ:Mu)(Q:R->Mu->Prop):Y.Il neg t (.dq xs) μ Q=(aN t=true/\xs.all aN=true/\Q (.tr (.bl (if neg then !Y.fJ t xs else Y.fJ t xs))) μ):=rfl
end A
theorem nR:∀{ws:List Str} {its:List Value},Vals (ws.map V.str) its->∀(m:Nat) (y:Str),ws[m]?=some y->∃ t,its[m]?=some (.str y t):=fun r m y e=>by
 obtain⟨u,h1,h2⟩:=r.get (i:=m) (x:=V.str y) (by rw[Lr,e];rfl)
 obtain⟨t,rfl⟩:=(show RelV (.str y) u from h2);exact⟨t,h1⟩
open Builtin Builtin.Str
open PySem PySem.Spec PyProof PyProof.Rows
variable{K:Qf}{es:List Expr}{p:Pos}{X:Cx}{α:Type}
noncomputable def AX(K:Qf)(a:Addr):It:=
 ⟨fun i H=>∃ x,getL K a i H x,fun i H x H'=>∃ p y,(∀ xs,bH K H a xs->xs[i]?=some y)/\H p=none/\x=.ref p/\H'=upd H p (.tup [.int i,y]),Kj K a⟩
theorem pE{P:Program}{w:World}{tk:Nat}{tp:Pos}(a it e:Addr)(hne:e≠it):Turn P w K (.Tuple es tk tp) (AX K a) [e,it] e (fun i h=>(∃ old,IsEnum h e it i old)/\h.IsListIter it a i) where
 mem:=by simp
 obj:=fun i h st b hb=>by
  obtain⟨⟨old,he⟩,o,eo,c,d⟩:=st;rcases Le.mp hb with z|z
  ·subst z;exact⟨_,he,fun v z=>by cases z⟩
  ·have z:b=it:=by simpa using z
   subst z;exact⟨o,eo,fun v z=>by rw[d] at z;cases z⟩
 keep:=fun i h h' st k=>by
  obtain⟨⟨old,he⟩,o,eo,r⟩:=st;exact⟨⟨old,k e (by simp) _ he⟩,o,k it (by simp) o eo,r⟩
 item:=by
  intro X hP hw hK hc i pins s σ H E I hf st hg;subst hP hw hK;obtain⟨x,xs,hq,hx⟩:=hg;obtain⟨⟨old,he⟩,hit⟩:=st;obtain⟨its,rv,p,hz⟩:=I.list hq;obtain⟨u,hu,ru⟩:=rv.get hx;obtain⟨g0,g1,g2,g3,g4,g5⟩:=hf e (by simp)
  obtain⟨f0,f1,f2,f3,f4,f5⟩:=hf it (by simp)
  have ht:s.heap.IsList a its.toArray:=p.isList;have ha:a≠it:=by
   rintro rfl;obtain⟨o,e1,c1,_⟩:=hit;obtain⟨o',e2,c2,_⟩:=ht;rw[e1] at e2;cases e2;rw[c1] at c2;exact absurd (Value.type.inj c2) (by decide)
  have hea:e≠a:=by
   rintro rfl;obtain⟨o',e2,c2,_⟩:=ht;have e1:s.heap.get? e=some _:=he;rw[e1] at e2;cases e2;exact absurd (Value.type.inj c2) (by decide)
  have hi:i<its.toArray.size:=by
   have:=(Ll.mp hu).1
   simpa using this
  refine Po (Draws.list (A:=X.A.in1) (I.ok.hd hc) it a ha its.toArray) he ⟨hit,ht⟩ hi hne (by simp[hne,hea]) fun x' h' tk' hP ho hs' hT hsz hk=>?_
  have ex:x'=u:=by
   have hP':its.toArray[i]?=some x':=hP;rw[My,hu] at hP';exact (Option.some.inj hP').symm
  subst ex;refine⟨.ref s.heap.objs.size,rfl,OM ho fun h2 he2 hs2=>?_⟩;have fr:H s.heap.objs.size=none:=I.aJ.fresh (Lj _);have hle:e≠s.heap.objs.size:=Ly (Lm he);have hT2:h2.get? s.heap.objs.size=some {cls:=.type "tuple",data:=.seq #[.int i tk',x']}:=(hs2.2 _ (Ne.symm hle)).trans hT;have I2:Inv X pins σ (upd H s.heap.objs.size (.tup [.int i,x])) {s with heap:=h2,toks:=tk'+1}:=by
   refine I.lW (fp:=[e,it]) hf (Lj _) (fun b o hb eb=>?_) ⟨by show 2<=sizeLine;decide,[.int i tk',x'],.cons ⟨_,rfl⟩ (.cons ru .nil),⟨_,hT2,rfl,_,rfl,rfl⟩⟩
   have n1:b≠e:=fun z=>hb (by simp[z])
   have n2:b≠it:=fun z=>hb (by simp[z])
   exact (hs2.2 b n1).trans (hk b o n1 n2 eb)
  refine⟨.ref s.heap.objs.size,_,I2,rfl,⟨s.heap.objs.size,x,fun ys hy=>by rw[I.jz hy hq];exact hx,fr,rfl,rfl⟩,⟨⟨x',?_⟩,?_⟩,fun b hb=>?_⟩
  ·have e:(((i+1:Nat)):Int)=(i:Int)+1:=by lia
   rw[e];exact he2
  ·obtain⟨o,e1,r⟩:=hs'.1;exact⟨o,(hs2.2 it (Ne.symm hne)).trans e1,r⟩
  ·have n:b≠s.heap.objs.size:=by
    rcases Le.mp hb with z|z
    ·subst z;exact hle
    ·have z:b=it:=by simpa using z
     subst z;obtain⟨o,e1,_⟩:=hit;exact Ly (Lm e1)
   rw[ai n];exact (hf b hb).1
 done:=by
  intro X hP hw hK hc i pins s σ H E I hf st hg;subst hP hw hK;obtain⟨xs,hq,hx⟩:=hg;obtain⟨⟨old,he⟩,hit⟩:=st;obtain⟨its,rv,p,hz⟩:=I.list hq;have ht:s.heap.IsList a its.toArray:=p.isList;have ha:a≠it:=by
   rintro rfl;obtain⟨o,e1,c1,_⟩:=hit;obtain⟨o',e2,c2,_⟩:=ht;rw[e1] at e2;cases e2;rw[c1] at c2;exact absurd (Value.type.inj c2) (by decide)
  have hl:=rv.length;have hsz:its.toArray.size=i:=by simp;lia
  refine P1 (Draws.list (A:=X.A.in1) (I.ok.hd hc) it a ha its.toArray) he (by rw[hsz];exact⟨hit,ht⟩) fun h' eb=>⟨rfl,?_⟩
  exact I.turns (t':=s.toks) hf fun b o hb e1=>eb b o (fun z=>hb (by simp[z])) e1
 self:=fun A i s Q E st h=>by
  obtain⟨⟨old,he⟩,_⟩:=st;exact NR he h
section
variable {X:Cx} {es:List Expr} {tk:Nat} {tp:Pos}
noncomputable def E2(K:Qf)(ta:TA):TI:=fun σ H R=>ta σ H fun vs H1=>∃ a,vs=[.ref a]/\(∃ xs,bH K H1 a xs)/\R (AX K a) H1
theorem yL{e:Expr}{ta:TA}{pos:Pos}(hg:Gl X "enumerate")(hm:X.mg "enumerate"=none)(ha:PA X [e] ta)(h1:autoParam (cL e=true) ℜ0)(hv:autoParam (bootBuiltins "enumerate"=some (.type "enumerate")) ℜ6):
  PI X (.Tuple es tk tp) (.Call (.Name "enumerate" p) [e] [] pos) (E2 X.K ta):=by
 intro pins s σ H R I h;refine Call_ (eM I hg hm hv (Mh (bu (ha pos pins s σ H _ I h) fun us s1 ⟨vs,H1,I1,r1,q1⟩=>?_) (cf h1) rfl));obtain⟨a,e,⟨xs,hq⟩,q⟩:=q1;subst e;obtain⟨u,rfl,ru⟩:=vals1 r1;cases ru;obtain⟨its,rv,pt,hz⟩:=I1.list hq;refine call_enumerate_list pt.isList fun h' he hit hsz hk=>?_;refine NR he ?_;have I2:Inv X pins σ H1 {s1 with heap:=h'}:=I1.kept (t':=s1.toks) hk
 refine⟨s1.heap.objs.size+1,[s1.heap.objs.size+1,s1.heap.objs.size],_,_,H1,rfl,I2,pE a s1.heap.objs.size (s1.heap.objs.size+1) (M6 (Nat.lt_succ_self _)),⟨⟨_,he⟩,hit⟩,fun b hb=>?_,q⟩;have hb':s1.heap.objs.size<=b:=by
  rcases Le.mp hb with z|z
  ·rw[z];exact MH _
  ·have z:b=s1.heap.objs.size:=by simpa using z
   rw[z];exact Lj _
 exact I1.uz hb' (I1.aJ.fresh hb')
end
theorem zX{a:Addr}{ts:List T}:jv K (AX K a) (fun H B=>∃ vs,bH K H a vs/\aj K H B vs ts) (pairs ts):=by
 refine⟨fun H B i t hb ⟨vs,h,r⟩ e=>?_,fun H B ⟨vs,h,r⟩=>⟨vs,h,by rw[r.length];simp[pairs]⟩⟩
 unfold pairs at e;rw[Lr] at e;have hi:i<ts.length:=by
  rcases Ma i ts.length with z|z
  ·exact z
  ·rw[L4.mpr (by simpa using z)] at e;cases e
 rw[Md hi] at e;have e':T.tup [.int (i:Nat),(ts[i]?).getD .aC]=t:=Option.some.inj e;have et:ts[i]?=some ts[i]:=KW hi;obtain⟨v,e1,rv⟩:=r.get et;refine⟨⟨v,vs,h,e1⟩,fun x H2 y=>?_⟩;obtain⟨p,y,hy,hp,rfl,rfl⟩:=y;have:=hy vs h;rw[e1] at this;cases this;subst e';rw[et];refine⟨bB.new hp,.tup (fun z=>?_) aq (.cons (.int _) (.cons (rv.fr (Fr.same (bB.new hp))) .nil))⟩;obtain⟨o,q⟩:=hb p z;rw[hp] at q;cases q
namespace Y
noncomputable def Bu(us:UA):UI:=fun μ Rt=>us μ fun rs μ'=>match rs with
 |[.tr (.lst ts)]=>Rt (pairs ts) none μ'
 |_=>False
theorem Gx{e:Expr}{us:UA}{pos:Pos}(K:Qf)(hK:X.K=K){k:Nat}{tp:Pos}(hg:Gl X "enumerate")(hm:X.mg "enumerate"=none)(ha:YA X [e] us)(h1:autoParam (cL e=true) ℜ0):YI X (.Tuple es k tp) (.Call (.Name "enumerate" p) [e] [] pos) (Bu us):=by
 obtain⟨t,q,r⟩:=ha;subst hK;refine⟨_,⟨yL hg hm q.h h1⟩,fun F ad B σ H μ R Rt hF l q k=>r F ad B σ H μ _ _ hF l q fun vs H' rs μ' l1 ps f k1 q1=>?_⟩
 split at q1
 ·rename_i ts;obtain⟨_,_,rfl,h1,ps⟩:=Paired.aO ps;obtain rfl:=Paired.eV ps;have rp:=aL h1
  cases rp with
  |@lst a vs _ n h rr =>
   have sr:∀ H B,Rep F.K H B (.ref a) (.lst ts)->∃ vs,bH X.K H a vs/\aj X.K H B vs ts:=fun H B h=>by
    rw[hF] at h;obtain⟨_,n,h,r⟩:=Rep.DV h;exact⟨_,bH.of h,r⟩
   exact⟨a,rfl,⟨vs,bH.of h⟩,k (AX X.K a) H' μ' (pairs ts) none (fun H B=>Rep F.K H B (.ref a) (.lst ts)) l1 f k1 (zX.imp sr) (.lst n h rr) (fun B1 H1 B2 H2 f h=>h.fr f) (fun j ls z=>by cases z) q1⟩
 ·exact q1.elim
end Y
namespace A
theorem Bu(us:UA)(μ:Mu)(Rt:List T->Option (Nat×List T)->Mu->Prop):Y.Bu us μ Rt=us μ fun rs μ'=>match rs with
 |[.tr (.lst ts)]=>Rt (pairs ts) none μ'
 |_=>False:=rfl
end A
noncomputable def xB(K:Qf)(ws:List Str)(v:Value):Prop:=∃ p,v=.ref p/\EG K p (ws.map V.str)
structure mO (K:Qf) (a:Addr) (D:List (Str×List Str)):Prop where
 low:(a == sysModules)=false
 ex:∃ o es ep,K.lookup a=some o/\o.ExactDict/\o.data=.dict es ep/\KTD.Rows (xB K) es.toList D
section
variable {prog:Program} {w:World} {A:Around} {E:Value->Shared->Prop} {s:Shared} {K:Qf} {a:Addr} {D:List (Str×List Str)} {k:Str} {tk:Tok}
theorem mO.typeIs(T:mO K a D)(X:K.In s.heap):s.TypeIs (.ref a) "dict":=let ⟨o,_,_,ho,hc,_⟩:=T.ex;⟨o,X _ _ ho,hc.1⟩
theorem xC{Q:Option Value->Shared->Prop}(T:mO K a D)(X:K.In s.heap)(h1:∀ d v,KTD.datumAt k D=some d->xB K d v->Q (some v) {s with toks:=s.toks+1})(h2:KTD.datumAt k D=none->Q none {s with toks:=s.toks+1}):
  wpAny (model prog w) A (dictGet a (.str k tk)) Q E s:=by
 obtain⟨o,es,ep,ho,hc,hd,hr⟩:=T.ex;have ho:=X _ _ ho;unfold dictGet
 try with_reducible refine LM ?_
 refine KU (wpAny_pyHash_str (KU (KTD.kt_dictFind_strs (s:={s with toks:=s.toks+1}) ho hd (by obtain⟨l⟩:=es;simpa using hr.exact) ?_)))
 have hq:Q (findBy (fun k v=>v.isStr k) es k) {s with toks:=s.toks+1}:=by
  have hf:findBy (fun k v=>v.isStr k) es k=(es.toList.find? fun e=>e.key.isStr k).map (·.val):=by
   obtain⟨l⟩:=es;simp[findBy]
  rw[hf]
  cases hat:KTD.datumAt k D with
  |some d=>obtain⟨v,hv,hfl⟩:=hr.find_some hat;rw[hv];exact h1 d v hat hfl
  |none=>rw[hr.find_none hat];exact h2 hat
 rw[findBy_of_findIdx?] at hq
 cases hi:es.findIdx? fun e=>e.key.isStr k with
 |none=>rw[hi] at hq;exact Lh hq
 |some i=>rw[hi] at hq;exact KU (NU (s:={s with toks:=s.toks+1}) ho hd (Lh hq))
end
namespace Y
theorem IM{pos:Pos}{x:Str}{k:Nat}{ps:List Str}{md:List Bool}{tsp:dG}{E:XK}(K:Qf)(hK:X.K=K)(F:ae X.prog X.w X.K X.mg X.base aX k x ps (spT K md tsp))(hr:bG k X.A)(hg:Gl X x)(hx:Passes aX X E)(hdb:autoParam ((x ==("__debug__":Str))=false) ℜ1):
  YE X (.Call (.Name x p) [] [] pos) (Fq md tsp vW):=by
 subst hK;exact⟨_,Z.IM F hr hg hx hdb,Ca (fun F ad B σ H μ Q Qt hK l q k=>k [] H [] μ l .nil Fr.refl (Kp.refl μ) q)⟩
end Y
noncomputable def cR(k:Key):List Key->List α->Option α
 |x::ks,t::ts=>if x=k then some t else cR k ks ts
 |_,_=>none
noncomputable def Aa(k:Key)(v:α):List Key->List α->List α
 |x::ks,t::ts=>(if x=k then v else t)::Aa k v ks ts
 |_,ts=>ts
theorem aj.rep1{H:Hp}{B:aR}{k:Key}{v:V}{t:T}(h:Rep K H B v t):∀{ks:List Key} {vs:List V} {ts:List T},aj K H B vs ts->aj K H B (Aa k v ks vs) (Aa k t ks ts)
 |[],_,_,r=>by unfold Aa;exact r
 |_::_,_,_,.nil=>.nil
 |x::ks,_,_,.cons q r=>by
  refine .cons ?_ (aj.rep1 h r);split
  ·exact h
  ·exact q
theorem aj.look{H:Hp}{B:aR}{k:Key}:∀{ks:List Key} {vs:List V} {ts:List T},aj K H B vs ts->(∀ t,cR k ks ts=some t->∃ v,fq (ks.zip vs) k=some v/\Rep K H B v t)/\(ks.length=vs.length->cR k ks ts=none->fq (ks.zip vs) k=none)
 |[],_,_,r=>⟨fun t e=>(by unfold cR at e;cases e),fun _ _=>by simp[fq]⟩
 |_::_,_,_,.nil=>⟨fun t e=>(by cases e),fun l _=>(by cases l)⟩
 |x::ks,_,_,.cons (v:=v) (t:=t0) (vs:=vs) (ts:=ts) q r=>by
  obtain⟨h1,h2⟩:=aj.look (k:=k) (ks:=ks) r;by_cases e:x=k
  ·refine⟨fun t z=>?_,fun _ z=>?_⟩
   ·have z':(if x=k then some t0 else cR k ks ts)=some t:=z
    rw[Li e] at z';cases z';exact⟨v,by rw[OI];exact hW e,q⟩
   ·have z':(if x=k then some t0 else cR k ks ts)=none:=z
    rw[Li e] at z';cases z'
  ·refine⟨fun t z=>?_,fun l z=>?_⟩
   ·have z':(if x=k then some t0 else cR k ks ts)=some t:=z
    rw[Lc e] at z';obtain⟨w,hw,rw'⟩:=h1 t z';exact⟨w,by rw[OI,fQ e];exact hw,rw'⟩
   ·have z':(if x=k then some t0 else cR k ks ts)=none:=z
    rw[Lc e] at z';rw[OI,fQ e];exact h2 (Nat.succ.inj l) z'
namespace Y
noncomputable def CB(neg:Bool):R2:=fun x y H Q=>∃ a o,y=.ref a/\xG H a x o/\Q (.bl (if neg then !o.isSome else o.isSome)) H
theorem yT(hu:X.A.units+1<cLine):cE X (compareOp .NotIn) (CB true):=by
 intro pins s σ H x y v u Q I rx ry h;obtain⟨a,o,rfl,g,q⟩:=h;obtain rfl:u=Value.ref a:=ry;exact zS hu I g rx fun s' I'=>⟨.bl (!o.isSome),H,I',rfl,q⟩
theorem kq:∀(more kvs:List (Key×V)),((kvs++more).map (·.1)).Nodup->fN kvs more=kvs++more
 |[],kvs,_=>by rw[L8];rfl
 |p::r,kvs,h=>by
  have hn:fq kvs p.1=none:=by
   cases hv:fq kvs p.1 with
   |none=>rfl
   |some v =>
    have hm:=AQ hv;rw[L5,L3] at h;have:=List.nodup_append.mp h;exact absurd rfl (this.2.2 _ hm _ K_)
  show fN (putK kvs p.1 p.2) r=_;rw[vH p.2 hn,kq r _ (by rw[Ls];exact h),Ls]
  rfl
end Y
noncomputable def fh(xs:List α)(i:Nat)(y:α):List α:=xs.take i++y::xs.drop i
noncomputable def si:V->List V->Hp->VK->Prop:=fun x vs H Q=>∃ l xs i y,x=.ref l/\vs=[.int i,y]/\H l=some (.lst xs)/\0<=i/\i<2^63/\xs.length<sizeLine/\Q .aC (upd H l (.lst (fh xs (min i.toNat xs.length) y)))
theorem kD:Ip X "list.insert" si:=by
 intro pins s σ H x vs v us Q I rx rv h;obtain⟨l,xs,i,y,rfl,rfl,hH,h0,h1,hz,q⟩:=h;cases rx;obtain⟨u,w',rfl,⟨t,rfl⟩,rw'⟩:=vals2 rv;obtain⟨z,its,n,r,hl,e⟩:=I.pR hH;have hfit:¬ (!Builtin.List.listFitsIndex i)=true:=by
  have:=P7 (k:=i) (by lia) h1
  rw[this];exact Lg
 refine M8 F.slot_list_insert ⟨_,e,rfl⟩ F.entry_list_insert (F.args_list_insert_3 _ _ _) (AutoSeq1.list_insert_list_int_val_1 l its.toArray n i t w' hfit (by rw[Ld];lia)) ⟨e,?_⟩
 have el:its.length=xs.length:=hl.symm;refine⟨.aC,_,I.E1 (its':=fh its (min i.toNat its.length) w') hH e ?_ ?_ ?_,rfl,q⟩
 ·show (have k:=if i<0 then _ else min i.toNat its.toArray.size;(its.toArray.extract 0 k).push w'++its.toArray.extract k)=_
  rw[Lc (by lia)]
  apply Pc.mp;unfold fh;simp[OS,Mm]
 ·rw[el];unfold fh;exact (r.take _).append (.cons rw' (r.drop _))
 ·unfold fh;rw[KY,Lf,L7,LS];lia
namespace Y
noncomputable def ia:UM:=fun j rs μ Q=>match rs with
 |[.tr (.int i),.tr t]=>(match (μ[j]?).bind Sl.box with
  |some (.lst ts)=>0<=i/\i<2^63/\ts.length<sizeLine/\Q (.tr .aC) (de μ j (.lst (fh ts (min i.toNat ts.length) t)))
  |_=>False)
 |_=>False
theorem kM:RM K si ia:=by
 intro F ad B σ H μ Q Qt j s c xs rs hF l e b ps q k;unfold ia at q
 split at q
 ·rename_i i t;obtain⟨_,_,rfl,h1,ps⟩:=Paired.aO ps;obtain⟨_,_,rfl,h2,ps⟩:=Paired.aO ps;obtain rfl:=Paired.eV ps
  cases aL h1
  have rt:=aL h2;rw[e] at q;have q':(match s.box with|some (.lst ts)=>0<=i/\i<2^63/\ts.length<sizeLine/\Qt (.tr .aC) (de μ j (.lst (fh ts (min i.toNat ts.length) t)))|_=>False):=q
  rw[b] at q';rcases ((l.slot j s e).boxed b).2.2.1.is with ⟨ts,vs,rfl,hl,rv⟩|⟨_,_,_,rfl,_⟩
  case inr=>exact q'.elim
  obtain⟨h0,h1,hz,q2⟩:=(show 0<=i/\i<2^63/\ts.length<sizeLine/\_ from q');refine⟨_,vs,i,_,rfl,rfl,hl,h0,h1,by rw[rv.length];exact hz,?_⟩
  have l3:=l.put e b (show aj F.K H B (fh vs (min i.toNat vs.length) _) (fh ts (min i.toNat ts.length) t) from by rw[rv.length];exact (rv.take _).append (.cons rt (rv.drop _)))
  unfold de at q2;rw[e] at q2;exact k _ _ (.tr .aC) _ (Vr.flat l3 .aC) (Fr.set ((l.slot j s e).boxed b).2.1) (Kp.set e b (Sl.iP b)) q2
 ·exact q.elim
end Y
namespace A
theorem ia(j:Nat)(i:Int)(t:T)(μ:Mu)(Q:R->Mu->Prop):Y.ia j [.tr (.int i),.tr t] μ Q=(match (μ[j]?).bind Sl.box with
  |some (.lst ts)=>0<=i/\i<2^63/\ts.length<sizeLine/\Q (.tr .aC) (de μ j (.lst (fh ts (min i.toNat ts.length) t)))
  |_=>False):=rfl
end A
open Builtin Builtin.Str
open PySem PySem.Spec PyProof PyProof.Rows
variable{X:Cx}{K:Qf}{name:Str}{tk:Tok}{Q:Value->Shared->Prop}
inductive Ou where
 |no
 |ok (r:R)
 |ck (c:Prop) (r:R)
noncomputable def mQ(o:Ou)(Q:R->Prop):Prop:=match o with
 |.no=>False
 |.ok r=>Q r
 |.ck c r=>c/\Q r
noncomputable def tX(o:Option Sl)(i:Nat):Ou:=match o with
 |some (.tr t)=>.ok (.tr t)
 |some (.bx _)=>.ok (.br i)
 |some (.pb _)=>.ok (.br i)
 |_=>.no
noncomputable def uP(a b:Option T):Ou:=match a,b with
 |some (.int i),some (.int j)=>.ok (.tr (.int (i+j)))
 |some (.str i),some (.str j)=>.ck (i.length+j.length<=sizeLine) (.tr (.str (i++j)))
 |some (.lst xs),some (.lst ys)=>.ck (xs.length+ys.length<=sizeLine) (.fr (.lst (xs++ys)))
 |some (.tup xs),some (.tup ys)=>.ck (xs.length+ys.length<=sizeLine) (.tr (.tup (xs++ys)))
 |_,_=>.no
noncomputable def oQ(o:Option T):Ou:=match o with
 |some t=>.ok (.tr t)
 |none=>.no
noncomputable def DO(a b:Option T):Ou:=match a,b with
 |some (.lst xs),some (.int i)=>oQ (aY xs i)
 |some (.tup xs),some (.int i)=>oQ (aY xs i)
 |some (.dq xs),some (.int i)=>oQ (aY xs i)
 |some (.str z),some (.int i)=>(match aY z.cps.toList i with|some c=>.ck (z.length<=sizeLine) (.tr (.str ⟨#[c]⟩))|none=>.no)
 |_,_=>.no
noncomputable def oj(a:T):Ou:=match a with
 |.lst xs=>.ok (.tr (.int xs.length))
 |.tup xs=>.ok (.tr (.int xs.length))
 |.e7 xs=>.ok (.tr (.int xs.length))
 |.dq xs=>.ok (.tr (.int xs.length))
 |.str z=>.ck (z.length<=sizeLine) (.tr (.int z.length))
 |_=>.no
noncomputable def CT(a:Option T)(lo hi:Option Int):Ou:=match a with
 |some (.lst xs)=>.ok (.fr (.lst (Y.bT xs lo hi)))
 |some (.e7 xs)=>.ok (.fr (.lst (Y.bT xs lo hi)))
 |some (.tup xs)=>.ok (.tr (.tup (Y.bT xs lo hi)))
 |some (.str z)=>.ck (z.length<=sizeLine) (.tr (.str (Y.fC z lo hi)))
 |_=>.no
theorem j8(p:Prop):(True/\p)=p:=propext ⟨fun h=>h.2,fun h=>⟨trivial,h⟩⟩
theorem Jy(o:Option Sl)(i:Nat)(Q:R->Prop):mR (EI o i) Q=mQ (tX o i) Q:=by
 cases o with
 |none=>rfl
 |some s=>cases s<;>first|rfl|exact j8 _
theorem Jo(a b:Option T)(Q:R->Prop):mR (D1 a b) Q=mQ (uP a b) Q:=by
 cases a with
 |none=>rfl
 |some a=>cases b with
  |none=>cases a<;>rfl
  |some b=>cases a<;>cases b<;>first|rfl|exact j8 _
theorem bq(a b:Option T)(Q:R->Prop):mR (Jq a b) Q=mQ (DO a b) Q:=by
 cases a with
 |none=>rfl
 |some a=>cases b with
  |none=>cases a<;>rfl
  |some b =>
   cases a<;>cases b<;>first
    |rfl
    | (rename_i xs i;show mR (oT (aY xs i)) Q=mQ (oQ (aY xs i)) Q;cases aY xs i with|none=>rfl|some t=>exact j8 _)
    | (rename_i z i;show mR (match aY z.cps.toList i with|some c=>some (z.length<=sizeLine,.tr (.str ⟨#[c]⟩))|none=>none) Q=mQ (match aY z.cps.toList i with|some c=>.ck (z.length<=sizeLine) (.tr (.str ⟨#[c]⟩))|none=>.no) Q;cases aY z.cps.toList i<;>rfl)
theorem IQ(a:T)(Q:R->Prop):mR (GJ a) Q=mQ (oj a) Q:=by cases a<;>first|rfl|exact j8 _
theorem KQ(a:Option T)(lo hi:Option Int)(Q:R->Prop):mR (Y.Dh a lo hi) Q=mQ (CT a lo hi) Q:=by
 cases a with
 |none=>rfl
 |some a=>cases a<;>first|rfl|exact j8 _
namespace Y
noncomputable def yC(i:Nat):UE:=fun μ Q=>mQ (tX μ[i]? i) fun r=>Q r μ
noncomputable def we:U2:=fun r1 r2 μ Q=>mQ (uP (cont μ r1) (cont μ r2)) fun r=>Q r μ
noncomputable def Ei:U2:=fun r1 r2 μ Q=>mQ (DO (cont μ r1) (cont μ r2)) fun r=>Q r μ
noncomputable def wU(t:T)(μ:Mu)(Q:R->Mu->Prop):Prop:=mQ (oj t) fun r=>Q r μ
noncomputable def Bl(ue:UE)(ul uh:UO):UE:=fun μ Q=>ue μ fun r μ1=>ul μ1 fun lo μ2=>uh μ2 fun hi μ3=>mQ (CT (cont μ3 r.d) lo hi) fun r=>Q r μ3
noncomputable def xt(ue:UE):UI:=fun μ Rt=>ue μ fun r μ'=>FK (CI r μ') fun ts g=>Rt ts g μ'
noncomputable def JR(n:Nat)(gs:rN):UG:=fun r μ Q=>match xR (cont μ r.d) with|some ts=>ts.length=n/\gs ts μ Q|none=>False
noncomputable def xS(ue:UE):UT:=fun μ Q=>ue μ fun r μ'=>match za r with|some b=>Q b μ'|none=>False
theorem IK(i:Nat):me i=yC i:=funext fun μ=>funext fun Q=>(A.me i μ Q).trans (Jy _ _ _)
theorem Jc:kf=we:=funext fun r1=>funext fun r2=>funext fun μ=>funext fun Q=>(A.kf r1 r2 μ Q).trans (Jo _ _ _)
theorem KH:pA=Ei:=funext fun r1=>funext fun r2=>funext fun μ=>funext fun Q=>(A.pA r1 r2 μ Q).trans (bq _ _ _)
theorem IJ:mU=wU:=funext fun t=>funext fun μ=>funext fun Q=>(A.mU t μ Q).trans (IQ _ _)
theorem KC(ue:UE)(ul uh:UO):D6 ue ul uh=Bl ue ul uh:=funext fun μ=>funext fun Q=>by
 unfold D6 Bl;congr 1;funext r μ1;congr 1;funext lo μ2;congr 1;funext hi μ3;exact KQ _ _ _ _
theorem KP(ue:UE):BS ue=xt ue:=funext fun μ=>funext fun Rt=>A.BS ue μ Rt
theorem eT(n:Nat)(gs:rN):gT n gs=JR n gs:=funext fun r=>funext fun μ=>funext fun Q=>A.gT n gs r μ Q
theorem Kh(ue:UE):oA ue=xS ue:=funext fun μ=>funext fun Q=>A.oA ue μ Q
theorem vS{x:Str}{pos:Pos}(i:Nat)(hN:autoParam (X.N[i]?=some x) ℜ0)(hv:autoParam (Es X.env.scope x) ℜ4)(hd:autoParam ((x ==("__debug__":Str))=false) ℜ1)
  (gJ:autoParam ((x ==("__classdict__":Str))=false) ℜ1):YE X (.Name x pos) (yC i):=IK i ▸ v i hN hv hd gJ
theorem av:ic K (yE K) we:=Jc ▸ DU
theorem af:ic K (Iy K) Ei:=KH ▸ F_
theorem ba:RC K (zr K) (vq wU):=IJ ▸ EW
theorem eO{e:Expr}{ue:UE}{p2 pos:Pos}{lo hi:Option Expr}{ul uh:UO}(K:Qf)(hK:X.K=K)(he:YE X e ue)(hl:YO X lo ul)(hu:YO X hi uh):YE X (.Subscript e (.Slice lo hi none p2) pos) (Bl ue ul uh):=KC ue ul uh ▸ E3 K hK he hl hu
theorem anyS{tg e:Expr}{ue:UE}(K:Qf)(hK:X.K=K)(he:YE X e ue):YI X tg e (xt ue):=KP ue ▸ any K hK he
theorem yG{es:List Expr}{pos:Pos}(K:Qf)(hK:X.K=K){k n:Nat}{gs:rN}(hc:X.calm=true)(h:HH X es gs)(hn:autoParam ((assignEach es X.env).length=n) ℜ0)(hst:autoParam ((assignEach es X.env).findIdx? (·.1)=none) ℜ0):YG X (.Tuple es k pos) (JR n gs):=eT n gs ▸ vh K hK hc h hn hst
theorem iK{a:Expr}{ua:UE}(K:Qf)(hK:X.K=K)(ha:YE X a ua)(he:autoParam (Z.Iv a=true) ℜ0):YT X a (xS ua):=Kh ua ▸ Er K hK ha he
end Y
namespace A3
theorem BP(t:T):oQ (some t)=.ok (.tr t):=rfl
theorem me(i:Nat)(μ:Mu)(Q:R->Mu->Prop):Y.yC i μ Q=mQ (tX μ[i]? i) fun r=>Q r μ:=rfl
theorem kf(r1 r2:R)(μ:Mu)(Q:R->Mu->Prop):Y.we r1 r2 μ Q=mQ (uP (cont μ r1) (cont μ r2)) fun r=>Q r μ:=rfl
theorem Kz(r1 r2:R)(μ:Mu)(Q:R->Mu->Prop):Y.Ei r1 r2 μ Q=mQ (DO (cont μ r1) (cont μ r2)) fun r=>Q r μ:=rfl
theorem mU(t:T)(μ:Mu)(Q:R->Mu->Prop):Y.wU t μ Q=mQ (oj t) fun r=>Q r μ:=rfl
theorem Jw(ue:UE)(ul uh:UO)(μ:Mu)(Q:R->Mu->Prop):Y.Bl ue ul uh μ Q=ue μ fun r μ1=>ul μ1 fun lo μ2=>uh μ2 fun hi μ3=>mQ (CT (cont μ3 r.d) lo hi) fun r=>Q r μ3:=rfl
theorem BS(ue:UE)(μ:Mu)(Rt:List T->Option (Nat×List T)->Mu->Prop):Y.xt ue μ Rt=ue μ fun r μ'=>FK (CI r μ') fun ts g=>Rt ts g μ':=rfl
theorem gT(n:Nat)(gs:rN)(r:R)(μ:Mu)(Q:Mu->Prop):Y.JR n gs r μ Q=(match xR (cont μ r.d) with|some ts=>ts.length=n/\gs ts μ Q|none=>False):=rfl
theorem oA(ue:UE)(μ:Mu)(Q:Bool->Mu->Prop):Y.xS ue μ Q=ue μ fun r μ'=>match za r with|some b=>Q b μ'|none=>False:=rfl
theorem Ka(t:T)(i:Nat):tX (some (.tr t)) i=.ok (.tr t):=rfl
theorem IP(t:T)(i:Nat):tX (some (.bx t)) i=.ok (.br i):=rfl
theorem JV(t:T)(i:Nat):tX (some (.pb t)) i=.ok (.br i):=rfl
theorem FR(i j:Int):uP (some (.int i)) (some (.int j))=.ok (.tr (.int (i+j))):=rfl
theorem Hy(i j:Str):uP (some (.str i)) (some (.str j))=.ck (i.length+j.length<=sizeLine) (.tr (.str (i++j))):=rfl
theorem Gr(xs ys:List T):uP (some (.tup xs)) (some (.tup ys))=.ck (xs.length+ys.length<=sizeLine) (.tr (.tup (xs++ys))):=rfl
theorem Jz(xs:List T)(i:Int):DO (some (.lst xs)) (some (.int i))=oQ (aY xs i):=rfl
theorem JT(xs:List T)(i:Int):DO (some (.tup xs)) (some (.int i))=oQ (aY xs i):=rfl
theorem IU(xs:List T)(i:Int):DO (some (.dq xs)) (some (.int i))=oQ (aY xs i):=rfl
theorem JE(z:Str)(i:Int):DO (some (.str z)) (some (.int i))=(match aY z.cps.toList i with|some c=>.ck (z.length<=sizeLine) (.tr (.str ⟨#[c]⟩))|none=>.no):=rfl
theorem Hj(xs:List T):oj (.lst xs)=.ok (.tr (.int xs.length)):=rfl
theorem FO(xs:List T):oj (.tup xs)=.ok (.tr (.int xs.length)):=rfl
theorem HJ(xs:List T):oj (.e7 xs)=.ok (.tr (.int xs.length)):=rfl
theorem FA(z:Str):oj (.str z)=.ck (z.length<=sizeLine) (.tr (.int z.length)):=rfl
theorem JY(xs:List T)(lo hi:Option Int):CT (some (.lst xs)) lo hi=.ok (.fr (.lst (Y.bT xs lo hi))):=rfl
theorem IW(xs:List T)(lo hi:Option Int):CT (some (.e7 xs)) lo hi=.ok (.fr (.lst (Y.bT xs lo hi))):=rfl
theorem Ke(xs:List T)(lo hi:Option Int):CT (some (.tup xs)) lo hi=.ok (.tr (.tup (Y.bT xs lo hi))):=rfl
theorem I_(z:Str)(lo hi:Option Int):CT (some (.str z)) lo hi=.ck (z.length<=sizeLine) (.tr (.str (Y.fC z lo hi))):=rfl
end A3
open Builtin Builtin.Str
section
variable {prog:Program} {w:World} {A:Around} {E:Value->Shared->Prop} {h:Heap} {g:Array GenState} {d:Drawn} {t:Nat} {os:OsState} {a:Addr} {items:Array Value} {cn:Nat}
theorem BM:typeLookup (.type "list") "keys"=pure none:=am_miss_of_fast (by kernel_rfl)
theorem qG:typeLookup (.type "list") "__getattr__"=pure none:=by rw[typeLookup_type,builtinLookup_eq_fast];kernel_rfl
theorem x4{Q:Fin->Shared->Prop}(hx:h.get? a=some {cls:=.type "list",dict:=none,data:=.seq items cn,slots:=#[]})(hmiss:typeLookup (.type "list") name=pure none)(hnc:(["__module__","__name__","__qualname__","__doc__","__annotations__"]:List Str).contains name=false)(hh:A.handled=none)
  (hq:∀ h' tk' e,Heap.NewAttrErr h h' e (.ref a) name->E (.ref e) ⟨h',g,d,tk',os⟩) (hsz:name.length+100<=sizeLine:=by size_fits) :
  wpAny (model prog w) A (Builtin.«object.__getattribute__» ⟨[.ref a,.str name tk],[]⟩) Q E ⟨h,g,d,t,os⟩:=by
 have hT:(⟨h,g,d,t,os⟩:Shared).TypeIs (.ref a) "list":=⟨_,hx,rfl⟩;unfold Builtin.«object.__getattribute__»
 repeat (any_goals (first|assumption|wp_step))
 rw[Lc (by rw[hnc];decide)]
 repeat (any_goals (first|assumption|wp_step))
 exact wpAny_raiseAttrError hh hq (attrMsg_fits (by decide +kernel) hsz)
theorem Ai{R:Result->Shared->Prop}(hx:h.get? a=some {cls:=.type "list",dict:=none,data:=.seq items cn,slots:=#[]})(hmiss:typeLookup (.type "list") name=pure none)(hnc:(["__module__","__name__","__qualname__","__doc__","__annotations__"]:List Str).contains name=false)(hh:A.handled=none)
  (hq:∀ h' tk' e,Heap.NewAttrErr h h' e (.ref a) name->R (.error (.ref e)) ⟨h',g,d,tk',os⟩) (hsz:name.length+100<=sizeLine:=by size_fits) :
  codeAny (model prog w) A (.call (.builtin "list.__getattribute__") ⟨[.ref a,.str name tk],[]⟩) R ⟨h,g,d,t,os⟩:=
 codeAny_call_builtin M_.plain F.entry_list_ga (M_.check _ _ _ _ _ _ _ _ (show (⟨h,g,d,t,os⟩:Shared).TypeIs (.ref a) "list" from⟨_,hx,rfl⟩) (F.args_list_getattribute_2 _ _) (x4 hx hmiss hnc hh hq hsz))
theorem G6(hx:h.get? a=some {cls:=.type "list",dict:=none,data:=.seq items cn,slots:=#[]})(hmiss:typeLookup (.type "list") name=pure none)(hnc:(["__module__","__name__","__qualname__","__doc__","__annotations__"]:List Str).contains name=false)(hh:A.handled=none)
  (hq:∀ h' tk' e,Heap.NewAttrErr h h' e (.ref a) name->E (.ref e) ⟨h',g,d,tk',os⟩) (hsz:name.length+100<=sizeLine:=by size_fits) :
  wpAny (model prog w) A (getAttrBy (.ref a) (.str name tk) false) Q E ⟨h,g,d,t,os⟩:=by
 have hT:(⟨h,g,d,t,os⟩:Shared).TypeIs (.ref a) "list":=⟨_,hx,rfl⟩;have f1:=sub_AttributeError;have f2:=M_.lookup;have f3:=M_.bind (.ref a);have f5:=qG
 repeat (any_goals (first|assumption|wp_step))
 refine Ai hx hmiss hnc hh (fun h' tk' e x=>?_) hsz;obtain⟨t',u',he⟩:=x.there;show wpAny _ _ (getattributeRaised _ _ _ _ _ _ _) _ _ _;unfold getattributeRaised
 repeat (any_goals (first|assumption|wp_step))
 exact hq _ _ _ x
theorem Al{Q:Option Value->Shared->Prop}(hx:h.get? a=some {cls:=.type "list",dict:=none,data:=.seq items cn,slots:=#[]})(hmiss:typeLookup (.type "list") name=pure none)(hnc:(["__module__","__name__","__qualname__","__doc__","__annotations__"]:List Str).contains name=false)(hh:A.handled=none)
  (hq:∀ h' tk',(∀ b o,h.get? b=some o->h'.get? b=some o)->Q none ⟨h',g,d,tk',os⟩) (hsz:name.length+100<=sizeLine:=by size_fits) :
  wpAny (model prog w) A (getAttr? (.ref a) name) Q E ⟨h,g,d,t,os⟩:=by
 have f1:=sub_AttributeError;unfold getAttr? getAttrBy?;refine KU (wpAny_mkText (KU (Oa (G6 hx hmiss hnc hh (fun h' tk' e x=>?_) hsz))));obtain⟨t',u',he⟩:=x.there;have k:=x.keeps
 repeat (any_goals (first|assumption|wp_step))
 exact hq _ _ x.keeps
end
section
variable {prog:Program} {w:World} {K:Type} [DecidableEq K] {knd:KeyKind prog w K} {A:Around} {R:Result->Shared->Prop}
theorem gL:plainId "dict.update.loop"=true:=by decide +kernel
theorem gp:entryFor table "dict.update.loop"=some Builtin.«dict.update.loop»:=entryFor_of_fast (by kernel_rfl)
theorem qo(kvs:List (K×Value))(k:K)(v:Value):(stored kvs k v).length<=kvs.length+1:=by
 unfold stored;split
 ·rw[Lb];lia
 ·rw[KY];simp
theorem j2:∀(more kvs:List (K×Value)),(merged kvs more).length<=kvs.length+more.length
 |[],kvs=>by unfold merged;simp
 |p::more,kvs=>by
  have h1:=j2 more (stored kvs p.1 p.2);have h2:=qo kvs p.1 p.2;have e:merged kvs (p::more)=merged (stored kvs p.1 p.2) more:=rfl;rw[e,Lf];lia
theorem zw{it l dd:Addr}{items:Array Value}{more:List (K×Value)}(hh:A.handled=none)(hn:more.length=items.size)(h1:dd≠it)(h2:dd≠l)(h3:it≠l)(ps:Nat->Addr)(hps:∀ i,i<items.size->items[i]?=some (.ref (ps i))/\ps i≠it/\ps i≠dd)(hsz:more.length<=1000):
  ∀(k i:Nat) (s:Shared),items.size-i=k->i<=items.size->s.heap.IsListIter it l i->s.heap.IsList l items->s.heap.DictOf knd dd (merged [] (more.take i)) ->
  (∀ j,j<items.size->∃ key v,s.heap.IsTuple (ps j) #[key,v]/\∃ kk,more[j]?=some (kk,v)/\knd.is kk key=true) ->
  (∀ h' tk,h'.DictOf knd dd (merged [] more)->(∀ b o,b≠it->b≠dd->s.heap.get? b=some o->h'.get? b=some o)->R (.ok (.ret .none)) {s with heap:=h',toks:=tk}) ->
  codeAny (model prog w) A (.builtin "dict.update.loop" ⟨[.ref dd,.ref it,rawInt i,.none],[]⟩) R s:=by
 intro k
 induction k with
 |zero =>
  intro i s hk hi hit hl hd hp hR;have hin:i=items.size:=by lia
  subst hin;refine Nm gp ?_;rw[N3 gL _];show wpAny _ A.in1 (pyNext (.ref it) >>= _) _ _ s;refine KU (Of hh hit hl (by simp) fun h' he=>?_)
  refine KU (Lh (Lh ?_));refine hR h' s.toks ?_ fun b o b1 b2 e=>he b o b1 e;rw[Mm (by lia)] at hd
  exact hd.extBut he h1
 |succ k ih =>
  intro i s hk hi hit hl hd hp hR;have hlt:i<items.size:=by lia
  refine Nm gp ?_;rw[N3 gL _];show wpAny _ A.in1 (pyNext (.ref it) >>= _) _ _ s;obtain⟨e1,e2,e3⟩:=hps i hlt;refine KU (NW hit hl e1 fun h' hit' hs'=>?_);obtain⟨key,v,ht,kk,em,hkk⟩:=hp i hlt;have ht':h'.IsTuple (ps i) #[key,v]:=by obtain⟨o,ho,r⟩:=ht;exact⟨o,(hs'.2 _ e2).trans ho,r⟩
  have hd':h'.DictOf knd dd (merged [] (more.take i)):=by obtain⟨o,es,ep,ho,r⟩:=hd;exact⟨o,es,ep,(hs'.2 _ h1).trans ho,r⟩
  refine KU (LM (KU (wpAny_tryCatch ?_)));unfold Dict.pairItems;refine KU (Ow ht'.typeIs ?_);rw[Li (by decide)]
  obtain⟨o,ho,hoc,nn,hod⟩:=id ht';refine KU (Nw ho hod (Lh ?_));show wpAny _ A.in1 (holding [key,v] (dictSet dd key v)) _ _ _;refine LM (wpAny_dictSet_pairs hkk hd' (fun h2' hd2 hs2=>?_) ?_)
  rotate_left
  ·exact Lk (j2 _ _) (Lk (by rw[LC,M9,L7];exact Lk (Nat.min_le_right _ _) hsz) (by decide))
  have et:merged [] (more.take (i+1))=stored (merged [] (more.take i)) kk v:=by
   have hlt':i<more.length:=by lia
   have:more[i]=(kk,v):=by rw[KW hlt'] at em;exact Option.some.inj em
   rw[List.take_succ_eq_append_getElem hlt',this];unfold merged;rw[List.foldl_append];rfl
  refine Lh ⟨PV gL _,?_⟩;have:=ih (i+1) {s with heap:=h2',toks:=s.toks+1} (by lia) hlt (by obtain⟨o,ho,r⟩:=hit';exact⟨o,(hs2.2 _ (Ne.symm h1)).trans ho,r⟩) (by obtain⟨o,ho,r⟩:=hl;exact⟨o,(hs2.2 _ (Ne.symm h2)).trans ((hs'.2 _ (Ne.symm h3)).trans ho),r⟩) (by rw[et];exact hd2) (fun j hj=>by
   obtain⟨key,v,⟨o,ho,r⟩,rr⟩:=hp j hj;obtain⟨f1,f2,f3⟩:=hps j hj;exact⟨key,v,⟨o,(hs2.2 _ f3).trans ((hs'.2 _ f2).trans ho),r⟩,rr⟩) (fun h3' tk hd3 hk3=>hR h3' tk hd3 fun b o b1 b2 e=>hk3 b o b1 b2 ((hs2.2 _ b2).trans ((hs'.2 _ b1).trans e)))
  exact this
theorem pC{E:Value->Shared->Prop}{s:Shared}{l:Addr}{items:Array Value}{cn:Nat}{more:List (K×Value)}(hl:s.heap.get? l=some {cls:=.type "list",dict:=none,data:=.seq items cn,slots:=#[]})(hh:A.handled=none)(hn:more.length=items.size)(hsz:more.length<=1000)
  (ps:Nat->Addr) (hps:∀ i,i<items.size->items[i]?=some (.ref (ps i))) (hp:∀ j,j<items.size->∃ key v,s.heap.IsTuple (ps j) #[key,v]/\∃ kk,more[j]?=some (kk,v)/\knd.is kk key=true)
  (h:∀ h' tk,h'.DictOf knd s.heap.objs.size (merged [] more)->(∀ b o,s.heap.get? b=some o->h'.get? b=some o)->Q (.ref s.heap.objs.size) {s with heap:=h',toks:=tk}) :
  wpAny (model prog w) A (call (.type "dict") [.ref l]) Q E s:=by
 refine callType_codes (Q₁:=fun obj s₁=>obj=.ref s.heap.objs.size/\s₁={s with heap:=s.heap.push {cls:=.type "dict",data:=.dict #[]}}) F.kt_called_dict (F.kt_typeCall_dict_1 _) F.entry_dict_init (kt_code_dict_new _ ⟨rfl,rfl⟩) ?_
 rintro obj s₁ ⟨rfl,rfl⟩;have hnew:(s.heap.push {cls:=.type "dict",data:=.dict #[]}).DictOf knd s.heap.objs.size []:=Heap.DictOf.new s.heap;refine⟨hnew.typeIs,F.args_dict_init_2 _ _,?_⟩;unfold Builtin.«dict.__init__»;refine KU ?_;unfold Builtin.Dict.selfAndRest;refine KU (wpAny_notOrdered_dict hnew.typeIs ?_);show wpAny _ _ (pure (s.heap.objs.size,[Value.ref l])) _ _ _;refine Lh ?_;show wpAny _ _ (Builtin.Dict.updateFrom "dict.__init__" s.heap.objs.size (.ref l) [] .none) _ _ _;unfold Builtin.Dict.updateFrom;have hl1:(s.heap.push {cls:=.type "dict",data:=.dict #[]}).get? l=some {cls:=.type "list",dict:=none,data:=.seq items cn,slots:=#[]}:=La _ hl;have hT:({s with heap:=s.heap.push {cls:=.type "dict",data:=.dict #[]}}:Shared).TypeIs (.ref l) "list":=⟨_,hl1,rfl⟩
 refine KU (Ow hT ?_);rw[Li (by decide)]
 refine KU ?_;refine Al hl1 BM (by decide +kernel) hh (fun h1 tk1 k1=>?_)
 rw[Li (show (none:Option Value).isNone=true from rfl)];have hl2:h1.IsList l items:=⟨_,k1 _ _ hl1,rfl,cn,rfl⟩;have up:∀ b o,s.heap.get? b=some o->h1.get? b=some o:=fun b o e=>k1 b o (La _ e);obtain⟨od,es,ep,hod,hor⟩:=hnew;have hdl:s.heap.objs.size<h1.objs.size:=Lm (k1 _ _ hod);have hll:l<s.heap.objs.size:=Lm hl;have hpl:∀ j,j<items.size->ps j<s.heap.objs.size:=fun j hj=>by obtain⟨key,v,⟨o,ho,_⟩,_⟩:=hp j hj;exact Lm ho
 refine KU (OQ (KU (NT hl2 (Lh ⟨PV gL _,?_⟩))));refine zw (knd:=knd) (it:=h1.objs.size) (l:=l) (items:=items) (more:=more) (A:=A.in1) hh hn (Ly hdl) (M6 hll) (M6 (MW hll hdl)) ps (fun i hi=>⟨hps i hi,Ly (MW (hpl i hi) hdl),Ly (hpl i hi)⟩) hsz _ 0 _ rfl (LH _) ⟨_,Lq _ rfl,rfl,rfl⟩ ?_ ⟨od,es,ep,La _ (k1 _ _ hod),hor⟩ (fun j hj=>?_) (fun h' tk hd hk=>⟨rfl,h h' tk hd fun b o e=>hk b o ?_ ?_ (La _ (up b o e))⟩)
 ·obtain⟨o,ho,r⟩:=hl2;exact⟨o,La _ ho,r⟩
 ·obtain⟨key,v,⟨o,ho,r⟩,rr⟩:=hp j hj;exact⟨key,v,⟨o,La _ (up _ _ ho),r⟩,rr⟩
 ·exact Ly (MW (Lm e) hdl)
 ·exact Ly (Lm e)
end
theorem lh{α β:Type}{F:α->β->Prop}:∀{l₁:List α} {l₂:List β},l₁.length=l₂.length->(∀(j:Nat) a b,l₁[j]?=some a->l₂[j]?=some b->F a b)->Paired F l₁ l₂
 |[],[],_,_=>.nil
 |[],_::_,h,_=>by cases h
 |_::_,[],h,_=>by cases h
 |a::l₁,b::l₂,h,f=>.cons (f 0 a b rfl rfl) (lh (Nat.succ.inj h) fun j x y hx hy=>f (j+1) x y (by simpa using hx) (by simpa using hy))
noncomputable def qV(K:Qf)(H:Hp)(vs:List V)(kvs:List (Key×V)):Prop:=vs.length=kvs.length/\∀(j:Nat) (k:Key) (x:V),kvs[j]?=some (k,x)->∃ p,vs[j]?=some (.ref p)/\H p=some (.tup [kV k,x])
noncomputable def pW(K:Qf):List V->Hp->VK->Prop:=fun xs H Q=>∃ l vs kvs,xs=[.ref l]/\H l=some (.lst vs)/\qV K H vs kvs/\kvs.length<=1000/\∀ p,H p=none->Q (.ref p) (upd H p (.dK (fN [] kvs)))
theorem oJ(K:Qf)(hc:X.calm=true):aQ X (.type "dict") (pW K):=by
 intro pins s σ H xs us Q I r h;obtain⟨l,vs,kvs,rfl,hl,hp,hk,q⟩:=h;obtain⟨u,rfl,e0⟩:=vals1 r;have e1:u=.ref l:=e0;subst e1;obtain⟨hlen,its,n,hv,hget⟩:=(show aP X.prog X.w H s.heap l (.lst vs) from I.aJ l _ hl);have hsz:its.toArray.size=kvs.length:=by rw[<- hp.1,Ld,<- Paired.length hv]
 have key:∀ j,j<kvs.length->∃ p k x,kvs[j]?=some (k,x)/\its[j]?=some (.ref p)/\∃ ku xu,s.heap.IsTuple p #[ku,xu]/\gM k ku=true/\RelV x xu:=fun j hj=>by
  obtain⟨p,e1,e2⟩:=hp.2 j kvs[j].1 kvs[j].2 (KW hj);obtain⟨u,e3,e4⟩:=Vals.get hv e1;have e5:u=.ref p:=e4;subst e5;obtain⟨_,ts,tv,hT⟩:=(show aP X.prog X.w H s.heap p (.tup [kV kvs[j].1,kvs[j].2]) from I.aJ p _ e2);obtain⟨ku,xu,rfl,r1,r2⟩:=vals2 tv;exact⟨p,_,_,KW hj,e3,ku,xu,hT.to,sU (P:=X.prog) (w:=X.w) r1,r2⟩
 obtain⟨f,hf⟩:=Classical.axiomOfChoice (r:=fun (j:Nat) (y:Addr×Value×Value)=>∀ hj:j<kvs.length,s.heap.IsTuple y.1 #[y.2.1,y.2.2]/\gM kvs[j].1 y.2.1=true/\RelV kvs[j].2 y.2.2/\its[j]?=some (.ref y.1)) (fun j=>by
  by_cases hj:j<kvs.length
  ·obtain⟨p,k,x,e1,e2,ku,xu,hT,h1,h2⟩:=key j hj;rw[KW hj] at e1;have e1':kvs[j]=(k,x):=Option.some.inj e1;exact⟨(p,ku,xu),fun _=>⟨hT,by rw[e1'];exact h1,by rw[e1'];exact h2,e2⟩⟩
  ·exact⟨(0,.none,.none),fun h=>absurd h hj⟩)
 let mv:List (Key×Value):=(List.range kvs.length).map fun j=>((kvs[j]?.getD (.inl 0,.aC)).1,(f j).2.2)
 have hmv:mv.length=kvs.length:=by simp[mv]
 have hmj:∀ j (hj:j<kvs.length),mv[j]?=some (kvs[j].1,(f j).2.2):=fun j hj=>by
  simp only[mv,Lr,Md hj,Option.map_some,KW hj,Option.getD_some]
 have at':∀ j (hj:j<kvs.length),∃ ku xu,s.heap.IsTuple (f j).1 #[ku,xu]/\gM kvs[j].1 ku=true/\RelV kvs[j].2 xu/\its[j]?=some (.ref (f j).1)/\mv[j]?=some (kvs[j].1,xu):=fun j hj=>by
  obtain⟨h1,h2,h3,h4⟩:=hf j hj;exact⟨_,_,h1,h2,h3,h4,hmj j hj⟩
 have hKV:KV kvs mv:=by
  refine lh (by rw[hmv]) fun j a b ha hb=>?_
  have hj:j<kvs.length:=by
   rcases Ma j kvs.length with c|c
   ·exact c
   ·rw[L4.mpr c] at ha;cases ha
  obtain⟨ku,xu,_,_,h2,_,h3⟩:=at' j hj;rw[KW hj] at ha;cases ha;rw[h3] at hb;cases hb;exact⟨rfl,h2⟩
 refine pC (knd:=bR X.prog X.w) hget (I.ok.hd hc) (by rw[hmv,hsz]) (by rw[hmv];exact hk) (fun j=>(f j).1) (fun i hi=>?_) (fun j hj=>?_) (fun h' tk hd hkp=>?_)
 ·rw[hsz] at hi;obtain⟨_,_,_,_,_,e,_⟩:=at' i hi;rw[My];exact e
 ·rw[hsz] at hj;obtain⟨ku,xu,hT,h1,_,_,h3⟩:=at' j hj;exact⟨ku,xu,hT,_,h3,h1⟩
 ·have hz:(fN [] kvs).length<=sizeLine:=by
   have h1:=gm kvs [];rw[LC] at h1;exact Lk (show _<=1000 by lia) (by decide)
  exact⟨.ref s.heap.objs.size,_,I.laid (t':=tk) hkp (Lj _) (Dt hz (Mc.mpr (Ne.symm (Ly I.big))) (hKV.merge .nil) hd),rfl,q _ (I.aJ.fresh (Lj _))⟩
open PySem PySem.Spec PyProof PyProof.Rows
variable{X:Cx}{Q:Value->Shared->Prop}{body e o:Expr}{D:List (Str×List Str)}{q x:Str}{p:Array Nat}{K:Qf}{a b c:List Nat}{e1 ep i j k m n:Nat}{y:Int×Int}{α:Type}{l:List (Int×Int)}{s:Shared}{N:List Str}{σf:List (Option V)}{scope:Scope}{c' f kS:Addr}{cl:List (Str×Addr)}{params:Arguments}{ctv pm:Value}{H H1:Hp}{h h':Heap}{P:PySem.Fin->Shared->Prop}{us vs:List Value}{kz:List Int}{xs:List V}{kpos lpos:Pos}{w:World}{es:Array DictEntry}{prog:Program}{B:aR}
noncomputable def sx(ks:List Str)(us:List T):List T:=List.zipWith (fun k u=>T.tup [.str k,u]) ks us
namespace Y
theorem qO(K:Qf)(hc:X.calm=true):aQ X (.type "dict") (pW K):=oJ K hc
end Y
section
variable {prog:Program} {w:World} {A:Around} {E:Value->Shared->Prop} {s:Shared} {K:Qf} {a:Addr} {D:List (Str×List Str)} {k:Str} {tk:Tok}
theorem u4{ws:List Str}(T:mO K a D)(X:K.In s.heap)(hk:KTD.datumAt k D=some ws)(h:∀ v,xB K ws v->Q v {s with toks:=s.toks+1}):wpAny (model prog w) A (getItem (.ref a) (.str k tk)) Q E s:=by
 have hT:=T.typeIs X;unfold getItem
 try with_reducible refine LM ?_
 refine KU (wpAny_sequenceKey hT (by decide) ?_)
 refine KU (LZ (name:=Str.ofString "__getitem__") hT PySem.F.slot_dict_getitem
  (Mb PySem.F.slot_dict_getitem hT PySem.F.entry_dict_getitem ?_ (args_dict_getitem _ _)))
 show wpAny _ _ (dictGet a (.str k tk) >>= _) _ _ s;refine KU (xC T X (fun d v e r=>?_) fun e=>?_)
 ·rw[hk] at e;cases e;exact Lh ⟨v,rfl,Lh (h v r)⟩
 ·rw[hk] at e;cases e
end
noncomputable def Jl(K:Qf)(D:List (Str×List Str))(te:TE):TE:=fun σ H Q=>te σ H fun y H1=>∃ k ws,y=.str k/\KTD.datumAt k D=some ws/\∀ p,EG K p (ws.map V.str)->Q (.ref p) H1
theorem ES{te:TE}{pos:Pos}{d:Addr}(ho:PE X o (tC (.ref d)))(hD:mO X.K d D)(he:PE X e te)(hs:yD e):PE X (.Subscript o e pos) (Jl X.K D te):=by
 intro pins s σ H Q I h;refine rn PySem.F.slot_dict_getitem.lookup hs (bu (ho pins s σ H (fun v H'=>v=.ref d/\H'=H) I ⟨rfl,rfl⟩) fun u s1 ⟨x,H1,I1,rx,ex,eh⟩=>?_);subst ex eh;obtain rfl:u=Value.ref d:=rx;refine bu (he pins s1 σ H1 _ I1 h) fun iv s2 ⟨y,H2,I2,ry,k,ws,ek,e1,q⟩=>?_;subst ek;obtain⟨t,rfl⟩:=ry;refine⟨hD.typeIs I2.ki,u4 hD I2.ki e1 fun v r=>?_⟩;obtain⟨p,rfl,r⟩:=r;exact⟨.ref p,H2,I2.tok _,rfl,q p r⟩
namespace Y
noncomputable def AW(D:List (Str×List Str))(ue:UE):UE:=fun μ Q=>ue μ fun r μ'=>match r with
 |.tr (.str k)=>(match KTD.datumAt k D with
  |some ws=>Q (.tr (.dq (ws.map T.str))) μ'
  |none=>False)
 |_=>False
theorem Kw{ue:UE}{pos p:Pos}(K:Qf)(hK:X.K=K)(hg:Gl X x)(hd:∃ d,X.mg x=some (.ref d)/\mO K d D)(he:YE X e ue)(hs:yD e:=by exact fun _ _=>rfl)(hdb:autoParam ((x ==("__debug__":Str))=false) ℜ1):
  YE X (.Subscript (.Name x p) e pos) (AW D ue):=by
 obtain⟨t,q,r⟩:=he;obtain⟨d,hm,hd⟩:=hd;subst hK;refine⟨_,⟨ES (mK hg hm rfl hdb) hd q.h hs⟩,fun F ad B σ H μ Q Qt hF l q k=>r F ad B σ H μ _ _ hF l q fun v H' r1 μ' v1 f k1 q1=>?_⟩
 split at q1
 ·rename_i z;obtain⟨l1,rp⟩:=v1;obtain rfl:=Rep.gf rp
  cases e1:KTD.datumAt z D with
  |none=>rw[e1] at q1;exact q1.elim
  |some ws =>
   rw[e1] at q1;exact⟨z,ws,rfl,e1,fun p kt=>k _ H' (.tr (.dq (ws.map T.str))) μ' ⟨l1,.dq (by rw[hF];exact kt) (kK ws)⟩ f.d k1 q1⟩
 ·exact q1.elim
end Y
namespace A
theorem AW(D:List (Str×List Str))(ue:UE)(μ:Mu)(Q:R->Mu->Prop):Y.AW D ue μ Q=ue μ fun r μ'=>match r with
 |.tr (.str k)=>(match KTD.datumAt k D with
  |some ws=>Q (.tr (.dq (ws.map T.str))) μ'
  |none=>False)
 |_=>False:=rfl
end A
namespace Y
noncomputable def zm:V->List V->Hp->VK->Prop:=fun x vs H Q=>∃(z y:Str) (i:Nat) (rest:List Nat),x=.str z/\vs=[.str y]/\Builtin.Str.occurrences z y 0 z.length 1=i::rest/\Q (.int (i:Nat)) H
theorem xv:vt X "str.index" zm:=by
 intro pins s σ H x xs v us Q I rx rs h;obtain⟨z,y,i,rest,rfl,rfl,ho,q⟩:=h;obtain⟨t,rfl⟩:=rx;obtain⟨u,rfl,k,rfl⟩:=vals1 rs;exact SC.index ho ⟨.int _,H,I.tok _,⟨_,rfl⟩,q⟩
noncomputable def jE:Cc:=fun z rs μ Q=>match rs with
 |[.tr (.str y)]=>∃(i:Nat) (rest:List Nat),Builtin.Str.occurrences z y 0 z.length 1=i::rest/\Q (.tr (.int (i:Nat))) μ
 |_=>False
theorem xi:Hz K zm jE:=by
 intro F ad B σ H μ Q Qt z xs rs hF l ps q k;unfold jE at q
 split at q
 ·obtain⟨_,_,rfl,h,ps⟩:=Paired.aO ps;obtain rfl:=Paired.eV ps
  cases aL h
  obtain⟨i,rest,ho,q⟩:=q;exact⟨z,_,i,rest,rfl,rfl,ho,k _ H _ μ (Vr.flat l (.int _)) Fr.refl (Kp.refl μ) q⟩
 ·exact q.elim
noncomputable def GI:V->List V->Hp->VK->Prop:=fun x vs H Q=>∃(a:Addr) (ws:List Str) (k:Str) (j:Nat),x=.ref a/\H a=some (.lst (ws.map V.str))/\vs=[.str k]/\ws[j]?=some k/\(∀ m,m<j->ws[m]?≠some k)/\Q (.int (j:Nat)) H
theorem zE:Ip X "list.index" GI:=by
 intro pins s σ H x xs v us Q I rx rs h;obtain⟨a,ws,k,j,rfl,hH,rfl,hj,hno,q⟩:=h;cases rx;obtain⟨u,rfl,t,rfl⟩:=vals1 rs;obtain⟨z,its,n,r,hl,e⟩:=I.pR hH;obtain⟨t',hit⟩:=nR r j k hj;have hjl:j<ws.length:=(Ll.mp hj).1;rw[Lb] at z hl;have hji:j<its.toArray.size:=by rw[Ld];lia
 have sz:(sizeLine:Int)<2^63-1:=by decide
 have hje:its.toArray[j]=.str k t':=by
  have:its.toArray[j]?=some (.str k t'):=by rw[My];exact hit
  exact (MN.mp this).2
 have hall:∀(m:Nat) (hm:m<its.toArray.size),∃ y ty,its.toArray[m]=.str y ty/\ws[m]?=some y:=fun m hm=>by
  have hm':m<ws.length:=by rw[Ld] at hm;lia
  have e1:=KW hm';obtain⟨ty,hy⟩:=nR r m _ e1;have:its.toArray[m]?=some (.str ws[m] ty):=by rw[My];exact hy
  exact⟨_,ty,(MN.mp this).2,e1⟩
 refine M8 PySem.F.slot_list_index ⟨_,e,rfl⟩ PySem.F.entry_list_index (PySem.F.args_list_index_2 _ _) (SeqAt.list_indexAt a its.toArray n none _ (.str k t) (fun y=>match y with|.str y _=>y == k|_=>false) j hji (by lia) (by rw[hje];exact MX k) fun m hm hmj=>?_) ⟨e,fun y hy=>?_,⟨.int (j:Nat),H,I.tok _,⟨_,rfl⟩,q⟩⟩
 ·obtain⟨y,ty,ey,ew⟩:=hall m hm;rw[ey];exact Mc.mpr fun z=>hno m hmj (by rw[ew,z])
 ·obtain⟨m,hm,rfl⟩:=Array.mem_iff_getElem.mp hy;obtain⟨y,ty,ey,ew⟩:=hall m hm;rw[ey];exact SeqAt.EqAt.str_str _ _ _ _
end Y
namespace A
theorem jE(z y:Str)(μ:Mu)(Q:R->Mu->Prop):Y.jE z [.tr (.str y)] μ Q=(∃(i:Nat) (rest:List Nat),Builtin.Str.occurrences z y 0 z.length 1=i::rest/\Q (.tr (.int (i:Nat))) μ):=rfl
end A
open PySem PySem.Spec PyProof PyProof.Rows PySem.W
namespace SP
section
variable (k:Nat->Int)
noncomputable def R(i j:Nat):Prop:=k i<k j\/(k i=k j/\i<j)
variable {k}
theorem R.le{a b:Nat}(h:R k a b):k a<=k b:=by unfold R at h;lia
end
structure PI (n m:Nat) (p:Array Nat) (a:List Nat):Prop where
 eq:p.toList=a++List.range' m (n-m)
 perm:a.Perm (List.range m)
 le:m<=n
section
variable {n m:Nat} {p:Array Nat} {a:List Nat}
theorem PI.len(h:PI n m p a):a.length=m:=by rw[h.perm.length_eq,Lz]
theorem PI.lt(h:PI n m p a){x:Nat}(hx:x∈a):x<m:=Mx.mp (h.perm.mem_iff.mp hx)
theorem PI.size(h:PI n m p a):p.size=n:=by
 have:=h.len;have:=h.le;rw[<- LJ,h.eq,KY,Nn,h.len];lia
theorem PI.at(h:PI n m p a){x:Nat}(hi:a[i]?=some x):p.getD i 0=x:=by
 have:p[i]?=some x:=by
  rw[<- LF,h.eq,MQ (Ll.mp hi).1];exact hi
 rw[OJ,this];rfl
theorem PI.nx(h:PI n m p a)(hm:m<n):p.getD m 0=m:=by
 have:p[m]?=some m:=by
  rw[<- LF,h.eq,Ml (by rw[h.len];exact Lj m),h.len,NL,List.getElem?_range' (by lia)];simp
 rw[OJ,this];rfl
theorem PI.step(h:PI n m p a)(hm:m<n):PI n (m+1) p (a++[m]):=by
 refine⟨?_,?_,hm⟩
 ·rw[h.eq,Ls,show n-m=(n-(m+1))+1 by lia,MZ];rfl
 ·rw[Oy];exact h.perm.append_right [m]
theorem PI.last(h:PI n m p a){y:Nat}(e:a=b++[y]):p.getD (m-1) 0=y:=by
 refine h.at ?_;have:=h.len;rw[e,KY] at this;simp only[Lf,LC] at this;rw[e,Ml (by lia),show m-1-b.length=0 by lia];rfl
end
theorem xU{xs:Array α}{l:Nat}{y:α}(hy:xs[k]?=some y)(hl:l<=k):(bubble xs k (k-l)).toList=xs.toList.take l++y::(xs.toList.drop l).take (k-l)++xs.toList.drop (k+1):=by
 have hk:k<xs.size:=(MN.mp hy).1;have hL:xs.toList.length=xs.size:=by simp
 apply MP;intro i;rw[LF,getElem?_bubble hk _ (by lia),show k-(k-l)=l by lia]
 rw[Ls,N4];have ht:(xs.toList.take l).length=l:=by rw[L7];lia
 rw[ht];by_cases h1:i<l
 ·rw[Li h1,Lc (by lia),Lc (by lia),Np,Li h1,LF]
 ·rw[Lc h1];by_cases h2:i=l
  ·subst h2;rw[Li rfl,NL,hy];rfl
  ·rw[Lc h2,show i-l=(i-l-1)+1 by lia,Mw,NQ,N4]
   have hm:((xs.toList.drop l).take (k-l)).length=k-l:=by rw[L7,LS];lia
   rw[hm];by_cases h3:i-l-1<k-l
   ·rw[Li h3,Li (by lia),Np,Li h3,Mr,LF]
    congr 1;lia
   ·rw[Lc h3,Lc (by lia),Mr,LF]
    congr 1;lia
theorem wO{xs:Array α}(hi:i<=j)(hj:j<=xs.size):(mirror xs i j ((j-i) / 2)).toList=xs.toList.take i++((xs.toList.drop i).take (j-i)).reverse++xs.toList.drop j:=by
 have hL:xs.toList.length=xs.size:=by simp
 apply MP;intro k;rw[LF,getElem?_mirror_all hj,Ls,N4];have ht:(xs.toList.take i).length=i:=by rw[L7];lia
 have hm:((xs.toList.drop i).take (j-i)).length=j-i:=by rw[L7,LS];lia
 rw[ht];by_cases h1:k<i
 ·rw[Li h1,Lc (by lia),Np,Li h1,LF]
 ·rw[Lc h1,N4,Nb,hm];by_cases h2:k<j
  ·rw[Li (by lia),Li (by lia),List.getElem?_reverse (by lia),hm,Np,Li (by lia),Mr,LF]
   congr 1;lia
  ·rw[Lc (by lia),Lc (by lia),Mr,LF]
   congr 1;lia
theorem PI.rev(h:PI n m p (b++c)):PI n m (kas_rev p b.length m) (b++c.reverse):=by
 have hl:b.length+c.length=m:=by rw[<- h.len,KY]
 refine⟨?_,((List.reverse_perm c).append_left b).trans h.perm,h.le⟩;unfold kas_rev;rw[wO (by lia) (by rw[h.size];exact h.le),h.eq,Ls b c,OC,Ny,show m-b.length=c.length by lia,OC,<- Ls b c,List.drop_left' (by rw[KY];exact hl)]
theorem mH(h:a.length=m)(hm:1<=m):∃ b y,a=b++[y]:=by
 rcases PD a with rfl|⟨b,y,rfl⟩
 ·cases h;exact absurd hm (by decide)
 ·exact⟨b,y,by simp⟩
section
variable {k:Nat->Int} {n:Nat} {cmp:Nat->Nat->(Bool->Shared->Prop)->Shared->Prop} {I:Shared->Prop}
noncomputable def nY(k:Nat->Int)(n:Nat)(cmp:Nat->Nat->(Bool->Shared->Prop)->Shared->Prop)(I:Shared->Prop):Prop:=∀ i j C s,i<n->j<n->I s->(∀ s',I s'->C (decide (k i<k j)) s')->cmp i j C s
theorem p_(hc:nY k n cmp I){G:Nat->Shared->Prop}:∀(f m:Nat) (a:List Nat) (s:Shared),PI n m p a->1<=m->f=n-m->a.Pairwise (R k)->I s ->
  (∀ m' a' s',PI n m' p a'->m<=m'->a'.Pairwise (R k)->I s'->(∀ b y,a'=b++[y]->m'<n->k m'<k y)->G m' s')->(kas_asc p f m).kasWp cmp G s
 |0,m,a,s,h,h1,hf,hp,hI,g=>g m a s h (Lj m) hp hI fun _ _ _ hl=>by have:=h.le;lia
 |f+1,m,a,s,h,h1,hf,hp,hI,g=>by
  have hm:m<n:=by lia
  obtain⟨b,y,e⟩:=mH h.len h1;show cmp (p.getD m 0) (p.getD (m-1) 0) _ s;rw[h.nx hm,h.last e];have hy:y<m:=h.lt (by rw[e];simp)
  refine hc m y _ s hm (by lia) hI fun s' hI'=>?_
  by_cases c:k m<k y
  ·rw[LG c];exact g m a s' h (Lj m) hp hI' fun b' y' e' _=>by
    rw[e] at e';have:[y]=[y']:=(List.append_inj' e' rfl).2
    cases this;exact c
  ·rw[Lu c];refine p_ hc f (m+1) (a++[m]) s' (h.step hm) (by lia) (by lia) ?_ hI' fun m' a' s2 h' hm' hp' hI2 gl=>g m' a' s2 h' (by lia) hp' hI2 gl
   refine Mk.mpr ⟨hp,by simp,fun x hx z hz=>?_⟩
   rw[Lo.mp hz];have hxm:=h.lt hx;have:k x<=k y:=by
    rw[e] at hx hp;rcases LY.mp hx with hx|hx
    ·exact ((Mk.mp hp).2.2 x hx y (by simp)).le
    ·rw[Lo.mp hx];exact P2 _
   unfold R;lia
structure DI (k:Nat->Int) (b c:List Nat):Prop where
 Ep:b.Pairwise fun x y=>R k y x
 less:∀ y∈b,∀ x∈c,k x<k y
 one:∀ x∈c,∀ y∈c,k x=k y
 up:c.Pairwise (· < ·)
theorem DI.rise(h:DI k b c):(b++c.reverse).reverse.Pairwise (R k):=by
 rw[O5,N5];refine Mk.mpr ⟨?_,Og.mpr h.Ep,fun x hx y hy=>.inl (h.less y (N6.mp hy) x hx)⟩;exact Pd (fun {x y} hx hy hl=>.inr ⟨h.one x hx y hy,hl⟩) h.up
theorem DI.next{x:Nat}(h:DI k b c)(hc:c≠[])(hx:∀ y∈c,k x<k y):DI k (b++c.reverse) [x]:=by
 refine⟨Mk.mpr ⟨h.Ep,Og.mpr (Pd (fun {x y} hx hy hl=>.inr ⟨h.one x hx y hy,hl⟩) h.up),fun y hy z hz=>.inl (h.less y hy z (N6.mp hz))⟩,fun y hy z hz=>?_,fun y hy z hz=>?_,by simp⟩
 ·rw[Lo.mp hz];rcases LY.mp hy with hy|hy
  ·obtain⟨w,hw⟩:=OT c hc;exact Int.lt_trans (hx w hw) (h.less y hy w hw)
  ·exact hx y (N6.mp hy)
 ·rw[Lo.mp hy,Lo.mp hz]
theorem DI.more{x:Nat}(h:DI k b c)(he:∀ y∈c,k x=k y)(hc:c≠[])(hl:∀ y∈c,y<x):DI k b (c++[x]):=by
 refine⟨h.Ep,fun y hy z hz=>?_,fun y hy z hz=>?_,Mk.mpr ⟨h.up,by simp,fun y hy z hz=>by rw[Lo.mp hz];exact hl y hy⟩⟩
 ·rcases LY.mp hz with hz|hz
  ·exact h.less y hy z hz
  ·rw[Lo.mp hz];obtain⟨w,hw⟩:=OT c hc;rw[he w hw];exact h.less y hy w hw
 ·rcases LY.mp hy with hy|hy<;>rcases LY.mp hz with hz|hz
  ·exact h.one y hy z hz
  ·rw[Lo.mp hz];exact (he y hy).symm
  ·rw[Lo.mp hy];exact he z hz
  ·rw[Lo.mp hy,Lo.mp hz]
theorem iT(hc:nY k n cmp I){G:Array Nat×Nat×Nat->Shared->Prop}:∀(f:Nat) (p:Array Nat) (m q:Nat) (b c:List Nat) (s:Shared),PI n m p (b++c)->c.length=q+1->DI k b c->f=n-m->I s ->
  (∀ p' m' q' b' c' s',PI n m' p' (b'++c')->c'.length=q'+1->DI k b' c'->I s'->G (p',m',q') s')->(kas_desc f p m q).kasWp cmp G s
 |0,p,m,q,b,c,s,h,hl,hd,hf,hI,g=>g p m q b c s h hl hd hI
 |f+1,p,m,q,b,c,s,h,hl,hd,hf,hI,g=>by
  have hm:m<n:=by lia
  obtain⟨c0,y,e⟩:=mH hl (by lia)
  have hbl:b.length+(q+1)=m:=by rw[<- hl,<- KY,h.len]
  have ne:c≠[]:=by rw[e];simp
  have hy:y∈c:=by rw[e];simp
  have hya:y<m:=h.lt (Lw _ hy);have e1:p.getD m 0=m:=h.nx hm;have e2:p.getD (m-1) 0=y:=h.last (b:=b++c0) (by rw[e,Ls])
  show cmp (p.getD m 0) (p.getD (m-1) 0) _ s;rw[e1,e2];refine hc m y _ s hm (by lia) hI fun s' hI'=>?_
  by_cases c1:k m<k y
  ·rw[LG c1];have hx:∀ z∈c,k m<k z:=fun z hz=>by rw[hd.one z hz y hy];exact c1
   show KasT.kasWp cmp (if q > 0 then _ else _) G s'
   by_cases hq:q > 0
   ·rw[Li hq,show m-(q+1)=b.length by lia]
    exact iT hc f _ (m+1) 0 (b++c.reverse) [m] s' (h.rev.step hm) rfl (hd.next ne hx) (by lia) hI' g
   ·rw[Lc hq];have e3:c.reverse=c:=by
     have:c.length=1:=by lia
     obtain⟨z,rfl⟩:=P4.mp this;rfl
    exact iT hc f p (m+1) 0 (b++c.reverse) [m] s' (by rw[e3];exact h.step hm) rfl (hd.next ne hx) (by lia) hI' g
  ·rw[Lu c1];show cmp y m _ s';refine hc y m _ s' (by lia) hm hI' fun s2 hI2=>?_
   by_cases c2:k y<k m
   ·rw[LG c2];exact g p m q b c s2 h hl hd hI2
   ·rw[Lu c2];refine iT hc f p (m+1) (q+1) b (c++[m]) s2 (by rw[<- Ls];exact h.step hm) (by rw[KY,hl];rfl) (hd.more (fun z hz=>?_) ne fun z hz=>h.lt (Lw _ hz)) (by lia) hI2 g
    rw[hd.one z hz y hy];lia
theorem qY(hc:nY k n cmp I){G:Nat×Array Nat->Shared->Prop}(h:PI n m p a)(h1:1<=m)(hr:a.reverse.Pairwise (R k))(hI:I s)
  (g:∀ m' p' a' s',PI n m' p' a'->1<=m'->a'.Pairwise (R k)->I s'->G (m',p') s'):(kas_tail3 m n p).kasWp cmp G s:=by
 unfold kas_tail3;rw[NC];have hv:=PI.rev (b:=[]) (c:=a) h;exact p_ hc (n-m) m a.reverse s hv h1 rfl hr hI fun m' a' s' h' hm' hp' hI' _=>g m' _ a' s' h' (by lia) hp' hI'
theorem rR(hc:nY k n cmp I){G:Nat×Array Nat->Shared->Prop}(h:PI n m p a)(hm:m<n)(hd:DI k a [m])(hI:I s)
  (g:∀ m' p' a' s',PI n m' p' a'->1<=m'->a'.Pairwise (R k)->I s'->G (m',p') s'):(kas_descPart m n p).kasWp cmp G s:=by
 unfold kas_descPart;rw[NC];refine iT hc (n-(m+1)) p (m+1) 0 a [m] s (h.step hm) rfl hd rfl hI fun p' m' q' b' c' s' h' hl' hd' hI'=>?_;have hbl:b'.length+(q'+1)=m':=by rw[<- hl',<- KY,h'.len]
 show KasT.kasWp cmp (if q' > 0 then _ else _) G s'
 by_cases hq:q' > 0
 ·rw[Li hq];show (kas_tail3 m' n (kas_rev p' (m'-(q'+1)) m')).kasWp cmp G s';rw[show m'-(q'+1)=b'.length by lia]
  exact qY hc h'.rev (by lia) hd'.rise hI' g
 ·rw[Lc hq];have e3:c'.reverse=c':=by
   have:c'.length=1:=by lia
   obtain⟨z,rfl⟩:=P4.mp this;rfl
  exact qY hc h' (by lia) (by rw[<- e3];exact hd'.rise) hI' g
theorem yz(hc:nY k n cmp I){G:Nat×Array Nat->Shared->Prop}(hn:1<=n)(hI:I s)
  (g:∀ m' p' a' s',PI n m' p' a'->1<=m'->a'.Pairwise (R k)->I s'->G (m',p') s'):(kas_count n (List.toArray (List.range n))).kasWp cmp G s:=by
 unfold kas_count;rw[NC];have h0:PI n 1 (List.toArray (List.range n)) [0]:=by
  refine⟨?_,List.Perm.refl _,hn⟩;show List.range n=[0]++List.range' 1 (n-1);rw[MS,show n=(n-1)+1 by lia,MZ];rfl
 refine p_ hc (n-1) 1 [0] s h0 (Lj 1) rfl (by simp) hI fun m a s' h hm hp hI' gl=>?_
 show KasT.kasWp cmp (if (m == n)=true then _ else _) G s'
 by_cases e:m=n
 ·subst e;rw[Li (MX m)];exact g m _ a s' h hm hp hI'
 ·rw[Lc (by simpa using e)]
  have hmn:m<n:=by have:=h.le;lia
  obtain⟨b,y,ea⟩:=mH h.len hm;have ky:=gl b y ea hmn;have hya:y<m:=h.lt (by rw[ea];simp)
  by_cases h2:m > 1
  ·rw[Li h2];obtain⟨x,r,ex⟩:∃ x r,a=x::r:=by
    cases a with
    |nil=>have:=h.len;rw[LC] at this;lia
    |cons x r=>exact⟨x,r,rfl⟩
   have hxa:x<m:=h.lt (by rw[ex];simp)
   show cmp ((List.toArray (List.range n)).getD 0 0) ((List.toArray (List.range n)).getD (m-1) 0) _ s';rw[h.at (i:=0) (x:=x) (by rw[ex];rfl),h.last ea]
   refine hc x y _ s' (by lia) (by lia) hI' fun s2 hI2=>?_
   by_cases c:k x<k y
   ·rw[LG c];exact g m _ a s2 h hm hp hI2
   ·rw[Lu c];have hv:=PI.rev (b:=[]) (c:=a) h;refine rR hc hv hmn ⟨Og.mpr hp,fun z hz w hw=>?_,fun z hz w hw=>by rw[Lo.mp hz,Lo.mp hw],by simp⟩ hI2 g
    rw[Lo.mp hw];have hz':=N6.mp hz;have hxz:k x<=k z:=by
     rw[ex] at hz' hp;rcases Le.mp hz' with rfl|hz'
     ·exact P2 _
     ·exact ((L9.mp hp).1 z hz').le
    lia
  ·rw[Lc h2];have hm1:m=1:=by lia
   have hb:b=[]:=by
    have:=h.len;rw[ea,KY,hm1] at this;simp only[Lf,LC] at this;exact Ng.mp (by lia)
   subst hb;refine rR hc h hmn ⟨by rw[ea];simp,fun z hz w hw=>?_,fun z hz w hw=>by rw[Lo.mp hz,Lo.mp hw],by simp⟩ hI' g
   rw[Lo.mp hw];rw[ea] at hz;rw[Lo.mp hz];exact ky
theorem jG(hc:nY k n cmp I){G:Nat->Shared->Prop}{t:Nat}(h:PI n t p a)(ht:t<n)(hp:a.Pairwise (R k)):∀(f l r:Nat) (s:Shared),l<=r->r<=t->r-l<=f->(∀ i x,i<l->a[i]?=some x->k x<=k t)->(∀ i x,r<=i->a[i]?=some x->k t<k x)->I s ->
  (∀ l' s',l'<=t->(∀ i x,i<l'->a[i]?=some x->k x<=k t)->(∀ i x,l'<=i->a[i]?=some x->k t<k x)->I s'->G l' s')->(kas_place p t f l r).kasWp cmp G s
 |0,l,r,s,h1,h2,h3,hlo,hhi,hI,g=>g l s (by lia) hlo (fun i x hi e=>hhi i x (by lia) e) hI
 |f+1,l,r,s,h1,h2,h3,hlo,hhi,hI,g=>by
  show KasT.kasWp cmp (if l >= r then _ else _) G s
  by_cases hlr:l >= r
  ·rw[Li hlr];exact g l s (by lia) hlo (fun i x hi e=>hhi i x (by lia) e) hI
  ·rw[Lc hlr];have hmid:(l+r) / 2<a.length:=by rw[h.len];lia
   have em:a[(l+r) / 2]?=some a[(l+r) / 2]:=KW hmid;have hma:a[(l+r) / 2]<t:=h.lt (L1 hmid);have mono:∀ i j x y,i<=j->a[i]?=some x->a[j]?=some y->k x<=k y:=fun i j x y hij ex ey=>by
    rcases Ma i j with c|c
    ·obtain⟨hi,rfl⟩:=Ll.mp ex;obtain⟨hj,rfl⟩:=Ll.mp ey;exact (MT.mp hp i j hi hj c).le
    ·have:i=j:=Nat.le_antisymm hij c;subst this;rw[ex] at ey;cases ey;exact P2 _
   show cmp (p.getD t 0) (p.getD ((l+r) / 2) 0) _ s;rw[h.nx ht,h.at em];refine hc t _ _ s ht (by lia) hI fun s' hI'=>?_
   by_cases c:k t<k a[(l+r) / 2]
   ·rw[LG c];exact jG hc h ht hp f l ((l+r) / 2) s' (by lia) (by lia) (by lia) hlo (fun i x hi e=>Int.lt_of_lt_of_le c (mono _ i _ x hi em e)) hI' g
   ·rw[Lu c];exact jG hc h ht hp f ((l+r) / 2+1) r s' (by lia) h2 (by lia) (fun i x hi e=>Int.le_trans (mono i _ x _ (by lia) e em) (by lia)) hhi hI' g
theorem xn(hc:nY k n cmp I){G:Array Nat->Shared->Prop}:∀(f:Nat) (p:Array Nat) (t:Nat) (a:List Nat) (s:Shared),PI n t p a->a.Pairwise (R k)->f=n-t->I s ->
  (∀ p' a' s',PI n n p' a'->a'.Pairwise (R k)->I s'->G p' s')->(kas_bin f p t).kasWp cmp G s
 |0,p,t,a,s,h,hp,hf,hI,g=>by
  have:t=n:=by have:=h.le;lia
  subst this;exact g p a s h hp hI
 |f+1,p,t,a,s,h,hp,hf,hI,g=>by
  have ht:t<n:=by lia
  show KasT.kasWp cmp ((kas_place p t t 0 t).bind _) G s;rw[NC];refine jG hc h ht hp t 0 t s (LH _) (Lj _) (by lia) (fun i x hi _=>absurd hi (Nat.not_lt_zero i)) (fun i x hi e=>?_) hI fun l s' hl hlo hhi hI'=>?_
  ·have:=(Ll.mp e).1;rw[h.len] at this;lia
  ·have et:p[t]?=some t:=by
    rw[<- LF,h.eq,Ml (by rw[h.len];exact Lj t),h.len,NL,List.getElem?_range' (by lia)];simp
   have hla:l<=a.length:=by rw[h.len];exact hl
   have e1:(bubble p t (t-l)).toList=(a.take l++t::a.drop l)++List.range' (t+1) (n-(t+1)):=by
    rw[xU et hl,h.eq,List.take_append_of_le_length hla,List.drop_append_of_le_length hla,show n-t=(n-(t+1))+1 by lia,MZ]
    have e2:(a.drop l).length=t-l:=by rw[LS,h.len]
    have e3:∀ r:List Nat,(a++t::r).drop (t+1)=r:=fun r=>by
     rw[show a++t::r=(a++[t])++r by simp]
     exact List.drop_left' (by rw[KY,h.len];rfl)
    rw[List.take_left' e2,e3]
   have hP:PI n (t+1) (bubble p t (t-l)) (a.take l++t::a.drop l):=by
    refine⟨e1,?_,ht⟩;have:(a.take l++t::a.drop l).Perm (a++[t]):=by
     have h1:(a.take l++t::a.drop l).Perm (t::(a.take l++a.drop l)):=Pe;rw[Nz] at h1;exact h1.trans (List.perm_append_singleton t a).symm
    rw[Oy];exact this.trans (h.perm.append_right [t])
   refine xn hc f _ (t+1) _ s' hP ?_ (by lia) hI' g
   have hp1:=(Nz l a) ▸ hp;obtain⟨q1,q2,q3⟩:=Mk.mp hp1;refine Mk.mpr ⟨q1,L9.mpr ⟨fun x hx=>?_,q2⟩,fun x hx y hy=>?_⟩
   ·obtain⟨i,hi⟩:=Oh.mp hx;rw[Mr] at hi;exact .inl (hhi (l+i) x (by lia) hi)
   ·rcases Le.mp hy with rfl|hy
    ·obtain⟨i,hi⟩:=Oh.mp hx;rw[Np] at hi
     split at hi
     ·rename_i hil;have:=hlo i x hil hi;have hxt:=h.lt (List.mem_of_mem_take hx);unfold R;lia
     ·cases hi
    ·exact q3 x hx y hy
theorem sV(hc:nY k n cmp I){G:Array Nat->Shared->Prop}(hn:1<=n)(hI:I s)(g:∀ p s',p.toList.Perm (List.range n)->p.toList.Pairwise (R k)->I s'->G p s'):(kas_sort n).kasWp cmp G s:=by
 unfold kas_sort;rw[NC];have fin:∀ p a s',PI n n p a->a.Pairwise (R k)->I s'->G p s':=fun p a s' h hp hI'=>by
  have e:p.toList=a:=by rw[h.eq,NL,List.range'_zero,L8]
  refine g p s' ?_ ?_ hI'<;>rw[e]
  ·exact h.perm
  ·exact hp
 refine yz hc hn hI fun m p a s' h h1 hp hI'=>?_;show KasT.kasWp cmp (if m<n then _ else _) G s'
 by_cases hm:m<n
 ·rw[Li hm];show (kas_bin (n-max m 1) p (max m 1)).kasWp cmp G s';rw[show max m 1=m by lia]
  exact xn hc (n-m) p m a s' h hp rfl hI' fin
 ·rw[Lc hm];have:m=n:=by have:=h.le;lia
  subst this;exact fin p a s' h hp hI'
end
end SP
abbrev EF(qual:Str)(scope:Scope)(L f:Addr)(cd:Value)(cl:List (Str×Addr)):Env:=PySem.W.envX qual scope L f cd cl
noncomputable def sP(X:Cx)(A:Around)(N:List Str)(qual:Str)(scope:Scope)(f:Addr)(cd:Value)(cl:List (Str×Addr))(s:Shared)(H:Hp):Cx where
 prog:=X.prog
 w:=X.w
 K:=X.K
 mg:=X.mg
 base:=X.base
 A:=A.deeper (EF qual scope s.heap.objs.size f cd cl)
 N:=N
 s₀:=s
 H₀:=H
 env:=EF qual scope s.heap.objs.size f cd cl
 outer:=X.stack
 stack:=EF qual scope s.heap.objs.size f cd cl::X.stack
 ex:=[]
 calm:=true
 fn:=fun _=>false
 pn:=[]
 xe:=fun _ _=>False
section
variable {X:Cx} {pins:List (Addr×Obj)} {σ:St} {H:Hp} {s:Shared}
theorem zP(I:Inv X pins σ H s){A:Around}(hA:A.frames=some X.stack)(hd:A.handled=none){qual:Str}{v:V}{u:Value}{cd:Value}{h₁:Heap}{tk:Nat}
  (hk:scope.kind=.function) (rv:RelV v u) (hloc:scope.names.lookup x=some .local) (hns:h₁.Ns s.heap.objs.size (fun y=>[(x,u)].reverse.lookup y)) (old:∀ b o,s.heap.get? b=some o->h₁.get? b=some o)
  (hlen:σf.length=N.length) (hcl:∀ y c,cl.lookup y=some c->X.env.cells.lookup y=some c) (hhas:∀ y,(scope.names.lookup y=some .cell\/scope.names.lookup y=some .free)->∃ c,cl.lookup y=some c)
  (hf:∀(i:Nat) (y:Str) (v:V),N[i]?=some y->σf[i]?=some (some v)->scope.names.lookup y=some .free/\∃ c u,cl.lookup y=some c/\s.heap.IsCell c (some u)/\RelV v u) :
  Inv (sP X A (x::N) qual scope f cd cl s H) [] (some v::σf) H {s with heap:=h₁,toks:=tk}:=by
 have noA:∀ b:Addr,b∉(sP X A (x::N) qual scope f cd cl s H).ex:=fun b z=>absurd (show b∈([]:List Addr) from z) (by simp)
 refine⟨⟨I.ok.mod,hk,rfl,rfl,Lj _,fun y z c e1 e2=>I.ok.inj y z c (hcl y c e1) (hcl z c e2),hhas,fun y c z _=>(by cases z),fun _=>hd,Around.frames_deeper hA,.inr ⟨rfl,rfl⟩,fun b z=>absurd z (noA b),I.bs,Lk I.ok.An I.sz,fun b _ _=>noA b,fun b z=>absurd z (noA b),I.stack,I.mI,I.ok.tabs.un I.base⟩,
  rfl,I.bare,Un.kept old,⟨_,hns,fun i y w e1 e2 e3=>?_⟩,fun y c e=>?_,I.aJ.fresh (Lj _),fun y c e=>I.dM y c (hcl y c e),fun p hp=>absurd (show p∈([]:List (Addr×Obj)) from hp) (by simp),I.aJ.kept old,?_⟩
 ·cases i with
  |zero =>
   have e1':some x=some y:=e1;have e2':some (some v)=some (some w):=e2
   cases e1';cases e2'
   exact⟨u,rv,.inl ⟨hloc,by simp⟩⟩
  |succ i =>
   obtain⟨h1,c,u',h2,h3,h4⟩:=hf i y w e1 e2;obtain⟨o,ho,hd'⟩:=h3;exact⟨u',h4,.inr ⟨.inr h1,c,h2,o,old _ _ ho,hd'⟩⟩
 ·obtain⟨v',o,ho,hd'⟩:=I.cell y c (hcl y c e);exact⟨v',o,old _ _ ho,hd'⟩
 ·show (some v::σf).length=(x::N).length;rw[Lf,Lf,hlen]
theorem w6(I:Inv X pins σ H s){A:Around}(hr:bG (k+1) A)(hA:A.frames=some X.stack){qual:Str}{v:V}{u:Value}{f:Addr}{t:TE}{Q:VK}
  (hk:scope.kind=.function) (hco:scope.isCoroutine=false) (hgen:scope.isGenerator=false) (hcell:∀ y∈scope.names,y.2≠.cell) (rv:RelV v u) (hloc:scope.names.lookup x=some .local)
  (ho:s.heap.get? f=some (PySem.W.kla_obj "<lambda>" qual params body scope cl pm c' ctv)) (gJ:s.heap.CodeRec (.ref c') qual)
  (hbind:∀ u,bindArgs (PySem.W.kla_fn "<lambda>" qual params body scope cl pm (.ref c') ctv) ⟨[u],[]⟩=pure [(x,u)])
  (hlen:σf.length=N.length) (hcl:∀ y c,cl.lookup y=some c->X.env.cells.lookup y=some c) (hhas:∀ y,(scope.names.lookup y=some .cell\/scope.names.lookup y=some .free)->∃ c,cl.lookup y=some c)
  (hf:∀(i:Nat) (y:Str) (v:V),N[i]?=some y->σf[i]?=some (some v)->scope.names.lookup y=some .free/\∃ c u,cl.lookup y=some c/\s.heap.IsCell c (some u)/\RelV v u)
  (hb:PE (sP X A (x::N) qual scope f (.ref c') cl s H) body t) (hq:t (some v::σf) H Q) :
  wpAny (model X.prog X.w) A (call (.ref f) [u]) (EP X pins σ Q) (fun _ _=>False) s:=by
 refine wpAny_call (PySem.W.kla_callFunE hr.depth ho rfl hco hgen rfl gJ ?_);rw[hbind];refine Lh (wpAny_newFunctionEnv hcell (fun y hy=>by rw[Lo.mp hy];exact hloc) (fun h₁ hns hsb=>⟨I.nolimit.fresh _ hsb,?_⟩) hk)
 have old:∀ b o,s.heap.get? b=some o->h₁.get? b=some o:=fun b o e=>hsb.extBut b o (Ly (Lm e)) (La _ e);have J:=zP (tk:=s.toks+1) (qual:=qual) (f:=f) (cd:=.ref c') I hA hr.hd hk rv hloc hns old hlen hcl hhas hf;refine PySem.W.kla_codeExpr (Me (hb [] _ _ H Q J hq) (fun w s' h=>?_) fun _ _ h=>h.elim);obtain⟨v',H',J',r',q'⟩:=h;exact I.after ⟨v',H',J'.os,J'.bare,J'.base,J'.aJ,r',q'⟩
end
inductive eG:Hp->Hp->Prop
 |refl {H:Hp}:eG H H
 |more {H H1:Hp} {p:Addr} {o:HO}:eG H H1->H1 p=none->eG H (upd H1 p o)
theorem eG.same(g:eG H H1):bB H H1:=by
 induction g with
 |refl=>exact bB.refl _
 |more g n ih=>exact fun b o e=>by rw[ai (aM (ih b o e) n)];exact ih b o e
theorem eG.trans{H2:Hp}(a:eG H H1)(b:eG H1 H2):eG H H2:=by
 induction b with
 |refl=>exact a
 |more _ n ih=>exact .more ih n
theorem iH{i j:Int}{ti tj:Tok}{c:Value}:∀ l:List Value,TriplesOk l->TriplesOk (l++[.int i ti,.int j tj,c])
 |[],_=>trivial
 |.int _ _::.int _ _::_::r,h=>iH r (show TriplesOk r from h)
theorem kB{p:Pos}{i j:Int}{ti tj:Tok}{c cv:Value}:∀ l:List Value,TriplesOk l->codeAmong p (l++[.int i ti,.int j tj,c])=some cv->codeAmong p l=some cv\/cv=c
 |[],_,e=>by
  have e':(if (i == p.line && j == p.col)=true then some c else codeAmong p [])=some cv:=e
  by_cases z:(i == p.line && j == p.col)=true
  ·rw[Li z] at e';cases e';exact .inr rfl
  ·rw[Lc z] at e';cases e'
 |.int a ta::.int b tb::d::r,h,e=>by
  have e':(if (a == p.line && b == p.col)=true then some d else codeAmong p (r++[.int i ti,.int j tj,c]))=some cv:=e
  show (if (a == p.line && b == p.col)=true then some d else codeAmong p r)=some cv\/_
  by_cases z:(a == p.line && b == p.col)=true
  ·rw[Li z] at e' ⊢;exact .inl e'
  ·rw[Lc z] at e' ⊢;exact kB r (show TriplesOk r from h) e'
theorem sN(q:Str)(more:Array Value):wu (#[.str q 0]++more)=q:=by
 unfold wu;rw[NA];rfl
structure iE (H:Hp) (f:Addr) (q:Str) (params:Arguments) (body:Expr) (scope:Scope) (cl:List (Str×Addr)) (c':Addr) (pm ctv:Value):Prop where
 fn:H f=some (.gK (PySem.W.kla_obj "<lambda>" q params body scope cl pm c' ctv) (.own f))
 cd:C0 H q (.ref c')
section
variable {X:Cx} {pins:List (Addr×Obj)} {σ:St} {H:Hp} {s:Shared} {E:Value->Shared->Prop}
theorem iE.up(x:iE H f q params body scope cl c' pm ctv)(g:∀ b o u,H b=some (.gK o u)->H1 b=some (.gK o u)):iE H1 f q params body scope cl c' pm ctv:=
 ⟨g _ _ _ x.fn,let ⟨c,oc,vs,t,e1,e2,e3⟩:=x.cd;⟨c,oc,vs,t,e1,g _ _ _ e2,e3⟩⟩
theorem iE.get(x:iE H f q params body scope cl c' pm ctv)(I:Inv X pins σ H s):
  s.heap.get? f=some (PySem.W.kla_obj "<lambda>" q params body scope cl pm c' ctv)/\s.heap.CodeRec (.ref c') q:=by
 obtain⟨c,oc,vs,t,e1,e2,e3,e4⟩:=x.cd;exact⟨(I.aJ f _ x.fn).1,c,oc,vs,t,e1,(I.aJ c _ e2).1,e3,e4⟩
theorem Inv.xx{o:Obj}{t':Nat}(I:Inv X pins σ H s)(k:∀ b u,s.heap.get? b=some u->h'.get? b=some u)(hp:s.heap.objs.size<=f)(e:h'.get? f=some o):Inv X pins σ (upd H f (.gK o (.own f))) {s with heap:=h',toks:=t'}:=
 I.laid k hp ⟨e,o,e⟩
theorem wC(I:Inv X pins σ H s){c P:Addr}(hx:x∈dE)(ht:PySem.W.tabIn X.K x=some (c,P))(hcode:X.env.code=.ref c)(hq:X.env.qual=x++".<locals>."){pos:Pos}
  (hdef:defaultsOf params X.env=([],[])) (hcl:closureFor scope X.env=pure cl)
  (h:∀ f c' pm ctv H1 s1,eG H H1->Inv X pins σ H1 s1->iE H1 f ((x++".<locals>.")++"<lambda>") params body scope cl c' pm ctv->Q (.ref f) s1) :
  wpAny (model X.prog X.w) X.A (eval (.Lambda params body scope pos) X.env) Q E s:=by
 have hm:(c,P,(x++".<locals>.")++"<lambda>")∈bz X.K:=NF.mpr ⟨x,hx,by rw[ht];rfl⟩
 obtain⟨more,hP⟩:=(I.ok.tabs.un I.base) _ hm;have C:PySem.W.CodeHd s.heap c P:=(I.ok.mod.codes _ hm).keeps I.bk;obtain⟨qs,eP,tr,fa⟩:=I.aJ P _ hP;have hns:=I.ok.mod.glob.keeps I.bk;have hgP:mainGlobals≠P:=fun z=>by
  obtain⟨o,es,ep,e,_⟩:=I.ok.mod.glob;have:=(I.bs _ _ e).2;rw[z,hP] at this;cases this
 have hb:s.heap.BuiltinsAt X.mg P:=by
  obtain⟨bm,ob,b1,b2,b3,b4,b5⟩:=I.ok.mod.bm;refine⟨bm,ob,b1,b2,fun z=>?_,fun z=>?_,I.bk _ _ b3,b4,b5⟩
  ·obtain⟨o,es,ep,e,hd,_⟩:=I.ok.mod.glob;rw[z,e] at b3;cases b3;rw[hd] at b5;cases b5.2
  ·have:=(I.bs _ _ b3).2;rw[z,hP] at this;cases this
 refine PySem.W.kla_eval hdef ?_;rw[hq]
 cases ca:codeAmong pos qs.toList with
 |some cv =>
  have il:=fa pos cv ca;rw[sN] at il;obtain⟨c',oc,vs,t,rfl,e2,e3⟩:=il;refine PySem.W.kla_makeFunctionHit hcl I.ok.glob hns hcode C eP tr ca hb fun ctv h' tk hk hsz=>?_;have n0:H h'.objs.size=none:=I.aJ.fresh hsz;have J:=I.xx (f:=h'.objs.size) (t':=tk) (h':=h'.push {cls:=.type "function",data:=.func (PySem.W.kla_fn "<lambda>" ((x++".<locals>.")++"<lambda>") params body scope cl ((X.mg "__name__").getD .none) (.ref c') ctv)}) (fun b u e=>La _ (hk b u e)) hsz (Lq _ rfl);exact h _ c' _ ctv _ _ (.more .refl n0) J ⟨aq,c',oc,vs,t,rfl,by rw[ai (aM e2 n0)];exact e2,e3⟩
 |none =>
  refine PySem.W.kla_makeFunction hcl I.ok.glob hns hcode C eP tr ca hgP hb fun c' ctv h' tk hx2 hge hlt hrec htb=>?_;obtain⟨c2,oc,vs,t,e2,hoc,hd,hv⟩:=hrec;cases e2;have nP:P≠c':=fun z=>absurd (Lm eP) (by rw[z];exact OU.mpr hge)
  have n1:H c'=none:=I.aJ.fresh hge;have keep:∀ b u,b≠P->s.heap.get? b=some u->h'.get? b=some u:=fun b u hb' e=>hx2 b u hb' e;have H1ne:∀ b u,H b=some u->upd H c' (.gK oc (.own c')) b=some u:=fun b u e=>by rw[ai (aM e n1)];exact e
  have hoP:∀ y,H P≠some (.own y):=fun y z=>by rw[hP] at z;cases z
  have J1:Inv X pins σ (upd H c' (.gK oc (.own c'))) {s with heap:=h',toks:=tk}:=by
   refine I.un ⟨fun b o e n _ _=>keep b o (fun z=>by rw[z,hP] at n;cases n) e,fun b o e n _ _=>⟨o.slots,keep b o (fun z=>by rw[z,hP] at n;cases n) e⟩,fun b o e n _=>?_,fun b o e _=>?_,fun b xs e=>H1ne b _ e,fun b o u e=>H1ne b _ e,fun b ps e=>⟨#[],by rw[H1ne b _ e,OG]⟩⟩ fun b u e=>?_
   ·rw[ai (fun z=>absurd (Lm e) (by rw[z];exact OU.mpr hge))];exact n
   ·by_cases z:b=P
    ·rw[z];exact⟨_,htb⟩
    ·exact⟨o,keep b o z e⟩
   ·by_cases z:b=c'
    ·subst z;rw[aq] at e;cases e;exact⟨hoc,oc,hoc⟩
    ·rw[ai z] at e;by_cases z2:b=P
     ·subst z2;rw[hP] at e;cases e;refine⟨_,htb,by rw[NA];exact iH _ tr,fun p cv hc=>?_⟩
      rw[NA] at hc;rcases kB _ tr hc with q|q
      ·obtain⟨c2,oc2,vs2,t2,g1,g2,g3⟩:=fa p cv q;exact⟨c2,oc2,vs2,t2,g1,H1ne _ _ g2,g3⟩
      ·rw[sN];exact⟨c',oc,vs,t,q,aq,hd,hv⟩
     ·refine (I.aJ b u e).jY (fun c v hc q=>keep c v ?_ q) (fun c q=>H1ne c _ q) (fun c xs q=>H1ne c _ q) fun c _ _ q=>H1ne c _ q;rcases hc with rfl|hc
      ·exact z2
      ·exact fun z3=>hoP b (by rw[<- z3];exact hc)
  have n2:upd H c' (.gK oc (.own c')) h'.objs.size=none:=J1.aJ.fresh (Lj _);have J:=J1.xx (f:=h'.objs.size) (t':=tk) (h':=h'.push (PySem.W.kla_obj "<lambda>" ((x++".<locals>.")++"<lambda>") params body scope cl ((X.mg "__name__").getD .none) c' ctv)) (fun b u e=>La _ e) (Lj _) (Lq _ rfl);exact h _ c' _ ctv _ _ (.more (.more .refl n1) n2) J ⟨aq,c',oc,vs,t,rfl,by rw[ai (aM aq n2)];exact aq,hd,hv⟩
end
section
variable {α β:Type}
noncomputable def gQ(p:Int×α):List (Int×α)->List (Int×α)
 |[]=>[p]
 |q::r=>if p.1<=q.1 then p::q::r else q::gQ p r
noncomputable def dR:List (Int×α)->List (Int×α)
 |[]=>[]
 |p::r=>gQ p (dR r)
abbrev Ft(l:List (Int×α)):Prop:=l.Pairwise fun p q=>p.1<=q.1
noncomputable def atK(a:Int)(l:List (Int×α)):List (Int×α):=l.filter fun p=>decide (p.1=a)
theorem gc(p:Int×α):∀ l,(gQ p l).Perm (p::l)
 |[]=>.refl _
 |q::r=>by
  unfold gQ;split
  ·exact .refl _
  ·exact ((gc p r).cons q).trans (List.Perm.swap p q r)
theorem dC:∀ l:List (Int×α),(dR l).Perm l
 |[]=>.refl _
 |p::r=>(gc p _).trans ((dC r).cons p)
theorem rO{p:Int×α}:∀{l:List (Int×α)},Ft l->Ft (gQ p l)
 |[],_=>Pp _ _
 |q::r,h=>by
  obtain⟨h1,h2⟩:=L9.mp h;unfold gQ;split
  ·rename_i c;exact L9.mpr ⟨fun z hz=>by
    rcases Le.mp hz with rfl|hz
    ·exact c
    ·exact Int.le_trans c (h1 z hz),h⟩
  ·rename_i c;refine L9.mpr ⟨fun z hz=>?_,rO h2⟩;rcases Le.mp ((gc p r).mem_iff.mp hz) with rfl|hz
   ·lia
   ·exact h1 z hz
theorem nX:∀ l:List (Int×α),Ft (dR l)
 |[]=>List.Pairwise.nil
 |_::r=>rO (nX r)
theorem aT(a:Int)(p:Int×α)(l:List (Int×α)):atK a (p::l)=if p.1=a then p::atK a l else atK a l:=by
 unfold atK;rw[List.filter_cons];by_cases z:p.1=a
 ·rw[Li z,Li (LG z)]
 ·rw[Lc z,Lc (by simp[z])]
theorem rq{a:Int}{p:Int×α}:∀{l:List (Int×α)},atK a (gQ p l)=atK a (p::l)
 |[]=>rfl
 |q::r=>by
  unfold gQ;split
  ·rfl
  ·rename_i c;rw[aT,rq,aT,aT,aT];by_cases z:p.1=a
   ·have z2:¬ q.1=a:=by lia
    simp only[z,z2,MV,M7]
   ·simp only[z,M7]
theorem oG{a:Int}:∀ l:List (Int×α),atK a (dR l)=atK a l
 |[]=>rfl
 |p::r=>by
  show atK a (gQ p (dR r))=_;rw[rq,aT,aT,oG r]
theorem iW{a:Int}:∀{l:List (Int×α)},(∀ p∈l,a<p.1)->atK a l=[]
 |[],_=>rfl
 |p::r,h=>by
  have:=h p (K_ ..);rw[aT,Lc (by lia),iW fun q hq=>h q (KZ _ hq)]
theorem kI:∀{l m:List (Int×α)},Ft l->Ft m->(∀ a,atK a l=atK a m)->l=m
 |[],[],_,_,_=>rfl
 |[],q::m,_,_,h=>by
  have:=h q.1;rw[aT,Li rfl] at this;cases this
 |p::l,[],_,_,h=>by
  have:=h p.1;rw[aT,Li rfl] at this;cases this
 |p::l,q::m,hl,hm,h=>by
  obtain⟨l1,l2⟩:=L9.mp hl;obtain⟨m1,m2⟩:=L9.mp hm;have e:p.1=q.1:=by
   rcases Int.lt_trichotomy p.1 q.1 with z|z|z
   ·have q1:=h p.1;rw[aT,Li rfl,aT,Lc (by lia),iW (l:=m) fun r hr=>by have:=m1 r hr;lia] at q1
    cases q1
   ·exact z
   ·have q1:=h q.1;rw[aT,Lc (by lia),aT,Li rfl,iW (l:=l) fun r hr=>by have:=l1 r hr;lia] at q1
    cases q1
  have q1:=h p.1;rw[aT,Li rfl,aT,Li e.symm] at q1;obtain⟨q2,q3⟩:=List.cons.inj q1;subst q2;congr 1;refine kI l2 m2 fun a=>?_;have q4:=h a;rw[aT,aT] at q4;by_cases z:p.1=a
  ·rw[Li z,Li z] at q4;exact (List.cons.inj q4).2
  ·rw[Lc z,Lc z] at q4;exact q4
theorem oX{l m:List (Int×α)}(hm:Ft m)(h:∀ a,atK a m=atK a l):m=dR l:=kI hm (nX l) fun a=>by rw[h a,oG]
abbrev Fo(R:α->β->Prop):List (Int×α)->List (Int×β)->Prop:=Paired fun p q=>p.1=q.1/\R p.2 q.2
theorem xF{R:α->β->Prop}{p:Int×α}{q:Int×β}(h:p.1=q.1/\R p.2 q.2){l:List (Int×α)}{m:List (Int×β)}(k:Fo R l m):Fo R (gQ p l) (gQ q m):=by
 induction k with
 |nil=>exact .cons h .nil
 |cons r t ih =>
  unfold gQ;split
  ·rename_i z;rw[Li (by rw[<- h.1,<- r.1];exact z)]
   exact .cons h (.cons r t)
  ·rename_i z;rw[Lc (by rw[<- h.1,<- r.1];exact z)]
   exact .cons r ih
theorem uE{R:α->β->Prop}{l:List (Int×α)}{m:List (Int×β)}(k:Fo R l m):Fo R (dR l) (dR m):=by
 induction k with
 |nil=>exact .nil
 |cons r t ih=>exact xF r ih
theorem yI{R:α->β->Prop}{ks:List Int}{l:List α}{m:List β}(k:Paired R l m):Fo R (ks.zip l) (ks.zip m):=by
 induction k generalizing ks with
 |nil=>rw[List.zip_nil_right,List.zip_nil_right];exact .nil
 |cons r t ih =>
  cases ks with
  |nil=>exact .nil
  |cons k ks=>exact .cons ⟨rfl,r⟩ ih
theorem yM{R:α->β->Prop}{l:List (Int×α)}{m:List (Int×β)}(k:Fo R l m):Paired R (l.map (·.2)) (m.map (·.2)):=by
 induction k with
 |nil=>exact .nil
 |cons r t ih=>exact .cons r.2 ih
noncomputable def iC(ks:List Int)(l:List α):List α:=(dR (ks.zip l)).map (·.2)
theorem tq{R:α->β->Prop}{ks:List Int}{l:List α}{m:List β}(h:Paired R l m):Paired R (iC ks l) (iC ks m):=yM (uE (yI h))
theorem rM{ks:List Int}{l:List α}(h:ks.length=l.length):(iC ks l).length=l.length:=by
 unfold iC;rw[Lb,(dC _).length_eq,ND,h,NI]
theorem jd{ks:List Int}{l:List α}(h:ks.length=l.length):(iC ks l).Perm l:=by
 have h2:((ks.zip l).map (·.2))=l:=Pg (by lia)
 have h3:=(dC (ks.zip l)).map (·.2);rw[h2] at h3;exact h3
end
theorem iL:∀{xs:List V} {us:List Value},Vals xs us->Paired RelV xs us
 |_,_,.nil=>.nil
 |_,_,.cons r t=>.cons r (iL t)
theorem iF:∀{xs:List V} {us:List Value},Paired RelV xs us->Vals xs us
 |_,_,.nil=>.nil
 |_,_,.cons r t=>.cons r (iF t)
theorem tH:∀{us:List Value} {ns:List Int},IntsAre us ns->∀{i:Nat},i<ns.length->∃ t,us.getD i Value.none=.int (ns.getD i 0) t
 |_,_,.cons n t h,0,_=>⟨t,rfl⟩
 |_,_,.cons n t h,i+1,hi=>tH h (i:=i) (by simpa using hi)
theorem xQ{p:List Nat}(hl:kz.length=us.length)(hp:p.Perm (List.range us.length))(hr:p.Pairwise (SP.R fun i=>kz.getD i 0)):p.map (fun i=>us.getD i Value.none)=iC kz us:=by
 have ez:(List.range us.length).map (fun i=>(kz.getD i 0,us.getD i Value.none))=kz.zip us:=by
  apply MG
  ·rw[Lb,Lz,ND,hl,NI]
  ·intro i h1 h2;rw[Lb,Lz] at h1;rw[Oe,OK,List.getElem_zip];simp[h1,hl]
 have e1:p.map (fun i=>(kz.getD i 0,us.getD i Value.none))=dR (kz.zip us):=by
  refine oX ?_ fun a=>?_
  ·exact MB.mpr (hr.imp fun h=>h.le)
  ·have fl:∀ l:List Nat,atK a (l.map fun i=>(kz.getD i 0,us.getD i Value.none))=(l.filter fun i=>decide (kz.getD i 0=a)).map fun i=>(kz.getD i 0,us.getD i Value.none):=fun l=>by
    unfold atK;rw[List.filter_map];rfl
   rw[<- ez,fl,fl];congr 1;refine Ph (le:=(· < ·)) (fun a b _ _ h g=>absurd h (Nat.lt_asymm g)) ?_ (NY.filter _) (hp.filter _);rw[List.pairwise_filter];refine hr.imp fun {i j} h hi hj=>?_;have hi:=Mf hi;have hj:=Mf hj;rcases h with h|h
   ·exfalso;have h':kz.getD i 0<kz.getD j 0:=h;lia
   ·exact h.2
 unfold iC;rw[<- e1,N0];rfl
section
variable {X:Cx} {pins:List (Addr×Obj)} {σ:St} {H:Hp} {s:Shared} {E:Value->Shared->Prop}
theorem Inv.take{D:Addr}{ob:Obj}{o:HO}{t':Nat}(I:Inv X ((D,ob)::pins) σ H s)(hs0:X.s₀.heap.objs.size<=D)(hnp:∀ p∈X.pn++pins,p.1≠D)(k:∀ b u,b≠D->s.heap.get? b=some u->h'.get? b=some u)(new:aP X.prog X.w (upd H D o) h' D o):
  Inv X pins σ (upd H D o) {s with heap:=h',toks:=t'}:=by
 obtain⟨g1,g2,g3,g4,g5⟩:=I.pin (D,ob) (Lw _ (K_ ..));have I0:Inv X pins σ H s:=⟨I.ok,I.os,I.bare,I.base,I.loc,I.cell,I.free,I.dM,fun p hp=>I.pin p ((LY.mp hp).elim (fun z=>M5 _ z) fun z=>Lw _ (KZ _ z)),I.aJ,I.len⟩;have ne:∀ b u,H b=some u->b≠D:=fun b u e=>aM e g2;refine I0.step (g':=s.gens) (d':=s.drawn) (ch:=[D]) (fun b hb=>?_) (fun b o' _ _ hc e _=>k b o' (fun z=>hc (by rw[z];exact Lo.mpr rfl)) e) (fun b o' _ _ hc e _=>⟨o'.slots,k b o' (fun z=>hc (by rw[z];exact Lo.mpr rfl)) e⟩) (fun b o' hc e n=>by rw[ai (fun z=>hc (by rw[z];exact Lo.mpr rfl))];exact n)
  (fun b o' hc e=>⟨o',k b o' (fun z=>hc (by rw[z];exact Lo.mpr rfl)) e⟩) (fun b xs e=>by rw[ai (ne b _ e)];exact e) (fun b o' u e=>by rw[ai (ne b _ e)];exact e) (fun b ps e=>⟨#[],by rw[ai (ne b _ e),e,OG]⟩) (fun m hm=>?_) (fun b u e=>?_) I.bare
 ·rw[Lo.mp hb];refine⟨.inr hs0,g3,fun x c e z=>?_,hnp⟩;obtain⟨v,o',ho',hd⟩:=I.cell x c e;rw[z,g1] at ho';cases ho';exact g5 v hd
 ·obtain⟨o',es,ep,ho',r⟩:=hm;exact⟨o',es,ep,k _ _ (Ne.symm g3) ho',r⟩
 ·by_cases z:b=D
  ·subst z;rw[aq] at e;cases e;exact new
  ·rw[ai z] at e;refine (I.aJ b u e).jY (fun c v hc q=>k c v ?_ q) (fun c q=>by rw[ai (ne c _ q)];exact q) (fun c xs q=>by rw[ai (ne c _ q)];exact q) fun c _ _ q=>by rw[ai (ne c _ q)];exact q
   rcases hc with rfl|hc
   ·exact z
   ·exact ne c _ hc
theorem rG{A:Around}{D:Nat}{st:SortSt}
  (I:Inv X ((D,seqObj "list" #[] e1)::pins) σ (upd H kS (.lst (kz.map V.int))) s) (hkS:H kS=none) (hD:H D=none) (hkD:kS≠D) (hs0:X.s₀.heap.objs.size<=D) (hnp:∀ p∈X.pn++pins,p.1≠D)
  (hv:Vals xs us) (hlen:kz.length=us.length) (h64:us.length<64) (ho:((arrOf st).map (·.2)).toList=iC kz us) (hfl:failedOf st=none)
  (h:∀ s',Inv X pins σ (upd (upd H kS (.lst [])) D (.lst (iC kz xs))) s'->P (.done (.ret .none)) s') :
  wpAny (model X.prog X.w) A (ksk_tail D false e1 (.ref kS) st) P E s:=by
 obtain⟨_,its,n,vr,ek⟩:=I.aJ kS _ aq;have hz:its.toArray.size<=sizeLine:=by
  rw[Ld,<- vr.length,Lb,hlen,M4];lia
 have pD:=I.pin _ (Lw _ (K_ ..));have hout:((arrOf st).map (·.2)).size=us.length:=by
  rw[<- LJ,ho,rM hlen]
 have s1:=Mo s.heap kS (Obj.mapSeq fun _=>(#[]:Array Value));obtain⟨c1,hc1⟩:∃ c,(s.heap.update kS (Obj.mapSeq fun _=>(#[]:Array Value))).get? kS=some (seqObj "list" #[] c):=⟨_,NB ek fun _=>#[]⟩;have J1:Inv X ((D,seqObj "list" #[] e1)::pins) σ (upd H kS (.lst [])) {s with heap:=s.heap.update kS (Obj.mapSeq fun _=>(#[]:Array Value))}:=by
  have J:=I.write (x:=kS) (e:=kS) (o:=.lst []) (t':=s.toks) (h':=s.heap.update kS (Obj.mapSeq fun _=>(#[]:Array Value))) (by rw[aq];trivial) (.inl rfl) (fun b u hb q=>(s1.2 b hb).trans q) ⟨_,hc1⟩ ⟨LH _,[],c1,.nil,hc1⟩
  rw[tJ] at J;exact J
 have pD1:=J1.pin _ (List.mem_append_right _ (List.mem_cons_self ..));have s2:=Heap.SameBut.update (s.heap.update kS (Obj.mapSeq fun _=>(#[]:Array Value))) D (Obj.mapSeq fun _=>(arrOf st).map (·.2));obtain⟨c2,hc2⟩:∃ c,((s.heap.update kS (Obj.mapSeq fun _=>(#[]:Array Value))).update D (Obj.mapSeq fun _=>(arrOf st).map (·.2))).get? D=some (seqObj "list" ((arrOf st).map (·.2)) c):=⟨_,get?_update_seq pD1.1 fun _=>(arrOf st).map (·.2)⟩;have vB:Vals (iC kz xs) (iC kz us):=iF (tq (iL hv));unfold ksk_tail;dsimp only;refine wpAny_bind (listUpdate_at ek rfl ?_ hz (Nat.zero_le _));refine wpAny_bind (wpAny_letGo ?_);refine wpAny_bind (seqEpoch_at pD1.1 rfl ?_);refine wpAny_bind (listUpdate_at pD1.1 rfl ?_ (Nat.zero_le _) (by show ((arrOf st).map (·.2)).size<=_;rw[hout,sizeLine_eq];lia))
 rw[hfl];simp only[OP,Mp,M7];refine Lh (h _ (J1.take hs0 hnp (fun b u hb q=>(s2.2 b hb).trans q) ⟨?_,iC kz us,c2,vB,?_⟩))
 ·rw[vB.length,rM hlen,M4];lia
 ·rw[<- ho,N7];exact hc2
theorem D7{A:Around}{D:Nat}{us:List Value}{kz:List Int}{keys:Array Value}
  (I:Inv X ((D,seqObj "list" #[] e1)::pins) σ (upd H kS (.lst (kz.map V.int))) s) (hkS:H kS=none) (hD:H D=none) (hkD:kS≠D) (hs0:X.s₀.heap.objs.size<=D) (hnp:∀ p∈X.pn++pins,p.1≠D)
  (hv:Vals xs us) (hlen:kz.length=us.length) (h64:us.length<64) (hk:IntsAre keys.toList kz)
  (h:∀ s',Inv X pins σ (upd (upd H kS (.lst [])) D (.lst (iC kz xs))) s'->P (.done (.ret .none)) s') :
  wpAny (model X.prog X.w) A (ksk_end D false us.toArray e1 (.ref kS) keys) P E s:=by
 have hsz:keys.size=us.length:=by
  have z:=hk.length;rw[LJ] at z;exact z.trans hlen
 have hzs:(keys.zip us.toArray).size=us.length:=by
  rw[Array.size_zip,hsz,Ld,NI]
 unfold ksk_end;dsimp only;rw[if_neg Bool.false_ne_true,if_neg Bool.false_ne_true];by_cases h2:us.toArray.size<2
 ·rw[if_pos h2,if_pos h2];refine wpAny_bind (wpAny_pure ?_);rw[StateT.run_pure];refine wpAny_bind (wpAny_pure ?_);dsimp only;refine rG I hkS hD hkD hs0 hnp hv hlen h64 ?_ rfl h;rw[List.size_toArray] at h2;have:=xQ (us:=us) (kz:=kz) (p:=List.range us.length) hlen (List.Perm.refl _) (by
   rcases us with _|⟨x,_|⟨y,r⟩⟩
   ·exact .nil
   ·simp
   ·exfalso;simp only[Lf] at h2;lia)
  rw[<- this];show ((keys.zip us.toArray).map (·.2)).toList=_;rw[Array.toList_map,Array.toList_zip,Pg (by simp only[LJ,Ld];lia)]
  apply MG
  ·simp
  ·intro i h1 h2;have h1':i<us.length:=h1;simp[h1']
 ·rw[Lc h2,Lc h2];rw[Ld] at h2;rw[ksk_kind hk (by lia)]
  refine KU (Lh ?_);have ek:keys=keys.toList.toArray:=(N7).symm;have hkl:keys.toList.length=us.length:=by rw[LJ,hsz]
  have hat:∀ i,i<us.length->∃ t,keys.toList.getD i Value.none=.int (kz.getD i 0) t:=fun i hi=>tH hk (by rw[hlen];exact hi)
  generalize keys.toList=ks at *;subst ek;refine KU (Me (PySem.W.kat_run (ks:=ks) (vs:=us) (κ:=oneType') (Q:=fun st' s'=>s'=s/\failedOf st'=none/\((arrOf st').map (·.2)).toList=iC kz us)
   (G:=fun p s'=>s'=s/\p.toList.Perm (List.range us.length)/\p.toList.Pairwise (SP.R fun i=>kz.getD i 0)) hkl (by lia) h64 (fun p st' s' a1 a2 a3 a4=>⟨a4.1,a3,by rw[PySem.W.kat_snds hkl a2];exact xQ hlen a4.2.1 a4.2.2⟩) ?_) ?_ fun _ _ e=>e)
  ·refine SP.sV (k:=fun i=>kz.getD i 0) (I:=fun s'=>s'=s) (fun i j C s' hi hj hI hC=>?_) (by lia) rfl fun p s' hp hr hI=>⟨hI,hp,hr⟩
   subst hI;obtain⟨t1,e1⟩:=hat i hi;obtain⟨t2,e2⟩:=hat j hj;unfold PySem.W.kas_ask;rw[e1,e2];exact PySem.W.kat_lt_int (hC _ rfl)
  rintro⟨⟨⟩,st'⟩ s' ⟨rfl,hf,ho⟩;dsimp only;exact rG I hkS hD hkD hs0 hnp hv hlen h64 ho hf h
theorem jD:∀{us:List Value} {ns:List Int},Vals (ns.map V.int) us->IntsAre us ns
 |_,[],.nil=>.nil
 |_,n::ns,.cons ⟨t,e⟩ r=>by subst e;exact .cons n t (jD r)
theorem zY{A:Around}{D:Nat}{f:Value}
  (I:Inv X ((D,seqObj "list" #[] e1)::pins) σ (upd H kS (.lst [])) s) (hkS:H kS=none) (hD:H D=none) (hkD:kS≠D) (hs0:X.s₀.heap.objs.size<=D) (hnp:∀ p∈X.pn++pins,p.1≠D)
  (hv:Vals xs us) (hlen:kz.length=us.length) (h64:us.length<64)
  (turn:∀(i:Nat) (u:Value) (k:Int),us[i]?=some u->kz[i]?=some k->∀ pins' H' s',eG H H'->Inv X pins' σ H' s'->wpAny (model X.prog X.w) A (call f [u]) (fun r s2=>(∃ t,r=.int k t)/\Inv X pins' σ H' s2) (fun _ _=>False) s')
  (h:∀ s',Inv X pins σ (upd (upd H kS (.lst [])) D (.lst (iC kz xs))) s'->P (.done (.ret .none)) s') :
  wpAny (model X.prog X.w) A (ksk_rest D f false us.toArray e1 (.ref kS)) P E s:=by
 unfold ksk_rest;refine KU (OQ ?_)
 first
  |rw[List.forIn_toArray]
  | (rw[<- Array.forIn_toList];simp only[O6])
 refine KU (ksk_fold (fun i s'=>Inv X ((D,seqObj "list" #[] e1)::pins) σ (upd H kS (.lst ((kz.take i).map V.int))) s') us 0 s I ?one ?all)
 case one =>
  intro j u s' hu J;rw[M9] at J ⊢;have hj:j<us.length:=(Ll.mp hu).1;obtain⟨k,hkj⟩:∃ k,kz[j]?=some k:=⟨_,KW (by lia)⟩
  refine wpAny_bind (wpAny_attempt (wpAny_mono (turn j u k hu hkj _ _ s' (.more .refl hkS) J) (fun r s2 hr=>?_) fun _ _ z=>z.elim));obtain⟨⟨t,rfl⟩,J2⟩:=hr;dsimp only;obtain⟨_,its,n,vr,ek⟩:=J2.aJ kS _ aq;have lenI:its.length<=us.length:=by
   rw[<- vr.length,Lb,L7];lia
  have s1:=Mo s2.heap kS (Obj.mapSeq (·.push (.int k t)));obtain⟨c1,hc1⟩:∃ c,(s2.heap.update kS (Obj.mapSeq (·.push (.int k t)))).get? kS=some (seqObj "list" (its.toArray.push (.int k t)) c):=⟨_,NB ek (·.push (.int k t))⟩;have et:kz.take (j+1)=kz.take j++[k]:=by
   rw[List.take_add_one,hkj];rfl
  have vr2:Vals ((kz.take (j+1)).map V.int) (its++[.int k t]):=by
   rw[et,L5];exact vr.append (.cons ⟨t,rfl⟩ .nil)
  refine KU (N_ ek rfl ?_ (by rw[Ld,M4];lia) (by show (its.toArray.push (.int k t)).size<=_;rw[Array.size_push,Ld,M4];lia))
  refine Lh ⟨rfl,?_⟩;have J3:=J2.write (x:=kS) (e:=kS) (o:=.lst ((kz.take (j+1)).map V.int)) (t':=s2.toks) (h':=s2.heap.update kS (Obj.mapSeq (·.push (.int k t)))) (by rw[aq];trivial) (.inl rfl) (fun b u hb q=>(s1.2 b hb).trans q) ⟨_,hc1⟩
   ⟨by rw[Lb,L7,M4];lia,its++[.int k t],c1,vr2,by rw[hc1,List.push_toArray]⟩
  rw[tJ] at J3;exact J3
 case all =>
  intro s' J;have ez:kz.take (0+us.length)=kz:=Mm (by lia)
  have J':Inv X ((D,seqObj "list" #[] e1)::pins) σ (upd H kS (.lst (kz.map V.int))) s':=by
   rw[<- ez];rw[ez];simpa only[ez] using J
  obtain⟨_,its,n,vr,ek⟩:=J'.aJ kS _ aq;refine KU (Ox ek rfl ?_);exact D7 J' hkS hD hkD hs0 hnp hv hlen h64 (by rw[O6];exact jD vr) h
theorem Az{A:Around}{D:Addr}{n0:Nat}{h0:Heap}{f:Value}
  (I:Inv X pins σ H s) (k0:∀ b o,s.heap.get? b=some o->h0.get? b=some o) (hDs:s.heap.objs.size<=D) (ho:h0.get? D=some (seqObj "list" us.toArray n0)) (hv:Vals xs us) (hlen:kz.length=us.length) (h64:us.length<64)
  (turn:∀(i:Nat) (u:Value) (k:Int),us[i]?=some u->kz[i]?=some k->∀ pins' H' s',eG H H'->Inv X pins' σ H' s'->wpAny (model X.prog X.w) A (call f [u]) (fun r s2=>(∃ t,r=.int k t)/\Inv X pins' σ H' s2) (fun _ _=>False) s')
  (h:∀ H' s',eG H H'->H' D=none->Inv X pins σ (upd H' D (.lst (iC kz xs))) s'->P (.done (.ret .none)) s') :
  wpAny (model X.prog X.w) A (ksk_tree D f false) P E {s with heap:=h0}:=by
 have hsz0:D<h0.objs.size:=Lm ho;have s1:=Mo h0 D (Obj.mapSeq fun _=>(#[]:Array Value));obtain⟨e1,ho1⟩:∃ e,(h0.update D (Obj.mapSeq fun _=>(#[]:Array Value))).get? D=some (seqObj "list" #[] e):=⟨_,NB ho fun _=>#[]⟩;have hkz:((h0.update D (Obj.mapSeq fun _=>(#[]:Array Value))).push (seqObj "tuple" us.toArray 0)).objs.size=h0.objs.size+1:=by
  rw[size_push',Pa]
 have nD:∀ b o,s.heap.get? b=some o->b≠D:=fun b o e=>Ly (Lv (Lm e) hDs);have keep:∀ b o,s.heap.get? b=some o->(((h0.update D (Obj.mapSeq fun _=>(#[]:Array Value))).push (seqObj "tuple" us.toArray 0)).push (seqObj "list" #[] 0)).get? b=some o:=fun b o e =>
  La _ (La _ ((s1.2 b (nD b o e)).trans (k0 b o e)))
 have hle:s.heap.objs.size<=h0.objs.size+1:=Lk hDs (Nat.le_succ_of_le (MI hsz0));have hkD:h0.objs.size+1≠D:=M6 (Nr hsz0);have hkS:H (h0.objs.size+1)=none:=I.aJ.fresh hle;have hD:H D=none:=I.aJ.fresh hDs;have hnp:∀ p∈X.pn++pins,p.1≠D:=fun p hp=>nD _ _ (I.pin p hp).1;have J0:Inv X pins σ (upd H (h0.objs.size+1) (.lst [])) {s with heap:=((h0.update D (Obj.mapSeq fun _=>(#[]:Array Value))).push (seqObj "tuple" us.toArray 0)).push (seqObj "list" #[] 0)}:=
  I.laid (t':=s.toks) keep hle ⟨LH _,[],0,.nil,by rw[<- hkz];exact Lq _ rfl⟩
 have J:Inv X ((D,seqObj "list" #[] e1)::pins) σ (upd H (h0.objs.size+1) (.lst [])) {s with heap:=((h0.update D (Obj.mapSeq fun _=>(#[]:Array Value))).push (seqObj "tuple" us.toArray 0)).push (seqObj "list" #[] 0)}:=by
  refine J0.mh fun p hp=>?_;rcases Le.mp hp with rfl|hp
  ·exact⟨La _ (La _ ho1),by rw[ai (Ne.symm hkD)];exact hD,fun z=>absurd I.lt (by rw[<- z];exact OU.mpr hDs),I.GW hDs,fun v z=>by cases z⟩
  ·exact J0.pin p (Lw _ hp)
 unfold ksk_tree;refine KU (Ox ho rfl ?_);refine KU (N_ ho rfl ?_ (by rw[Ld,M4];lia) (LH _))
 refine KU (seqEpoch_at ho1 rfl ?_);refine KU (PF ?_ (by show us.length<=_;rw[M4];lia))
 refine KU (N8 ?_ (LH _));refine LM ?_;show wpAny _ _ (ksk_rest D f false us.toArray e1 (.ref ((h0.update D (Obj.mapSeq fun _=>(#[]:Array Value))).push (seqObj "tuple" us.toArray 0)).objs.size)) _ _ _;rw[hkz];exact zY J hkS hD hkD (Lk I.sz hDs) hnp hv hlen h64 turn fun s' K=>h _ s' (.more .refl hkS) (by rw[ai (Ne.symm hkD)];exact hD) K
end
noncomputable def zC(q:Str)(params:Arguments)(body:Expr)(scope:Scope)(cl:List (Str×Addr)):TE:=fun _ H Q=>∀ f c' pm ctv H1,eG H H1->iE H1 f q params body scope cl c' pm ctv->Q (.ref f) H1
theorem CS{c P:Addr}(hx:x∈dE)(ht:PySem.W.tabIn X.K x=some (c,P))(hcode:X.env.code=.ref c)(hq:X.env.qual=x++".<locals>."){pos:Pos}
  (hdef:defaultsOf params X.env=([],[])) (hcl:closureFor scope X.env=pure cl):PE X (.Lambda params body scope pos) (zC ((x++".<locals>.")++"<lambda>") params body scope cl):=fun pins s σ H Q I h =>
 wC I hx ht hcode hq hdef hcl fun f c' pm ctv H1 s1 g J l=>⟨.ref f,H1,J,rfl,h f c' pm ctv H1 g l⟩
section
variable {X:Cx} {pins:List (Addr×Obj)} {σ:St} {H:Hp} {s:Shared} {E:Value->Shared->Prop}
noncomputable def wg(X:Cx)(A:Around)(s:Shared)(l:Addr)(xs:List V):Prop:=∀(Q:List Value->Shared->Prop) (E:Value->Shared->Prop),(∀ h0 tk us,(∀ b o,s.heap.get? b=some o->h0.get? b=some o)->s.heap.objs.size<=h0.objs.size->Vals xs us->Q us {s with heap:=h0,toks:=tk})->wpAny (model X.prog X.w) A (collect (.ref l)) Q E s
theorem tO{A:Around}{l:Addr}{Q:VK}(I:Inv X pins σ H s)(hcol:wg X A.in1 s l xs)(hlen:kz.length=xs.length)(h64:xs.length<64)
  (turn:∀(i:Nat) (v:V) (u:Value) (k:Int),xs[i]?=some v->RelV v u->kz[i]?=some k->∀ pins' H' s',eG H H'->Inv X pins' σ H' s'->wpAny (model X.prog X.w) A.in1.in1 (call (.ref f) [u]) (fun r s2=>(∃ t,r=.int k t)/\Inv X pins' σ H' s2) (fun _ _=>False) s')
  (h:∀ H' D,eG H H'->H' D=none->Q (.ref D) (upd H' D (.lst (iC kz xs)))) :
  wpAny (model X.prog X.w) A (call (.builtin "sorted") [.ref l] [(Str.ofString "key",.ref f)]) (EP X pins σ Q) E s:=by
 refine call_function_entry_kw kind_sorted plain_sorted entry_sorted (ksk_s1 _ _) ?_;unfold Builtin.«sorted»;refine KU (m:=checkCount "sorted" 1 1 _) (Lh (KU (hcol _ _ fun h0 tk us k0 hz hv=>?_)));have ul:us.length=xs.length:=hv.length.symm;refine KU (N8 ?_ (by rw[ul,M4];lia))
 have hoL:(h0.push (seqObj "list" us.toArray 0)).get? h0.objs.size=some (seqObj "list" us.toArray 0):=Lq _ rfl;refine KU (LM (wpAny_call_entry_kw slot_list_sort ⟨_,hoL,rfl⟩ entry_list_sort ?srt (ksk_l1 _ _)))
 case srt =>
  show wpAny _ A.in1.in1 (Builtin.«list.sort» ⟨[.ref h0.objs.size],[(Str.ofString "key",.ref f)]⟩) _ _ _;rw[ksk_t1];refine Az (s:={s with toks:=tk}) (h0:=h0.push (seqObj "list" us.toArray 0)) (I.tok tk) (fun b o e=>La _ (k0 b o e)) hz hoL hv (by rw[ul];exact hlen) (by rw[ul];exact h64)
   (fun i u k hu hk pins' H' s' g J=>?_) fun H' s' g n J=>⟨_,rfl,?_⟩
  ·have hi:i<xs.length:=by rw[<- ul];exact (Ll.mp hu).1
   obtain⟨u',hu',rv⟩:=hv.get (KW hi);rw[hu] at hu';cases hu';exact turn i _ u k (KW hi) rv hk pins' H' s' g J
  ·exact Lh ⟨_,rfl,.ref h0.objs.size,_,J,rfl,h H' _ g n⟩
noncomputable def yP(src:Hp->Addr->List V->Prop)(pre:V->Int->Hp->St->Prop)(fr:St->St)(t:TA):TE:=fun σ H Q=>t σ H fun vs H1=>∃ l xs kz,vs=[.ref l]/\src H1 l xs/\kz.length=xs.length/\xs.length<64 /\
 (∀(i:Nat) (v:V) (k:Int),xs[i]?=some v->kz[i]?=some k->∀ H',eG H1 H'->pre v k H' (fr σ))/\∀ H2 D,eG H1 H2->H2 D=none->Q (.ref D) (upd H2 D (.lst (iC kz xs)))
theorem v9{t:TA}{p pos:Pos}{src:Hp->Addr->List V->Prop}{pre:V->Int->Hp->St->Prop}{fr:St->St}
  (hg:Gl X "sorted") (hm:X.mg "sorted"=none) (ha:PA X [e] t) (h1:cL e=true) (hr:bG (k+3) X.A) (hL:PE X (.Lambda params body scope lpos) (zC q params body scope cl))
  (hsrc:∀ pins σ H s H1 l xs A,Inv X pins σ H s->src H1 l xs->eG H1 H->A.handled=none->xs.length<64->wg X A s l xs)
  (hk:scope.kind=.function) (hco:scope.isCoroutine=false) (hgen:scope.isGenerator=false) (hcell:∀ y∈scope.names,y.2≠.cell) (hloc:scope.names.lookup x=some .local)
  (hbind:∀ c' pm ctv u,bindArgs (PySem.W.kla_fn "<lambda>" q params body scope cl pm (.ref c') ctv) ⟨[u],[]⟩=pure [(x,u)])
  (hlen:∀ σ:St,(fr σ).length=N.length) (hcl:∀ y c,cl.lookup y=some c->X.env.cells.lookup y=some c) (hhas:∀ y,(scope.names.lookup y=some .cell\/scope.names.lookup y=some .free)->∃ c,cl.lookup y=some c)
  (hf:∀ pins σ H s,Inv X pins σ H s->∀(i:Nat) (y:Str) (v:V),N[i]?=some y->(fr σ)[i]?=some (some v)->scope.names.lookup y=some .free/\∃ c u,cl.lookup y=some c/\s.heap.IsCell c (some u)/\RelV v u)
  (hbody:∀ A f c' s' H' σf v i,pre v i H' σf->∃ t,PE (sP X A (x::N) q scope f (.ref c') cl s' H') body t/\t (some v::σf) H' (fun w H2=>w=.int i/\H2=H')) :
  PE X (.Call (.Name "sorted" p) [e] [⟨some "key",.Lambda params body scope lpos,kpos⟩] pos) (yP src pre fr t):=by
 intro pins s σ H Q I h;refine Nj (eM I hg hm (u:=.builtin "sorted") (by decide +kernel) ?_ (by decide) (by decide))
 have hkw:PK X [⟨some "key",.Lambda params body scope lpos,kpos⟩] (hU (zC q params body scope cl) ot):=zA hL Ec;refine callWith_kw ?_ (by rw[cf h1];rfl) (by rw[cf h1];rfl) rfl rfl
 refine bu (ha pos pins s σ H _ I h) fun us s1 ⟨vs,H1,I1,r1,q1⟩=>?_;obtain⟨l,xs,kz,rfl,hs,hle,h64,hpre,qq⟩:=q1;obtain⟨u,rfl,ru⟩:=vals1 r1;cases ru;refine bu (hkw pos pins s1 σ H1 (fun zs H2=>∃ f c' pm ctv,zs=[.ref f]/\eG H1 H2/\iE H2 f ((q)) params body scope cl c' pm ctv) I1 fun f c' pm ctv H2 g lm=>⟨f,c',pm,ctv,rfl,g,lm⟩) fun ws s2 ⟨zs,H2,I2,rz,f,c',pm,ctv,e1,g,lm⟩=>?_;subst e1;obtain⟨wv,rfl,rw1⟩:=vals1 rz;cases rw1;have hr1:bG (k+2) X.A.in1:=hr.in1;refine tO I2 (hsrc _ _ _ _ _ _ _ _ I2 hs g hr1.hd h64) hle h64 (fun i v u j hv rv hj pins' H' s' g' J=>?_) fun H' D g' n=>qq H' D (g.trans g') n;obtain⟨ho,gJ⟩:=(lm.up fun b o u e=>g'.same b _ e).get J;obtain⟨tb,hb,hq⟩:=hbody X.A.in1.in1 f c' s' H' (fr σ) v j (hpre i v j hv hj H' (g.trans g'));refine Me (w6 J hr1.in1 J.ok.frames hk hco hgen hcell rv hloc ho gJ (hbind c' pm ctv) (hlen σ) hcl hhas (hf _ _ _ _ J) hb hq) (fun r s4 hr4=>?_) fun _ _ z=>z;obtain⟨w,H4,J4,rw4,e4,e5⟩:=hr4;subst e4 e5;exact⟨rw4,J4⟩
end
theorem mF{a:α}{l:List (Str×α)}:List.lookup x ((x,a)::l)=some a:=by rw[Mq,MX]
theorem iV{y:Str}{a:α}{l:List (Str×α)}(h:y≠x):List.lookup y ((x,a)::l)=List.lookup y l:=by rw[Mq,Mc.mpr h]
abbrev nT(n:Nat):List V:=(List.range n).map fun k=>V.int ((k:Nat):Int)
section
variable {X:Cx} {pins:List (Addr×Obj)} {σ:St} {H:Hp} {s:Shared}
theorem oU{A:Around}{r:Addr}(hh:A.handled=none)(I:Inv X pins σ H s)(hr:H r=some (.dI 0 n))(h64:n<64):wg X A s r (nT n):=fun Q E h=>by
 obtain⟨t,u,v,e⟩:=I.aJ r _ hr;have hn2:Builtin.Range.rangeSize 0 (n:Int) 1=n:=by rw[PQ];split<;>lia
 have hsm:Builtin.Range.small 0 (n:Int) 1=true:=small_one (by lia) (by lia) (by lia) (by lia)
 have oS:(s.heap.push {cls:=.type "list",data:=.seq ([]:List Value).toArray}).get? s.heap.objs.size=some {cls:=.type "list",data:=.seq #[] 0}:=Lq _ rfl;unfold collect;refine KU (wpAny_runValue (Nm PySem.F.entry_proto_collect ?_));rw[N3 PySem.F.plain_proto_collect _];refine KU (m:=newList []) (Mn (Lh ⟨PV PySem.F.plain_list_iadd _,Nm PySem.F.entry_list_iadd ?_⟩));rw[N3 PySem.F.plain_list_iadd _];show wpAny _ A.in1 (Builtin.List.listExtendWith _ _ _) _ _ _;refine wpAny_extend_range (R:=fun r s'=>match r with|.ok (.ret v)=>wpAny (model X.prog X.w) A (match v with|.ref a=>do (match (<- load a).data with|.seq xs _=>pure xs.toList|_=>unsupported "internal:collect")|_=>unsupported "internal:collect") Q E s'|.ok _=>_|.error e=>E e s') (s:={s with heap:=s.heap.push {cls:=.type "list",data:=.seq ([]:List Value).toArray}}) hh (La _ e) hsm hn2 (by lia) s.heap.objs.size (.ref s.heap.objs.size) 0 oS fun h' tk acc c' hk hS hI=>?_
 refine KU (m:=load s.heap.objs.size) (wpAny_load hS (Lh (h h' tk acc.toList (fun b o e=>hk b o (Ly (Lm e)) (La _ e)) (MI (Lm hS)) ?_)));have hv:=Y.ee (lo:=0) n acc.toList 0 (by simpa using hI.1) fun j v e=>by
  obtain⟨t,e2⟩:=hI.2 j v (by simpa using e)
  exact⟨t,by rw[e2];simp⟩
 show Vals ((List.range n).map fun k=>V.int ((k:Nat):Int)) acc.toList;rw[MS]
 simpa using hv
end
noncomputable def KI(j:Nat)(σ:St):St:=[(σ[j]?).getD none]
noncomputable def wX(K:Qf)(j:Nat)(t:TA):TE:=yP (fun H l xs=>∃ n:Nat,H l=some (.dI 0 n)/\xs=nT n) (fun v k H' σf=>∃ i q ls,v=.int i/\σf=[some (.ref q)]/\bL K H' q ls/\aY ls i=some (.int k)) (KI j) t
theorem xr{t:TA}{p pos p1 p2 p3:Pos}{y:Str}{c:Addr}(hg:Gl X "sorted")(hm:X.mg "sorted"=none)(ha:PA X [e] t)(h1:cL e=true)(hr:bG (k+3) X.A)
  (hL:PE X (.Lambda params (.Subscript (.Name y p1) (.Name x p2) p3) scope lpos) (zC q params (.Subscript (.Name y p1) (.Name x p2) p3) scope [(y,c)]))
  (hsc:scope={kind:=.function,names:=[(x,.local),(y,.free)],isGenerator:=false,isCoroutine:=false,more:=[]}) (hxy:y≠x) (hx1:(x ==("__debug__":Str))=false) (hx2:(x ==("__classdict__":Str))=false) (hy1:(y ==("__debug__":Str))=false) (hy2:(y ==("__classdict__":Str))=false)
  (hj:X.N[j]?=some y) (hyc:X.env.scope.names.lookup y=some .cell) (hyl:X.env.cells.lookup y=some c)
  (hbind:∀ c' pm ctv u,bindArgs (PySem.W.kla_fn "<lambda>" q params (.Subscript (.Name y p1) (.Name x p2) p3) scope [(y,c)] pm (.ref c') ctv) ⟨[u],[]⟩=pure [(x,u)]) :
  PE X (.Call (.Name "sorted" p) [e] [⟨some "key",.Lambda params (.Subscript (.Name y p1) (.Name x p2) p3) scope lpos,kpos⟩] pos) (wX X.K j t):=by
 subst hsc;have lx:List.lookup x [(x,NameKind.local),(y,NameKind.free)]=some .local:=mF;have ly:List.lookup y [(x,NameKind.local),(y,NameKind.free)]=some .free:=by rw[iV hxy,mF]
 have lz:∀ z,z≠x->z≠y->List.lookup z [(x,NameKind.local),(y,NameKind.free)]=none:=fun z h1 h2=>by rw[iV h1,iV h2];rfl
 have lc:List.lookup y [(y,c)]=some c:=mF;have lcz:∀ z d,List.lookup z [(y,c)]=some d->z=y/\d=c:=fun z d e=>by
  by_cases h:z=y
  ·rw[h,lc] at e;cases e;exact⟨h,rfl⟩
  ·rw[iV h] at e;cases e
 refine v9 (N:=[y]) hg hm ha h1 hr hL (fun pins σ H s H1 l xs A I hs g hh h64=>?_) rfl rfl rfl (fun z hz=>?_) lx hbind (fun _=>rfl) (fun z d e=>?_) (fun z hz=>?_) (fun pins σ H s I i z v e1 e2=>?_) fun A f c' s' H' σf v i hp=>?_
 ·obtain⟨n,hs,rfl⟩:=hs;rw[Lb,Lz] at h64;exact oU hh I (g.same _ _ hs) h64
 ·rcases Le.mp hz with rfl|hz
  ·nofun
  ·rw[Lo.mp hz];nofun
 ·obtain⟨rfl,rfl⟩:=lcz z d e;exact hyl
 ·by_cases z1:z=x
  ·have hz':List.lookup z [(x,NameKind.local),(y,NameKind.free)]=some .cell\/List.lookup z [(x,NameKind.local),(y,NameKind.free)]=some .free:=hz;rw[z1,lx] at hz';rcases hz' with h|h<;>cases h
  ·by_cases z2:z=y
   ·rw[z2];exact⟨c,lc⟩
   ·have hz':List.lookup z [(x,NameKind.local),(y,NameKind.free)]=some .cell\/List.lookup z [(x,NameKind.local),(y,NameKind.free)]=some .free:=hz;rw[lz z z1 z2] at hz';rcases hz' with h|h<;>cases h
 ·cases i with
  |succ i=>cases e1
  |zero =>
   have e1':some y=some z:=e1;cases e1';have e2':some ((σ[j]?).getD none)=some (some v):=e2;have e3:σ[j]?=some (some v):=by
    cases hσ:σ[j]? with
    |none=>rw[hσ] at e2';cases e2'
    |some o=>rw[hσ] at e2';exact e2'
   obtain⟨m,_,hl⟩:=I.loc;obtain⟨u,rv,lk⟩:=hl j y v hj e3 (.inr (.inl hyc));refine⟨ly,c,u,lc,?_,rv⟩;rcases lk with ⟨z,_⟩|⟨_,d,z1,z2⟩
   ·have z':X.env.scope.names.lookup y=some .local:=z;rw[hyc] at z';cases z'
   ·rw[hyl] at z1;cases z1;exact z2
 ·obtain⟨ix,a,ls,rfl,rfl,hq,ha'⟩:=hp;refine⟨_,BX xT (pv 1 rfl (.inr (.inr ly)) hy1 hy2) (pv 0 rfl (.inl lx) hx1 hx2) (Z.Ks rfl),?_⟩;exact⟨_,rfl,_,rfl,a,ls,ix,.int i,rfl,rfl,hq,ha',rfl,rfl⟩
theorem Ax{β:Type}{g:α->β}{ks:List Int}{l:List α}:iC ks (l.map g)=(iC ks l).map g:=by
 have p:∀ l:List α,Paired (fun a b=>b=g a) l (l.map g):=fun l=>by
  induction l with
  |nil=>exact .nil
  |cons a l ih=>exact .cons rfl ih
 have q:∀{l:List α} {m:List β},Paired (fun a b=>b=g a) l m->m=l.map g:=fun {l m} h=>by
  induction h with
  |nil=>rfl
  |cons r _ ih=>rw[r,ih];rfl
 exact q (tq (p l))
namespace Y
noncomputable def j4(j:Nat)(us:UA):UE:=fun μ Q=>us μ fun rs μ1=>match rs,μ1[j]? with
 |[.tr (.dI lo hi)],some (.tr (.tup ts))=>∃ ns:List Int,ts=ns.map T.int/\lo=0/\hi=ns.length/\ns.length<64/\Q (.fr (.lst ((iC ns (List.range ns.length)).map fun k=>T.int ((k:Nat):Int)))) μ1
 |_,_=>False
theorem wB{t:TA}{us:UA}(ha:RA K t us):RE K (wX K j t) (j4 j us):=fun F ad B σ H μ Q Qt hK l q k =>
 ha F ad B σ H μ _ _ hK l q fun vs H' rs μ' l1 ps f k1 q1=>by
  split at q1
  ·rename_i lo hi ts hμ;obtain⟨ns,rfl,rfl,rfl,h64,q⟩:=q1;obtain⟨_,_,rfl,p0,pr⟩:=Paired.aO ps;obtain rfl:=Paired.eV pr;have p0':=p0;obtain⟨_,rfl,nb,hp⟩:=Rep.CM p0';obtain⟨w,hw,rw1⟩:=l1.slot j _ hμ;obtain⟨_,_,rfl,nq,hq,rr⟩:=Rep.tupI rw1;have ev:=dm rr;subst ev;have le:(nT ns.length).length=ns.length:=by rw[Lb,Lz]
   refine⟨_,nT ns.length,ns,rfl,⟨ns.length,hp,rfl⟩,le.symm,by rw[le];exact h64,fun i v i2 e1 e2 H2 g=>?_,fun H2 D g n=>?_⟩
   ·have hi:i<ns.length:=(Ll.mp e2).1;have e3:(nT ns.length)[i]?=some (.int (i:Int)):=by simp[hi]
    rw[e3] at e1;cases e1;refine⟨_,_,_,rfl,?_,by rw[<- hK];exact bL.of (g.same _ _ hq),?_⟩
    ·show [(σ[j]?).getD none]=_;rw[hw];rfl
    ·exact aW (by rw[Lr,e2];rfl)
   ·refine k _ _ _ _ (Vr.i5 (l1.same g.same) (?_:aj F.K _ B _ ((iC ns (List.range ns.length)).map fun k=>T.int ((k:Nat):Int))) n) (f.trans fun b o e z=>⟨bB.new n b o (g.same b o e),fun y=>?_⟩) k1 q
    ·rw[Ax];exact (iC ns (List.range ns.length)).rec .nil fun a l ih=>.cons (.int _) ih
    ·rcases y with y|y
     ·subst y;rw[g.same b o e] at n;cases n
     ·exact z y
  ·exact q1.elim
theorem Hi{us:UA}{p pos p1 p2 p3:Pos}{y z:Str}{c Pt d:Addr}(K:Qf)(hK:X.K=K)(hx:z∈dE)(ht:PySem.W.tabIn K z=some (c,Pt))(hcode:X.env.code=.ref c)(hq:X.env.qual=z++".<locals>.")(hdef:defaultsOf params X.env=([],[]))(hcl:closureFor scope X.env=pure [(y,d)])
  (hg:Gl X "sorted") (hm:X.mg "sorted"=none) (ha:YA X [e] us) (hr:bG (k+3) X.A)
  (hsc:scope={kind:=.function,names:=[(x,.local),(y,.free)],isGenerator:=false,isCoroutine:=false,more:=[]}) (hxy:y≠x) (hx1:(x ==("__debug__":Str))=false) (hx2:(x ==("__classdict__":Str))=false) (hy1:(y ==("__debug__":Str))=false) (hy2:(y ==("__classdict__":Str))=false)
  (hj:X.N[j]?=some y) (hyc:X.env.scope.names.lookup y=some .cell) (hyl:X.env.cells.lookup y=some d)
  (hbind:∀ c' pm ctv u,bindArgs (PySem.W.kla_fn "<lambda>" ((z++".<locals>.")++"<lambda>") params (.Subscript (.Name y p1) (.Name x p2) p3) scope [(y,d)] pm (.ref c') ctv) ⟨[u],[]⟩=pure [(x,u)]) (h1:autoParam (cL e=true) ℜ0) :
  YE X (.Call (.Name "sorted" p) [e] [⟨some "key",.Lambda params (.Subscript (.Name y p1) (.Name x p2) p3) scope lpos,kpos⟩] pos) (j4 j us):=by
 subst hK;obtain⟨t,q,rr⟩:=ha;exact⟨_,⟨xr hg hm q.h h1 hr (CS hx ht hcode hq hdef hcl) hsc hxy hx1 hx2 hy1 hy2 hj hyc hyl hbind⟩,wB rr⟩
end Y
structure rE (K:Qf) (mg:Str->Option Value) (x:Str):Prop where
 ex:∃ c P,PySem.W.tabIn K x=some (c,P)/\∀ f cdv,EB K mg x f cdv->cdv=.ref c
theorem m_{c P:Addr}{oc oc':Value}{od od':Option Addr}{sl sl':Array (Option Value)}{fd:FuncData}{vs:Array Value}(a:PySem.W.nsIn K mainGlobals x=some (some (.ref f)))(l:K.lookup f=some ⟨oc,od,.func fd,sl⟩)(hc:fd.code=.ref c)
  (lc:K.lookup c=some ⟨oc',od',.fields vs,sl'⟩) (hv:vs[11]?=some (.ref P)):PySem.W.tabIn K x=some (c,P):=by
 unfold PySem.W.tabIn;rw[a];dsimp only;rw[l];dsimp only;rw[hc];dsimp only;rw[lc];dsimp only;rw[hv]
theorem jn(a:PySem.W.nsIn K mainGlobals x=some none):PySem.W.tabIn K x=none:=by
 unfold PySem.W.tabIn;rw[a]
theorem rE.mk'{mg:Str->Option Value}{c P:Addr}(X:K.In h)(G:h.Ns mainGlobals mg)(ht:PySem.W.tabIn K x=some (c,P)):rE K mg x:=
 ⟨c,P,ht,fun f cdv ⟨m,o,fd,lk,hd,e⟩=>by rw[<- e];exact PySem.W.law_code X G ht m (X _ _ lk) hd⟩
theorem hX.of{q:Program}{o1 o2 o3:Option (Addr×Addr)}(nt:PySem.W.noTabs K=true)(t1:PySem.W.tabIn K "by_worth"=o1)(t2:PySem.W.tabIn K "by_weight"=o2)(t3:PySem.W.tabIn K "code_of"=o3)(nd:((o1.toList++(o2.toList++o3.toList)).map (·.2)).Nodup)
  (f1:o1=none\/((recsOf q).find? (fun e=>e.name ==("by_worth":Str))).isSome=true) (f2:o2=none\/((recsOf q).find? (fun e=>e.name ==("by_weight":Str))).isSome=true) (f3:o3=none\/((recsOf q).find? (fun e=>e.name ==("code_of":Str))).isSome=true):hX q K:=by
 refine⟨nt,?_,fun x hx=>?_⟩
 ·have e:(bz K).map (·.2.1)=(o1.toList++(o2.toList++o3.toList)).map (·.2):=by
   unfold bz dE
   cases o1<;>cases o2<;>cases o3<;>simp[List.filterMap,t1,t2,t3]
  rw[e];exact nd
 ·unfold dE at hx;rcases Le.mp hx with rfl|hx
  ·rw[t1];exact f1
  ·rcases Le.mp hx with rfl|hx
   ·rw[t2];exact f2
   ·rw[Lo.mp hx,t3];exact f3
namespace Y
noncomputable def t5:V->List V->Hp->VK->Prop:=fun x vs H Q=>∃ z y,x=.str z/\vs=[.str y]/\z.length<=sizeLine/\Q (.str (Txt.rstripChars z y)) H
theorem uS:vt X "str.rstrip" t5:=by
 intro pins s σ H x xs v us Q I rx rs h;obtain⟨z,y,rfl,rfl,hz,q⟩:=h;obtain⟨t,rfl⟩:=rx;obtain⟨u,rfl,k,rfl⟩:=vals1 rs;exact SC.rstripChars (fun t' k=>⟨.str _,H,I.tok _,⟨_,rfl⟩,q⟩) hz
noncomputable def mB:Cc:=fun z rs μ Q=>match rs with
 |[.tr (.str y)]=>z.length<=1000/\Q (.tr (.str (Txt.rstripChars z y))) μ
 |_=>False
theorem vi:Hz K t5 mB:=by
 intro F ad B σ H μ Q Qt z xs rs hF l ps q k;unfold mB at q
 split at q
 ·obtain⟨_,_,rfl,h,ps⟩:=Paired.aO ps;obtain rfl:=Paired.eV ps
  cases aL h
  exact⟨z,_,rfl,rfl,Af (Lk q.1 (by decide)),k _ H _ μ (Vr.flat l (.str _)) Fr.refl (Kp.refl μ) q.2⟩
 ·exact q.elim
noncomputable def xK:V->List V->Hp->VK->Prop:=fun x vs H Q=>∃ z i y,x=.str z/\vs=[.int i,.str y]/\0<=i/\i<1000/\y.length=1/\Q (.str (Txt.ljustF z i (y.cps.getD 0 0))) H
theorem xH:vt X "str.ljust" xK:=by
 intro pins s σ H x xs v us Q I rx rs h;obtain⟨z,i,y,rfl,rfl,h0,h1,hy,q⟩:=h;obtain⟨t,rfl⟩:=rx;obtain⟨u1,u2,rfl,⟨t1,rfl⟩,⟨t2,rfl⟩⟩:=vals2 rs;exact ljust_fill (padOk_of (by lia) (by lia)) hy fun t' k=>⟨.str _,H,I.tok _,⟨_,rfl⟩,q⟩
noncomputable def qA:Cc:=fun z rs μ Q=>match rs with
 |[.tr (.int i),.tr (.str y)]=>0<=i/\i<1000/\y.length=1/\Q (.tr (.str (Txt.ljustF z i (y.cps.getD 0 0)))) μ
 |_=>False
theorem wH:Hz K xK qA:=by
 intro F ad B σ H μ Q Qt z xs rs hF l ps q k;unfold qA at q
 split at q
 ·obtain⟨_,_,rfl,h,ps⟩:=Paired.aO ps;obtain⟨_,_,rfl,h2,ps⟩:=Paired.aO ps;obtain rfl:=Paired.eV ps
  cases aL h
  cases aL h2
  exact⟨z,_,_,rfl,rfl,q.1,q.2.1,q.2.2.1,k _ H _ μ (Vr.flat l (.str _)) Fr.refl (Kp.refl μ) q.2.2.2⟩
 ·exact q.elim
end Y
theorem mX(x y:Str):(Txt.rstripChars x y).cps.toList.reverse=x.cps.toList.reverse.dropWhile y.cps.contains:=by
 have key:∀(p:Nat->Bool) (l:List Nat),(l.take (l.length-(l.reverse.takeWhile p).length)).reverse=l.reverse.dropWhile p:=fun p l=>by
  have h:(l.reverse.takeWhile p).length<=l.length:=by simpa using (List.takeWhile_sublist p (l:=l.reverse)).length_le
  rw[List.reverse_take,<- sZ];congr 1;lia
 have hl:x.length=x.cps.toList.length:=by rw[LJ];rfl
 rw[<- key];unfold Txt.rstripChars Txt.stripBy;split
 ·rename_i h;unfold stripSame at h;rw[LQ] at h;have h2:x.length-(x.cps.toList.reverse.takeWhile y.cps.contains).length=x.length:=by simpa[stripLo,stripHi] using h.2
  rw[<- hl,h2,hl,Od]
 ·have e:∀(a:Array Nat) (j:Nat),(a.extract 0 j).toList=a.toList.take j:=fun a j=>by simp
  have e2:=e x.cps (x.length-(x.cps.toList.reverse.takeWhile y.cps.contains).length);rw[hl] at e2;exact L0 List.reverse e2
namespace A
theorem j4(j:Nat)(us:UA)(μ:Mu)(Q:R->Mu->Prop):Y.j4 j us μ Q=us μ fun rs μ1=>match rs,μ1[j]? with
 |[.tr (.dI lo hi)],some (.tr (.tup ts))=>∃ ns:List Int,ts=ns.map T.int/\lo=0/\hi=ns.length/\ns.length<64/\Q (.fr (.lst ((iC ns (List.range ns.length)).map fun k=>T.int ((k:Nat):Int)))) μ1
 |_,_=>False:=rfl
theorem xW(z y:Str)(μ:Mu)(Q:R->Mu->Prop):Y.mB z [.tr (.str y)] μ Q=(z.length<=1000/\Q (.tr (.str (Txt.rstripChars z y))) μ):=rfl
theorem AZ(z:Str)(i:Int)(y:Str)(μ:Mu)(Q:R->Mu->Prop):Y.qA z [.tr (.int i),.tr (.str y)] μ Q=(0<=i/\i<1000/\y.length=1/\Q (.tr (.str (Txt.ljustF z i (y.cps.getD 0 0)))) μ):=rfl
end A
namespace Y
noncomputable def BY:R2:=fun x y H Q=>∃(c:Nat) (k:Int),x=.str ⟨#[c]⟩/\y=.int k/\0<=k/\k<=1000/\Q (.str ⟨(List.replicate k.toNat c).toArray⟩) H
theorem zO:cE X (binaryOp .Mult) BY:=by
 intro pins s σ H x y v u Q I rx ry h;obtain⟨c,k,rfl,rfl,h0,h1,q⟩:=h;obtain⟨t,rfl⟩:=rx;obtain⟨t2,rfl⟩:=ry;have e:Txt.mul ⟨#[c]⟩ k=⟨(List.replicate k.toNat c).toArray⟩:=by
  have:=mul_one_list c k
  cases hz:Txt.mul ⟨#[c]⟩ k with
  |mk a=>rw[hz] at this;rw[<- this,N7]
 have ok:MulOk ⟨#[c]⟩ k:=by
  refine⟨by simp only[Bool.or_eq_false_iff,decide_eq_false_iff_not];lia,fun z _=>?_,fun z _=>?_⟩
  ·have hl:((⟨#[c]⟩:Str).length:Int)=1:=rfl;rw[hl];have:1<=(2^63-1) / k:=by
    rw[Int.le_ediv_iff_mul_le (by lia)];lia
   lia
  ·have hl:(⟨#[c]⟩:Str).length=1:=rfl;rw[hl,Nat.one_mul];exact Lu (OU.mpr (Lk (show k.toNat<=1000 by lia) (by decide)))
 exact SB.mul ok fun t' j=>⟨.str _,H,I.tok _,⟨t',by rw[e]⟩,q⟩
noncomputable def xO:U2:=fun r1 r2 μ Q=>match cont μ r1,cont μ r2 with
 |some (.str z),some (.int k)=>∃ c:Nat,z=⟨#[c]⟩/\0<=k/\k<=1000/\Q (.tr (.str ⟨(List.replicate k.toNat c).toArray⟩)) μ
 |_,_=>False
theorem zH:ic K BY xO:=by
 intro F ad B σ H μ Q Qt x y r1 r2 hK l h1 h2 q k;unfold xO at q
 split at q
 ·rename_i z j e1 e2;obtain⟨c,rfl,g0,g1,q⟩:=q;have v1:=Hv.vw l h1 e1;have v2:=Hv.vw l h2 e2;obtain rfl:=Vw.gf v1;obtain rfl:=Vw.bZ v2;exact⟨c,j,rfl,rfl,g0,g1,k _ H _ μ (Vr.flat l (.str _)) Fr.refl (Kp.refl μ) q⟩
 ·exact q.elim
end Y
namespace A
theorem Ef(z:Str)(k:Int)(μ:Mu)(Q:R->Mu->Prop):Y.xO (.tr (.str z)) (.tr (.int k)) μ Q=(∃ c:Nat,z=⟨#[c]⟩/\0<=k/\k<=1000/\Q (.tr (.str ⟨(List.replicate k.toNat c).toArray⟩)) μ):=rfl
end A
namespace Y
noncomputable def yv(K:Qf):List V->Hp->VK->Prop:=fun xs H Q=>BU K xs H Q\/∃ p ns,xs=[.ref p]/\bH K H p (ns.map V.int)/\ns.length<64/\∀ ns':List Int,ns'.Perm ns->ns'.Pairwise (·<=·)->∀ l,H l=none->Q (.ref l) (upd H l (.lst (ns'.map V.int)))
theorem o_(K:Qf)(hK:X.K=K):aQ X (.builtin "sorted") (yv K):=by
 refine (uF K hK).or ?_;subst hK;intro pins s σ H xs us Q I r h;obtain⟨p,ns,rfl,hq,h64,q⟩:=h;obtain⟨u,rfl,ru⟩:=vals1 r;cases ru;obtain⟨its,rv,pl,hz⟩:=I.list hq;have hi:=intsAre_of rv;refine sorted_ints pl.isList hi (by rw[i_ hi];exact h64) fun out ns' a1 a2 a3=>?_
 obtain⟨e,he⟩:=sortedAll_at s.heap its out;refine⟨.ref (s.heap.objs.size+1),_,I.laid (t':=s.toks) (fun b ob q=>sortedAll_old q) (MH _) (show aP X.prog X.w _ _ _ (.lst (ns'.map V.int)) from⟨?_,out.toList,e,eY a1,by simpa using he⟩),rfl,q ns' a2 a3 _ (I.aJ.fresh (MH _))⟩
 rw[Lb,a2.length_eq];exact Lk (MI h64) (by decide)
noncomputable def yQ:T->Mu->(R->Mu->Prop)->Prop:=fun t μ Q=>match t with
 |.tup xs=>∃ ns:List Int,xs=ns.map T.int/\ns.length<64/\∀ ns':List Int,ns'.Perm ns->ns'.Pairwise (·<=·)->Q (.fr (.lst (ns'.map T.int))) μ
 |.lst xs=>∃ ns:List Int,xs=ns.map T.int/\ns.length<64/\∀ ns':List Int,ns'.Perm ns->ns'.Pairwise (·<=·)->Q (.fr (.lst (ns'.map T.int))) μ
 |_=>False
theorem xX:RC K (yv K) (vq yQ):=iq fun F ad B σ H μ Q Qt x t hK l v1 q k=>by
 subst hK
 cases v1 with
 |tup ha ra =>
  obtain⟨ns,rfl,h64,q⟩:=q;exact .inl ⟨_,ns,rfl,by rw[<- Y.dm ra];exact bL.of ha,h64,fun ns' a2 a3 p hp=>k _ _ _ (Vr.i5 l (dk _) hp) (Fr.more hp) (q ns' a2 a3)⟩
 |lst ha ra =>
  obtain⟨ns,rfl,h64,q⟩:=q;exact .inr ⟨_,ns,rfl,by rw[<- Y.dm ra];exact bH.of ha,h64,fun ns' a2 a3 p hp=>k _ _ _ (Vr.i5 l (dk _) hp) (Fr.more hp) (q ns' a2 a3)⟩
 |_=>exact q.elim
noncomputable def Gf:V->List V->Hp->VK->Prop:=fun x vs H Q=>∃ a:Int,x=.int a/\vs=[]/\Q (.int (Builtin.Int.intBits a:Nat)) H
theorem BO:vt X "int.bit_length" Gf:=by
 intro pins s σ H x xs v us Q I rx rs h;obtain⟨a,rfl,rfl,q⟩:=h;obtain⟨t,rfl⟩:=rx;obtain rfl:=Paired.mM rs;exact call_int_bit_length ⟨.int _,H,I.tok _,⟨_,rfl⟩,q⟩
noncomputable def qU(uo:UE):UE:=fun μ Q=>uo μ fun r μ1=>match r with
 |.tr (.int a)=>Q (.tr (.int (Builtin.Int.intBits a:Nat))) μ1
 |_=>False
theorem bits{uo:UE}{apos pos:Pos}(ho:YE X o uo)(hbase:autoParam (attributeBase o "bit_length" X.env (eval o X.env)=eval o X.env) ℜ0)(hline:autoParam ((apos.endLine == pos.line)=true) ℜ0):YE X (.Call (.Attribute o "bit_length" apos) [] [] pos) (qU uo):=by
 obtain⟨t,q,rr⟩:=ho;refine⟨_,⟨E4 PySem.F.plainAttrs_int PySem.F.slot_int_bit_length PySem.F.type_int_bit_length BO q.h hbase hline⟩,fun F ad B σ H μ Q Qt hF l q k=>rr F ad B σ H μ _ _ hF l q fun v H1 r1 μ1 v1 f1 k1 q1=>?_⟩
 split at q1
 ·have rp:=v1.2;obtain rfl:=Rep.bZ rp;exact⟨rfl,_,rfl,rfl,k _ H1 _ μ1 (Vr.flat v1.rl (.int _)) f1.d k1 q1⟩
 ·exact q1.elim
end Y
namespace A
theorem qU(uo:UE)(μ:Mu)(Q:R->Mu->Prop):Y.qU uo μ Q=uo μ fun r μ1=>match r with
 |.tr (.int a)=>Q (.tr (.int (Builtin.Int.intBits a:Nat))) μ1
 |_=>False:=rfl
end A
theorem ao{u w:US}{E:Ed}{μ:Mu}(h:∀ N:Mu->Prop,(∀ μ',w E μ'->N μ')->u {E with nx:=N} μ):Y.Bo u w E μ:=h _ fun _ z=>z
noncomputable def ip(h:Heap)(d:Addr)(es:Array DictEntry)(ep:Nat):Prop:=∃ o,h.get? d=some o/\o.ExactDict/\o.data=.dict es ep
section
variable {prog:Program} {w:World} {A:Around} {E:Value->Shared->Prop} {s:Shared}
theorem ip.ty{d:Addr}(x:ip s.heap d es ep):s.TypeIs (.ref d) "dict":=let ⟨o,ho,hc,_⟩:=x;⟨o,ho,hc.1⟩
theorem ip.keep{d:Addr}(x:ip h d es ep)(k:∀ o,h.get? d=some o->h'.get? d=some o):ip h' d es ep:=let ⟨o,ho,r⟩:=x;⟨o,k _ ho,r⟩
theorem ip.lt{d:Addr}(x:ip h d es ep):d<h.objs.size:=let ⟨_,ho,_⟩:=x;Lm ho
theorem As{d:Addr}(low:(d == sysModules)=false)(x:ip s.heap d es ep)
  (q:Q (.ref s.heap.objs.size) {s with heap:=s.heap.push {cls:=.type "dict_keyiterator",data:=.fields #[.ref d,.int 0 0,.int es.size 0,.int ep 0]}}):wpAny (model prog w) A (pyIter (.ref d)) Q E s:=by
 obtain⟨o,ho,hx,hdat⟩:=id x;refine wpAny_pyIter_slot x.ty PySem.F.slot_dict_iter (Mb PySem.F.slot_dict_iter x.ty PySem.F.entry_dict_iter ?_ (PySem.F.args_dict_iter_1 _));unfold Builtin.«dict.__iter__» Builtin.Dict.dictSlotNone;refine KU (KU (wpAny_notOrdered_dict x.ty ?_));show wpAny _ _ (pure (Value.ref d)) _ _ s;refine Lh ?_;show wpAny _ _ (Builtin.Dict.showsAll d >>= _) _ _ s;unfold Builtin.Dict.showsAll;rw[low,Lc Lg];refine KU (Lh (KU (NU ho hdat (KU (Px ho hdat ?_)))));exact KU (Mn (Lh ⟨_,rfl,"dict_keyiterator",_,⟨_,Lq _ rfl,rfl⟩,PySem.F.slot_dict_keyiterator_next.lookup,q⟩))
theorem zG{it d:Addr}{Q:Option Value->Shared->Prop}(hit:s.heap.IsKeyIter it d i es.size ep)(x:ip s.heap d es ep)(hi:i<es.size)
  (q:∀ h',h'.IsKeyIter it d (i+1) es.size ep->Heap.SameBut it s.heap h'->Q (some es[i].key) {s with heap:=h'}):wpAny (model prog w) A (pyNext (.ref it)) Q E s:=by
 obtain⟨o,ho,hc,hd⟩:=id hit;obtain⟨od,hod,hx,hdd⟩:=id x;unfold pyNext;refine KU (Oa (LZ (name:=Str.ofString "__next__") hit.typeIs PySem.F.slot_dict_keyiterator_next (Mb PySem.F.slot_dict_keyiterator_next hit.typeIs PySem.F.entry_dict_keyiterator_next ?_ (PySem.F.args_dict_keyiterator_next_1 _))));refine KU (Lh (KU (KU ?_)))
 first|refine KU (MD hit.typeIs (Lh (KU (OD ho hd ?_))))|refine KU (Na hit.typeIs (Lh (KU (OD ho hd ?_))))
 simp only[show Builtin.Dict_items.ownsTuple "dict_keyiterator"=false by decide,Mp,M7]
 show wpAny _ _ (if (Value.ref d == Value.none)=true then _ else _) _ _ s;rw[Lc (show ¬ ((Value.ref d == Value.none)=true) from Lg)]
 refine KU (Lh (KU (NU hod hdd ?_)));rw[Lc (by simp)]
 refine KU (Lh (KU (Px hod hdd ?_)));rw[Lc (by simp)]
 refine Lh ?_;simp only[show ¬ ((i:Int)<0) by lia,M7,LI,OV hi]
 refine KU ?_
 first|refine KU (MD hit.typeIs (Lh (KU (Oi hit.typeIs ?_))))|refine KU (Na hit.typeIs (Lh (KU (Oi hit.typeIs ?_))))
 show wpAny _ _ (setField (.ref it) 1 (rawInt ((i:Int)+1)) >>= _) _ _ s;refine KU (OB ho hd (by simp) ?_)
 have h2:(s.heap.update it (Obj.mapFields (·.setIfInBounds 1 (rawInt ((i:Int)+1))))).IsKeyIter it d (i+1) es.size ep:=⟨_,Nv _ ho (Obj.isFreed_of_fields (NG hd _)),(Obj.cls_mapFields ..).trans hc,by rw[NG hd];simp[rawInt]⟩
 refine KU (LM (KU (Oi (s:={s with heap:=s.heap.update it (Obj.mapFields (·.setIfInBounds 1 (rawInt ((i:Int)+1))))}) h2.typeIs ?_)))
 show wpAny _ _ (pure es[i].key) _ _ _;exact Lh (Lh ⟨_,rfl,Lh (q _ h2 (Mo ..))⟩)
theorem A9{it d:Addr}{Q:Option Value->Shared->Prop}(hh:A.handled=none)(hit:s.heap.IsKeyIter it d es.size es.size ep)(x:ip s.heap d es ep)
  (q:∀ h',Heap.ExtBut it s.heap h'->Q none {s with heap:=h'}):wpAny (model prog w) A (pyNext (.ref it)) Q E s:=by
 obtain⟨o,ho,hc,hd⟩:=id hit;obtain⟨od,hod,hx,hdd⟩:=id x;unfold pyNext;refine KU (Oa (LZ (name:=Str.ofString "__next__") hit.typeIs PySem.F.slot_dict_keyiterator_next (Mb PySem.F.slot_dict_keyiterator_next hit.typeIs PySem.F.entry_dict_keyiterator_next ?_ (PySem.F.args_dict_keyiterator_next_1 _))));refine KU (Lh (KU (KU ?_)))
 first|refine KU (MD hit.typeIs (Lh (KU (OD ho hd ?_))))|refine KU (Na hit.typeIs (Lh (KU (OD ho hd ?_))))
 simp only[show Builtin.Dict_items.ownsTuple "dict_keyiterator"=false by decide,Mp,M7]
 show wpAny _ _ (if (Value.ref d == Value.none)=true then _ else _) _ _ s;rw[Lc (show ¬ ((Value.ref d == Value.none)=true) from Lg)]
 refine KU (Lh (KU (NU hod hdd ?_)));rw[Lc (by simp)]
 refine KU (Lh (KU (Px hod hdd ?_)));rw[Lc (by simp)]
 refine Lh ?_;simp only[show ¬ ((es.size:Int)<0) by lia,M7,LI,P5 (Lj es.size)]
 refine KU ?_
 first|refine KU (MD hit.typeIs (Lh ?_))|refine KU (Na hit.typeIs (Lh ?_))
 show wpAny _ _ (setField (.ref it) 0 .none >>= _) _ _ s;refine KU (OB ho hd (by simp) ?_)
 show wpAny _ _ (newExc (.type "StopIteration") [] >>= _) _ _ _;refine KU ?_;simp only[newExc,newTuple];refine KU (Mn ?_ (by size_fits))
 refine KU (m:=firstArgMember _ _) (wpAny_of_eq (a:=Value.none) (by first|rfl | (simp only[firstArgMember];rfl)) (Mn ?_ (by size_fits)))
 simp only[raiseNew];refine KU (wpAny_handled ?_);rw[show A.in1.handled=none from hh];refine KU (Lh (wpAny_throw ?_));refine KU (wpAny_isInstance (T:="StopIteration") (b:=true) ⟨_,Lq _ rfl,rfl⟩ isSubtype_stop ?_);exact Lh (q _ (((Mo ..).extBut.push _).push _))
end
theorem wI{A:Around}(hh:A.handled=none)(I d:Addr)(ne:d≠I)(es:Array DictEntry)(ep:Nat):
  Walks prog w A I [I,d] [I] es.size (fun i v=>∃ h:i<es.size,v=es[i].key) (fun i h=>h.IsKeyIter I d i es.size ep/\ip h d es ep) where
 sub:=fun b hb=>by simp at hb;simp[hb]
 frame:=fun _ _ _ st hk=>⟨st.1.at fun o e=>hk I (by simp) o e,st.2.keep fun o e=>hk d (by simp) o e⟩
 item:=fun i s Q E hi st hQ=>zG st.1 st.2 hi fun h' a b=>hQ _ h' s.toks ⟨hi,rfl⟩ ⟨a,st.2.keep fun o e=>b.extBut _ _ ne e⟩ fun c o hc e=>b.extBut c o (fun h=>hc (by simp[h])) e
 done:=fun s Q E st hQ=>A9 hh st.1 st.2 fun h' he=>hQ h' s.toks fun c o hc e=>he c o (fun h=>hc (by simp[h])) e
 self:=fun _ _ _ _ st hQ=>wpAny_pyIter_keyiter st.1 hQ
theorem DX{d:Addr}(low:(d == sysModules)=false):PySem.W.KdlSrc prog w "dict" d d es.size (fun i v=>∃ h:i<es.size,v=es[i].key) (fun h=>ip h d es ep) where
 type:=fun _ x=>x.ty
 there:=fun _ x=>⟨x.lt,x.lt⟩
 keep:=fun _ _ x k=>x.keep fun o e=>k d (.inl rfl) o e
 notList:=by decide
 notTuple:=by decide
 hint:=fun _ _ _ _ x q=>PySem.W.kdl_hint_dict x.ty q
 iter:=fun _ _ hh x=>⟨_,_,(fun _ _ q=>As low x q),wI hh _ d (Ly x.lt) es ep,⟨⟨_,Lq _ rfl,rfl,rfl⟩,x.keep fun _ e=>La _ e⟩⟩
theorem yH{es:List DictEntry}(h:KTD.Rows (xB K) es D):es.length=D.length:=by
 induction h with
 |nil=>rfl
 |cons _ _ _ ih=>simp[ih]
theorem xy{es:List DictEntry}(h:KTD.Rows (xB K) es D):Vals (D.map fun p=>V.str p.1) (es.map fun e=>e.key):=by
 induction h with
 |nil=>exact .nil
 |cons e _ _ ih=>exact .cons ⟨_,e⟩ ih
noncomputable def xA(K:Qf)(D:List (Str×List Str)):List V->Hp->VK->Prop:=fun xs H Q=>∃ d,xs=[.ref d]/\mO K d D/\D.length<=sizeLine/\∀ l,H l=none->Q (.ref l) (upd H l (.lst (D.map fun p=>V.str p.1)))
theorem pP(K:Qf)(hK:X.K=K)(hc:X.calm=true):aQ X (.type "list") (xA K D):=by
 intro pins s σ H xs us Q I r h;subst hK;obtain⟨d,rfl,hd,hz,q⟩:=h;obtain⟨u,rfl,rx⟩:=vals1 r;cases rx;obtain⟨o,es,ep,ho,hx,hdat,hr⟩:=hd.ex;have at0:ip s.heap d es ep:=⟨o,I.ki _ _ ho,hx,hdat⟩;have hl:es.size=D.length:=by rw[<- yH hr,LJ]
 refine PySem.W.kdl_call (DX hd.low) (I.ok.hd hc) at0 (by rw[hl];exact hz) fun h' tk acc c' hk hS hI=>?_
 have hv:Vals (D.map fun p=>V.str p.1) acc.toList:=by
  have e:acc.toList=es.toList.map fun e=>e.key:=by
   refine MP fun j=>?_;rw[LF,Lr,LF]
   cases z:acc[j]? with
   |none =>
    have:acc.size<=j:=Array.getElem?_eq_none_iff.mp z;rw[P5 (by rw[<- hI.1];exact this)];rfl
   |some v =>
    obtain⟨hj,rfl⟩:=hI.2 j v z;rw[OV hj];rfl
  rw[e];exact xy hr
 refine⟨.ref s.heap.objs.size,_,I.laid (t':=tk) hk (Lj _) (show aP X.prog X.w _ h' _ (.lst _) from⟨?_,acc.toList,c',hv,by simpa using hS⟩),rfl,q _ (I.aJ.fresh (Lj _))⟩
 rw[Lb];exact hz
namespace Y
noncomputable def t6(uo ue:UE):UE:=fun μ Q=>uo μ fun ro μ1=>match ro with
 |.fr (.lst ts)=>ue μ1 fun r μ2=>(match r with
  |.tr (.str k)=>∃(ws:List Str) (i:Nat),ts=ws.map T.str/\ws[i]?=some k/\(∀ m,m<i->ws[m]?≠some k)/\Q (.tr (.int (i:Nat))) μ2
  |_=>False)
 |_=>False
theorem Jh{uo ue:UE}{apos pos:Pos}(K:Qf)(hK:X.K=K)(ho:YE X o uo)(he:YE X e ue)(h1:autoParam (cL e=true) ℜ0)
  (hbase:autoParam (attributeBase o "index" X.env (eval o X.env)=eval o X.env) ℜ0) (hline:autoParam ((apos.endLine == pos.line)=true) ℜ0):YE X (.Call (.Attribute o "index" apos) [e] [] pos) (t6 uo ue):=by
 obtain⟨t,q,r⟩:=ho;obtain⟨t',q',r'⟩:=he;refine⟨_,Z.bm K hK PySem.F.plainAttrs_list PySem.F.slot_list_index PySem.F.type_list_index zE q (Z.cons q' Z.nil (h:=h1)) hbase hline (by simp[h1]) (show 1<30 by decide),fun F ad B σ H μ Q Qt hF l q k=>r F ad B σ H μ _ _ hF l q fun v H1 r1 μ1 v1 f1 k1 q1=>?_⟩
 split at q1
 ·rename_i ts;obtain⟨l1,a,rfl,nb,n0,lm,bx⟩:=v1;rcases bx.is with ⟨ts',vs,e1,hl,rv⟩|⟨_,_,_,e1,_⟩
  case inr=>cases e1
  cases e1;refine⟨.inl ⟨rfl,_,bH.of hl⟩,r' F ad B σ H1 μ1 _ _ hF l1 q1 fun v2 H2 r2 μ2 v2r f2 k2 q2=>?_⟩
  split at q2
  ·rename_i z;obtain⟨l2,rp⟩:=v2r;obtain rfl:=Rep.gf rp;obtain⟨ws,i,rfl,h2,h3,q3⟩:=q2;rw[lq rv] at hl;exact⟨a,ws,z,i,rfl,(f2.d a _ hl nb).1,rfl,h2,h3,k _ H2 _ μ2 (Vr.flat l2 (.int _)) (f1.d.trans f2.d) (k1.trans k2) q3⟩
  ·exact q2.elim
 ·exact q1.elim
end Y
namespace A
theorem t6(uo ue:UE)(μ:Mu)(Q:R->Mu->Prop):Y.t6 uo ue μ Q=uo μ fun ro μ1=>match ro with
 |.fr (.lst ts)=>ue μ1 fun r μ2=>(match r with
  |.tr (.str k)=>∃(ws:List Str) (i:Nat),ts=ws.map T.str/\ws[i]?=some k/\(∀ m,m<i->ws[m]?≠some k)/\Q (.tr (.int (i:Nat))) μ2
  |_=>False)
 |_=>False:=rfl
end A
noncomputable def but(B:aR)(a:Addr):aR:=fun b=>B b/\b≠a
theorem Rl.fz{F:Fx}{ad:Nat->Addr}{σ:St}{μ:Mu}{c:T}(l:Rl F ad B σ H μ)(hj:μ[j]?=some (.bx c)):Rl F ad (but B (ad j)) σ H (μ.set j (.tr c)):=by
 have f:Fr B H (but B (ad j)) H:=Fr.less fun b h=>h.1;have sj:hZ F ad B H j (.bx c) σ[j]?:=l.slot j _ hj;obtain⟨s1,s2,s3,s4,s5⟩:=sj;have lt:j<μ.length:=(Ll.mp hj).1;have ne:∀ i s d,μ[i]?=some s->s.box=some d->i≠j->ad i≠ad j:=fun i s d e b n z=>n (l.inj i j s _ d c e hj b rfl z);refine⟨by rw[LV];exact l.len,fun i s e=>?_,fun i k s u d d' e1 e2 b1 b2 z=>?_,fun i a e=>?_,fun b hb=>⟨l.bc b hb,fun z=>?_⟩,fun b hb=>l.fi b hb.1,l.old,fun a vs e=>?_⟩
 ·by_cases hij:i=j
  ·subst hij;rw[LK lt] at e;cases e;exact⟨_,s1,(s5.of rfl f).rep fun z=>z.2 rfl⟩
  ·rw[LO (Ne.symm hij)] at e;have h:=l.slot i s e
   cases s with
   |un=>exact trivial
   |tr t=>obtain⟨v,h1,h2⟩:=h;exact⟨v,h1,h2.fr f⟩
   |bx d=>obtain⟨h1,h2,h3,h4,h5⟩:=h;exact⟨h1,⟨h2,ne i _ d e rfl hij⟩,h3,h4,h5.of rfl f⟩
   |pb d=>obtain⟨h1,h2,h3,h5⟩:=h;exact⟨h1,⟨h2,ne i _ d e rfl hij⟩,h3,h5.of rfl f⟩
 ·have n1:i≠j:=fun z=>by subst z;rw[LK lt] at e1;cases e1;cases b1
  have n2:k≠j:=fun z=>by subst z;rw[LK lt] at e2;cases e2;cases b2
  rw[LO (Ne.symm n1)] at e1;rw[LO (Ne.symm n2)] at e2;exact l.inj i k s u d d' e1 e2 b1 b2 z
 ·have n1:i≠j:=fun z=>by subst z;rw[s4] at e;cases e
  rw[LO (Ne.symm n1)];exact l.par i a e
 ·subst z;obtain⟨o,ho⟩:=F.bh _ hb;rw[s3] at ho;cases ho
 ·obtain⟨g1,g2,g3⟩:=l.gh a vs e;refine⟨g1,⟨g2,fun z=>g3 j _ c hj rfl z.symm⟩,fun i s d e1 b1=>?_⟩;have n1:i≠j:=fun z=>by subst z;rw[LK lt] at e1;cases e1;cases b1
  rw[LO (Ne.symm n1)] at e1;exact g3 i s d e1 b1
namespace Y
noncomputable def vL(j:Nat)(u:US):US:=fun E μ=>match μ[j]? with
 |some (.bx c)=>u E (μ.set j (.tr c))
 |_=>False
theorem gK{s:Stmt}{u:US}(j:Nat)(h:YS X s u):YS X s (vL j u):=by
 obtain⟨t,q,r⟩:=h;refine⟨t,q,fun F D E ad B σ H μ hF l q h=>?_⟩;unfold vL at q
 split at q
 ·rename_i c e;exact r F D E ad _ σ H _ hF (l.fz e) q (h.step (Fr.less fun b h=>h.1))
 ·exact q.elim
end Y
namespace A
theorem vL(j:Nat)(u:US)(E:Ed)(μ:Mu):Y.vL j u E μ=match μ[j]? with
 |some (.bx c)=>u E (μ.set j (.tr c))
 |_=>False:=rfl
end A
section
variable {prog:Program} {w:World} {A:Around} {E:Value->Shared->Prop} {s:Shared}
structure Ea (prog:Program) (w:World) (s:Shared) (vs:List Value) (κ:SortKind) (kz:Nat->Int) (h:Heap):Prop where
 kind:∀(A:Around) (E:Value->Shared->Prop) (Q:SortKind->Shared->Prop),2<=vs.length->Q κ {s with heap:=h}->wpAny (model prog w) A (keyKind' vs.toArray) Q E {s with heap:=h}
 lt:∀(A:Around) (C:Bool->Shared->Prop) (i j:Nat),i<vs.length->j<vs.length->C (decide (kz i<kz j)) {s with heap:=h}->kas_ask prog w A κ vs i j C {s with heap:=h}
theorem yw{a:Addr}{vs:List Value}{κ:SortKind}{kz:Nat->Int}{P:Fin->Shared->Prop}(ho:s.heap.get? a=some (seqObj "list" vs.toArray n))(h64:vs.length<64)
  (hq:∀ h',(∀ b o,b≠a->s.heap.get? b=some o->h'.get? b=some o)->Ea prog w s vs κ kz h')
  (h:∀ p:Array Nat,p.toList.Perm (List.range vs.length)->p.toList.Pairwise (SP.R kz)->P (.done (.ret .none)) {s with heap:=sortedHeap s.heap a vs (List.toArray (p.toList.map fun i=>vs.getD i Value.none))}) :
  wpAny (model prog w) A (Builtin.«list.sort» ⟨[.ref a],[]⟩) P E s:=by
 rw[list_sort_plain];have ha:a<s.heap.objs.size:=Lm ho;refine KU (Ox ho rfl (KU (N_ ho rfl ?_)));obtain⟨e1,ho1⟩:∃ e1,(s.heap.update a (Obj.mapSeq fun _=>#[])).get? a=some (seqObj "list" #[] e1):=⟨_,NB ho (fun _=>#[])⟩;refine KU (seqEpoch_at ho1 rfl (KU (PF (KU (N8 (LM ?_))))));have up:∀ b o,b≠a->s.heap.get? b=some o->(((s.heap.update a (Obj.mapSeq fun _=>#[])).push (seqObj "tuple" vs.toArray 0)).push (seqObj "list" #[] 0)).get? b=some o:=fun b o hb e =>
  La _ (La _ ((NX _ _ (Ne.symm hb)).trans e))
 have ho6:(((s.heap.update a (Obj.mapSeq fun _=>#[])).push (seqObj "tuple" vs.toArray 0)).push (seqObj "list" #[] 0)).get? a=some (seqObj "list" #[] e1):=La _ (La _ ho1);show wpAny (model prog w) A _ P E {s with heap:=((s.heap.update a (Obj.mapSeq fun _=>#[])).push (seqObj "tuple" vs.toArray 0)).push (seqObj "list" #[] 0)}
 dsimp only;have hs:=hq _ up;have hsz:vs.toArray.size=vs.length:=by simp
 by_cases h2:vs.toArray.size<2
 ·rw[if_pos h2,if_pos h2];refine wpAny_bind (wpAny_pure ?_);rw[StateT.run_pure];refine wpAny_bind (wpAny_pure ?_);dsimp only;refine wpAny_bind (seqEpoch_at ho6 rfl (wpAny_bind (listUpdate_at ho6 rfl ?_ (hsz2:=by rw[Array.size_map];show (pairsOf vs).size<=_;rw[pairsOf_size,sizeLine_eq];lia))))
  simp only[OP,Mp,M7];refine Lh ?_;have hid:=h (List.toArray (List.range vs.length)) (List.Perm.refl _) (by
   rcases vs with _|⟨x,_|⟨y,r⟩⟩
   ·exact .nil
   ·simp
   ·exfalso;rw[hsz] at h2;simp only[Lf] at h2;lia)
  have e:(arrOf (SortSt.mk' general' (vs.toArray.zip vs.toArray) #[] 7 none)).map (·.2)=List.toArray ((List.toArray (List.range vs.length)).toList.map fun i=>vs.getD i Value.none):=by
   show (vs.toArray.zip vs.toArray).map (·.2)=_;apply Pc.mp;rw[Array.toList_map,Array.toList_zip];show (vs.zip vs).map (·.2)=(List.range vs.length).map fun i=>vs.getD i Value.none;rw[Pg (Lj _)];refine MP fun i=>?_;rw[Lr];rcases Ma i vs.length with c|c
   ·rw[Md c,KW c];simp[c]
   ·rw[L4.mpr c,L4.mpr (by rw[Lz];exact c)];rfl
  rw[e];exact hid
 ·rw[Lc h2,Lc h2];have h2':2<=vs.length:=by rw[hsz] at h2;lia
  refine KU (hs.kind _ _ _ h2' ?_);refine KU (Me (kat_run (ks:=vs) (vs:=vs) (Q:=fun st' s'=>s'={s with heap:=((s.heap.update a (Obj.mapSeq fun _=>#[])).push (seqObj "tuple" vs.toArray 0)).push (seqObj "list" #[] 0)}/\∃ p:Array Nat,arrOf st'=p.map (kas_item (vs.toArray.zip vs.toArray))/\failedOf st'=none/\p.toList.Perm (List.range vs.length)/\p.toList.Pairwise (SP.R kz))
   (G:=fun p s'=>s'={s with heap:=((s.heap.update a (Obj.mapSeq fun _=>#[])).push (seqObj "tuple" vs.toArray 0)).push (seqObj "list" #[] 0)}/\p.toList.Perm (List.range vs.length)/\p.toList.Pairwise (SP.R kz))
   rfl h2' h64 (fun p st' s' a1 a2 a3 a4=>⟨a4.1,p,a2,a3,a4.2⟩) ?_) ?_ fun _ _ e=>e)
  ·refine SP.sV (k:=kz) (I:=fun s'=>s'={s with heap:=((s.heap.update a (Obj.mapSeq fun _=>#[])).push (seqObj "tuple" vs.toArray 0)).push (seqObj "list" #[] 0)}) (fun i j C s' hi hj hI hC=>?_) (by lia) rfl fun p s' hp hr hI=>⟨hI,hp,hr⟩
   subst hI;exact hs.lt _ _ i j hi hj (hC _ rfl)
  rintro⟨⟨⟩,st'⟩ s' ⟨rfl,p,har,hf,hp,hr⟩;dsimp only;have esn:=kat_snds (ks:=vs) (vs:=vs) rfl har;have hl:(p.toList.map fun i=>vs.getD i Value.none).length=vs.length:=by rw[List.length_map,hp.length_eq,List.length_range]
  refine KU (seqEpoch_at ho6 rfl ?_);refine KU (N_ ho6 rfl ?_ (hsz2:=by show ((arrOf st').map (·.2)).size<=_;rw[esn,Ld,hl,M4];lia))
  rw[hf];simp only[OP,Mp,M7];rw[esn];exact Lh (h p hp hr)
theorem p9{l:Addr}{κ:SortKind}{kz:Nat->Int}(hl:s.heap.IsList l vs.toArray)(h64:vs.length<64)(hq:∀ h',(∀ b o,s.heap.get? b=some o->h'.get? b=some o)->Ea prog w s vs κ kz h')
  (h:∀ p:Array Nat,p.toList.Perm (List.range vs.length)->p.toList.Pairwise (SP.R kz)->Q (.ref (s.heap.objs.size+1)) {s with heap:=sortedAll s.heap vs (List.toArray (p.toList.map fun i=>vs.getD i Value.none))}) :
  wpAny (model prog w) A (call (.builtin "sorted") [.ref l]) Q E s:=by
 refine OR kind_sorted plain_sorted entry_sorted (args_sorted1 _) ?_;unfold Builtin.«sorted»;refine KU (m:=checkCount "sorted" 1 1 _) (Lh (KU (collect_list hl (KU (N8 ?_)))));have hsz:((s.heap.push (seqObj "list" #[] 0)).update s.heap.objs.size (Obj.mapSeq (·++vs.toArray))).objs.size=s.heap.objs.size+1:=by rw[Pa,size_push']
 have hoL:(((s.heap.push (seqObj "list" #[] 0)).update s.heap.objs.size (Obj.mapSeq (·++vs.toArray))).push (seqObj "list" vs.toArray 0)).get? (s.heap.objs.size+1)=some (seqObj "list" vs.toArray 0):=by rw[<- hsz];exact Lq _ rfl
 have keep:∀ b o,s.heap.get? b=some o->(((s.heap.push (seqObj "list" #[] 0)).update s.heap.objs.size (Obj.mapSeq (·++vs.toArray))).push (seqObj "list" vs.toArray 0)).get? b=some o:=fun b o q=>by
  have hlt:b<s.heap.objs.size:=Lm q;rw[Heap.get?_push_ne _ _ _ (by rw[hsz];exact Ly (Nr hlt)),Heap.get?_update_ne _ _ _ _ (Ly hlt),Heap.get?_push_ne _ _ _ (Ly hlt)]
  exact q
 show wpAny _ _ _ _ _ {s with heap:=((s.heap.push (seqObj "list" #[] 0)).update s.heap.objs.size (Obj.mapSeq (·++vs.toArray))).push (seqObj "list" vs.toArray 0)}
 rw[hsz];refine KU (LM (Mb slot_list_sort ⟨_,hoL,rfl⟩ entry_list_sort (yw (kz:=kz) (κ:=κ) (s:={s with heap:=((s.heap.push (seqObj "list" #[] 0)).update s.heap.objs.size (Obj.mapSeq (·++vs.toArray))).push (seqObj "list" vs.toArray 0)}) hoL h64 (fun h' hk=>?_) fun p a1 a2=>⟨_,rfl,?_⟩) (args_list_sort _)))
 ·have:=hq h' fun b o e=>hk b o (Ly (Nr (Lm e))) (keep b o e);exact⟨this.kind,this.lt⟩
 ·exact Lh ⟨_,rfl,h p a1 a2⟩
end
noncomputable def lexLt(x y:Int×Int):Bool:=decide (x.1<y.1\/(x.1=y.1/\x.2<y.2))
theorem kX{x:Int×Int}:lexLt x y=true ↔ (x.1<y.1\/(x.1=y.1/\x.2<y.2)):=decide_eq_true_iff
noncomputable def rank(l:List (Int×Int))(x:Int×Int):Nat:=l.countP fun y=>lexLt y x
noncomputable def rk(l:List (Int×Int))(i:Nat):Int:=(rank l (l.getD i (0,0)):Nat)
theorem pH{p q:Int×Int->Bool}(h:∀ z,p z=true->q z=true){x:Int×Int}:x∈l->p x=false->q x=true->l.countP p<l.countP q:=by
 induction l with
 |nil=>intro hx;cases hx
 |cons y l ih =>
  intro hx h1 h2;have hle:l.countP p<=l.countP q:=PH fun z _=>h z;rw[List.countP_cons,List.countP_cons];rcases Le.mp hx with rfl|hx
  ·rw[Lc (by rw[h1];exact Lg),Li h2];lia
  ·have:=ih hx h1 h2
   cases hp:p y with
   |true=>rw[Li rfl,Li (h y hp)];lia
   |false=>rw[Lc Lg];split<;>lia
theorem sE{x:Int×Int}(hx:x∈l)(hy:y∈l):decide (rank l x<rank l y)=lexLt x y:=by
 have irr:∀ z,lexLt z z=false:=fun z=>Lu (by lia)
 cases h:lexLt x y with
 |true =>
  refine LG (pH (fun z hz=>?_) hx (irr x) h);rw[kX] at h hz ⊢;lia
 |false =>
  refine Lu (OU.mpr (PH fun z _ hz=>?_));have h':¬ (x.1<y.1\/(x.1=y.1/\x.2<y.2)):=of_decide_eq_false h;rw[kX] at hz ⊢;lia
noncomputable def wZ(h:Heap)(v:Value)(pr:Int×Int):Prop:=∃(a:Addr) (o:Obj) (n:Nat) (t u:Tok),v=.ref a/\h.get? a=some o/\o.cls=.type "tuple"/\o.data=.seq #[.int pr.1 t,.int pr.2 u] n
theorem n6:∀{vs:List Value} {bt:List (Int×Int)},Paired (wZ h) vs bt->∃ fs,KatTups h vs fs/\fs.length=vs.length/\∀ v∈fs,∃ i t,v=Value.int i t
 |_,_,.nil=>⟨[],trivial,rfl,fun _ h=>by cases h⟩
 |_,_,.cons r t=>by
  obtain⟨a,o,n,t1,u,rfl,ho,hc,hd⟩:=r;obtain⟨fs,h1,h2,h3⟩:=n6 t;refine⟨_::fs,⟨⟨a,o,_,n,rfl,ho,hc,hd,rfl⟩,h1⟩,by simp[h2],fun v hv=>?_⟩
  rcases Le.mp hv with rfl|hv
  ·exact⟨_,_,rfl⟩
  ·exact h3 v hv
theorem xN{bt:List (Int×Int)}(hp:Paired (wZ h) vs bt){i:Nat}(hi:i<vs.length):wZ h (vs.getD i .none) (bt.getD i (0,0))/\bt.getD i (0,0)∈bt:=by
 induction hp generalizing i with
 |nil=>cases hi
 |cons r t ih =>
  cases i with
  |zero=>exact⟨r,K_ ..⟩
  |succ i =>
   obtain⟨h1,h2⟩:=ih (i:=i) (by simpa using hi)
   exact⟨h1,KZ _ h2⟩
theorem uu{s:Shared}{bt:List (Int×Int)}(hp:Paired (wZ h) vs bt):Ea prog w s vs (tuples' true) (rk bt) h where
 kind:=fun A E Q h2 q=>by
  obtain⟨fs,h1,h3,h4⟩:=n6 hp;exact kat_kind (s:={s with heap:=h}) (T:=.type "int") h1 (by lia) (fun v hv=>by obtain⟨i,t,rfl⟩:=h4 v hv;exact Looks.of_pure rfl) rfl q
 lt:=fun A C i j hi hj q=>by
  obtain⟨⟨a,o,n,t,u,ea,ho,hc,hd⟩,mi⟩:=xN hp hi;obtain⟨⟨a',o',n',t',u',ea',ho',hc',hd'⟩,mj⟩:=xN hp hj;have e:=sE mi mj;have e':decide (rk bt i<rk bt j)=lexLt (bt.getD i (0,0)) (bt.getD j (0,0)):=by
   rw[<- e,Ob];unfold rk;lia
  rw[e'] at q;clear e e' mi mj;unfold kas_ask;rw[ea,ea'];generalize bt.getD i (0,0)=x at *;generalize bt.getD j (0,0)=y at *;refine kat_lt (s:={s with heap:=h}) ho hd ho' hd' ?_
  show KatLex prog w A true _ C [(.int x.1 t,.int y.1 t'),(.int x.2 u,.int y.2 u')] 0 _;refine kat_cons (OW ?_)
  cases c1:(x.1 == y.1) with
  |false =>
   refine kat_no ?_;have h1:x.1≠y.1:=Mc.mp c1;have e1:lexLt x y=decide (x.1<y.1):=by unfold lexLt;rw[Ob];lia
   rw[e1] at q;exact oneLt_int q
  |true =>
   refine kat_yes (kat_cons (OW ?_));have h1:x.1=y.1:=eq_of_beq c1;have e1:lexLt x y=decide (x.2<y.2):=by unfold lexLt;rw[Ob];lia
   rw[e1] at q
   cases c2:(x.2 == y.2) with
   |false =>
    refine kat_no ?_;show wpAny (model prog w) A (oneLt' false (.int x.2 u) (.int y.2 u')) C _ _;exact kat_one _ _ (lt_int q)
   |true =>
    have h2:x.2=y.2:=eq_of_beq c2;refine kat_yes (kat_nil ?_);rw[Lu (by lia)] at q
    exact q
noncomputable def Fg(l:List (Int×Int)):Prop:=l.Pairwise fun x y=>lexLt y x=false
theorem G5{bt:List (Int×Int)}{ix:List Nat}(hp:ix.Perm (List.range bt.length))(hr:ix.Pairwise (SP.R (rk bt))):(ix.map fun i=>bt.getD i (0,0)).Perm bt/\Fg (ix.map fun i=>bt.getD i (0,0)):=by
 have e:(List.range bt.length).map (fun i=>bt.getD i (0,0))=bt:=by
  refine MP fun i=>?_;rw[Lr];rcases Ma i bt.length with c|c
  ·rw[Md c,KW c];simp[c]
  ·rw[L4.mpr c,L4.mpr (by rw[Lz];exact c)];rfl
 refine⟨?_,MB.mpr (hr.imp_of_mem fun {i j} hi hj h=>?_)⟩
 ·have:=hp.map fun i=>bt.getD i (0,0);rw[e] at this;exact this
 ·have mem:∀ i∈ix,bt.getD i (0,0)∈bt:=fun i hi=>by
   have hl:=Mx.mp (hp.mem_iff.mp hi);rw[Lp,KW hl];exact L1 hl
  rw[<- sE (mem j hj) (mem i hi)];have:=h.le;unfold rk at this;exact Lu (by lia)
namespace Y
noncomputable def sx(p:Int×Int):T:=.tup [.int p.1,.int p.2]
noncomputable def J7(H:Hp)(v:V)(p:Int×Int):Prop:=∃ q,v=.ref q/\H q=some (.tup [.int p.1,.int p.2])
noncomputable def vz(K:Qf):List V->Hp->VK->Prop:=fun xs H Q=>∃ p vs bt,xs=[.ref p]/\bH K H p vs/\Paired (J7 H) vs bt/\bt.length<64/\∀ ix:List Nat,ix.Perm (List.range bt.length)->Fg (ix.map fun i=>bt.getD i (0,0))->∀ l,H l=none->Q (.ref l) (upd H l (.lst (ix.map fun i=>vs.getD i .aC)))
theorem zp{pins:List (Addr×Obj)}{σ:St}(I:Inv X pins σ H s):∀{vs:List V} {its:List Value} {bt:List (Int×Int)},Vals vs its->Paired (J7 H) vs bt->Paired (wZ s.heap) its bt
 |_,_,_,.nil,.nil=>.nil
 |_,_,_,.cons r t,.cons r' t'=>by
  refine .cons ?_ (zp I t t');obtain⟨q,rfl,hq⟩:=r';have e:_=Value.ref q:=r;subst e;obtain⟨_,ts,tv,o,e1,c,n,d,_⟩:=(show aP X.prog X.w H s.heap q (.tup _) from I.aJ q _ hq);obtain⟨u,w',rfl,⟨t1,rfl⟩,⟨t2,rfl⟩⟩:=vals2 tv;exact⟨q,o,n,t1,t2,rfl,e1,c,d⟩
theorem rZ{vs:List V}{its:List Value}(h:Vals vs its):∀ ix:List Nat,(∀ i∈ix,i<vs.length)->Vals (ix.map fun i=>vs.getD i .aC) (ix.map fun i=>its.getD i Value.none)
 |[],_=>.nil
 |i::ix,hi=>by
  refine .cons ?_ (rZ h ix fun j hj=>hi j (KZ _ hj));have hl:=hi i (K_ ..);obtain⟨u,e,r⟩:=Vals.get h (KW hl);show RelV (vs.getD i .aC) (its.getD i Value.none);rw[Lp,Lp,KW hl,e];exact r
theorem pN(K:Qf)(hK:X.K=K):aQ X (.builtin "sorted") (vz K):=by
 subst hK;intro pins s σ H xs us Q I r h;obtain⟨p,vs,bt,rfl,hq,hp,h64,q⟩:=h;obtain⟨u,rfl,ru⟩:=vals1 r;cases ru;obtain⟨its,rv,pl,hz⟩:=I.list hq;have hpa:=zp I rv hp;have l1:its.length=bt.length:=Paired.length hpa;have l2:vs.length=bt.length:=Paired.length hp;refine p9 (κ:=tuples' true) (kz:=rk bt) pl.isList (by lia) (fun h' hk=>uu (Paired.uN hpa fun a b ⟨x,o,n,t,u,e,ho,r⟩=>⟨x,o,n,t,u,e,hk _ _ ho,r⟩)) fun px a1 a2=>?_
 rw[l1] at a1;obtain⟨e,he⟩:=sortedAll_at s.heap its (List.toArray (px.toList.map fun i=>its.getD i Value.none));refine⟨.ref (s.heap.objs.size+1),_,I.laid (t':=s.toks) (fun b ob q=>sortedAll_old q) (MH _) (show aP X.prog X.w _ _ _ (.lst (px.toList.map fun i=>vs.getD i .aC)) from⟨?_,_,e,rZ rv px.toList (fun i hi=>by rw[l2];exact Mx.mp (a1.mem_iff.mp hi)),by simpa using he⟩),rfl,q px.toList a1 (G5 a1 a2).2 _ (I.aJ.fresh (MH _))⟩
 rw[Lb,a1.length_eq,Lz];exact Lk (MI h64) (by decide)
noncomputable def mJ:T->Mu->(R->Mu->Prop)->Prop:=fun t μ Q=>match t with
 |.lst xs=>∃ bt:List (Int×Int),xs=bt.map sx/\bt.length<64/\∀ out:List (Int×Int),out.Perm bt->Fg out->Q (.fr (.lst (out.map sx))) μ
 |_=>False
theorem om:∀{bt:List (Int×Int)} {vs:List V},aj K H B vs (bt.map sx)->Paired (J7 H) vs bt
 |[],_,r=>by cases r;exact .nil
 |p::bt,_,r=>by
  cases r with
  |cons h r =>
   refine .cons ?_ (om r)
   cases h with
   |tup n h r' =>
    cases r' with
    |cons h1 r' =>
     cases h1
     cases r' with
     |cons h2 r' =>
      cases h2;cases r';exact⟨_,rfl,h⟩
theorem tu{vs:List V}{bt:List (Int×Int)}(h:aj K H B vs (bt.map sx)):∀ ix:List Nat,(∀ i∈ix,i<bt.length)->aj K H B (ix.map fun i=>vs.getD i .aC) ((ix.map fun i=>bt.getD i (0,0)).map sx)
 |[],_=>.nil
 |i::ix,hi=>by
  refine .cons ?_ (tu h ix fun j hj=>hi j (KZ _ hj));have hl:=hi i (K_ ..);obtain⟨v,e,r⟩:=aj.get h (i:=i) (t:=sx bt[i]) (by rw[Lr,KW hl];rfl)
  show Rep K H B (vs.getD i .aC) (sx (bt.getD i (0,0)));rw[Lp,Lp,KW hl,e];exact r
theorem ye:RC K (vz K) (vq mJ):=iq fun F ad B σ H μ Q Qt x t hK l v1 q k=>by
 subst hK
 cases v1 with
 |lst ha ra =>
  obtain⟨bt,rfl,h64,q⟩:=q;refine⟨_,_,bt,rfl,bH.of ha,om ra,h64,fun ix a1 a2 p hp=>?_⟩;have e:=(List.range bt.length).map (fun i=>bt.getD i (0,0));have hpm:(ix.map fun i=>bt.getD i (0,0)).Perm bt:=by
   have h1:=a1.map fun i=>bt.getD i (0,0);have h2:(List.range bt.length).map (fun i=>bt.getD i (0,0))=bt:=by
    refine MP fun i=>?_;rw[Lr];rcases Ma i bt.length with c|c
    ·rw[Md c,KW c];simp[c]
    ·rw[L4.mpr c,L4.mpr (by rw[Lz];exact c)];rfl
   rw[h2] at h1;exact h1
  exact k _ _ _ (Vr.i5 l (tu ra ix fun i hi=>Mx.mp (a1.mem_iff.mp hi)) hp) (Fr.more hp) (q _ hpm a2)
 |_=>exact q.elim
end Y
namespace A
theorem mJ(xs:List T)(μ:Mu)(Q:R->Mu->Prop):Y.mJ (.lst xs) μ Q=(∃ bt:List (Int×Int),xs=bt.map Y.sx/\bt.length<64/\∀ out:List (Int×Int),out.Perm bt->Fg out->Q (.fr (.lst (out.map Y.sx))) μ):=rfl
end A
open Builtin Builtin.Str
open PySem PySem.Spec PyProof PyProof.Rows
open Builtin Builtin.Str
open PySem PySem.Spec PyProof PyProof.Rows
open PySem PySem.Spec PyProof PyProof.Rows PySem.W
namespace A4
noncomputable def lt(r:R)(k:R->Prop):Prop:=k r
theorem KL(t:T)(k:R->Prop):lt (R.d (.tr t)) k=k (.tr t):=rfl
theorem KJ(t:T)(k:R->Prop):lt (R.d (.fr t)) k=k (.tr t):=rfl
theorem KN(i:Nat)(k:R->Prop):lt (R.d (.br i)) k=k (.br i):=rfl
theorem He(o:Ou)(Q:R->Prop):mQ o Q=(match o with|.no=>False|.ok r=>Q r|.ck c r=>c/\Q r):=rfl
theorem Gk(o:Option (Prop×R))(Q:R->Prop):mR o Q=(match o with|some (C,r)=>C/\Q r|none=>False):=rfl
theorem HB(o:Option (List T×Option (Nat×List T)))(Q:List T->Option (Nat×List T)->Prop):FK o Q=(match o with|some (ts,g)=>Q ts g|none=>False):=rfl
theorem Gq(o:Option T)(p:Prop):Y.Io o p=(match o with|some (.lst _)=>p|_=>False):=by
 cases o with|none=>rfl|some t=>cases t<;>rfl
theorem BZ(u:U2)(ua ub:UE)(μ:Mu)(Q:R->Mu->Prop):Y.BZ u ua ub μ Q=ua μ fun r1 μ1=>ub μ1 fun r2 μ2=>lt r1.d fun x=>lt r2.d fun y=>u x y μ2 Q:=rfl
theorem qT(ue:UE)(us:UA)(μ:Mu)(Q:List R->Mu->Prop):Y.qT ue us μ Q=ue μ fun r μ1=>us μ1 fun rs μ2=>lt r.d fun x=>Q (x::rs) μ2:=rfl
end A4
section
variable {X:Cx} {pins:List (Addr×Obj)} {σ:List (Option V)} {H:Hp} {s:Shared}
noncomputable def soft:HO->Bool
 |.lst _=>true
 |.ext _=>true
 |_=>false
theorem Inv.alter(I:Inv X pins σ H s){c:Addr}{o1 o2:HO}(h1:H c=some o1)(k1:soft o1=true)(ok:aP X.prog X.w (upd H c o2) s.heap c o2):Inv X pins σ (upd H c o2) s:=by
 have ne:∀{b o},H b=some o->soft o=false->b≠c:=fun {b o} e k z=>by
  subst z;rw[h1] at e;cases e;rw[k1] at k;cases k
 have nn:∀{b},H b=none->b≠c:=fun {b} e z=>by subst z;rw[h1] at e;cases e
 refine⟨I.ok,I.os,I.bare,⟨I.base.keep,I.base.slot,fun b o e e2 n=>?_,I.base.there,fun b xs e=>?_,fun b o u e=>?_,fun b ps e=>?_⟩,I.loc,I.cell,?_,fun x d e=>?_,fun p hp=>?_,fun b o e=>?_,I.len⟩
 ·have:=I.base.free b o e e2 n;rw[ai (nn this)];exact this
 ·have:=I.base.my b xs e;rw[ai (ne this rfl)];exact this
 ·have:=I.base.kj b o u e;rw[ai (ne this rfl)];exact this
 ·obtain⟨m,this⟩:=I.base.jg b ps e;exact⟨m,by rw[ai (ne this rfl)];exact this⟩
 ·rw[ai (nn I.free)];exact I.free
 ·rw[ai (nn (I.dM x d e))];exact I.dM x d e
 ·obtain⟨p1,p2,p3⟩:=I.pin p hp;exact⟨p1,by rw[ai (nn p2)];exact p2,p3⟩
 ·by_cases z:b=c
  ·subst z;rw[aq] at e;cases e;exact ok
  ·rw[ai z] at e;exact (I.aJ b o e).jY (fun _ _ _ q=>q) (fun b' q=>by rw[ai (ne q rfl)];exact q) (fun b' xs q=>by rw[ai (ne q rfl)];exact q) (fun b' o' u q=>by rw[ai (ne q rfl)];exact q)
noncomputable def intOf:Value->Int
 |.int i _=>i
 |_=>0
theorem rA:∀{its:List Value},(∀ v∈its,∃(i:Int) (t:Tok),v=.int i t/\0<=i)->Vals ((its.map intOf).map V.int) its/\∀ z∈its.map intOf,0<=z
 |[],_=>⟨.nil,fun z hz=>by cases hz⟩
 |v::its,h=>by
  obtain⟨i,t,rfl,h0⟩:=h v K_;obtain⟨r,q⟩:=rA fun w hw=>h w (KZ _ hw);refine⟨.cons ⟨t,rfl⟩ r,fun z hz=>?_⟩;rcases Le.mp hz with rfl|hz
  ·exact h0
  ·exact q z hz
theorem g7:∀{ns:List Int} {its:List Value},Vals (ns.map V.int) its->(∀ z∈ns,0<=z)->its.length=ns.length/\∀ v∈its,∃(i:Int) (t:Tok),v=.int i t/\0<=i
 |[],[],_,_=>⟨rfl,fun v hv=>by cases hv⟩
 |[],_::_,r,_=>by cases r
 |_::_,[],r,_=>by cases r
 |n::ns,v::its,.cons h r,hz=>by
  obtain⟨e,q⟩:=g7 r fun z hz'=>hz z (KZ _ hz');refine⟨L0 (·+1) e,fun w hw=>?_⟩;rcases Le.mp hw with rfl|hw
  ·obtain⟨t,rfl⟩:=(show RelV (.int n) w from h);exact⟨n,t,rfl,hz n K_⟩
  ·exact q w hw
theorem sG(c:Addr)(n:Nat):∀ h1 h2:Heap,gR c n h1->(∀ o,h1.get? c=some o->h2.get? c=some o)->gR c n h2:=fun h1 h2 ⟨its,m,e,q⟩ k=>⟨its,m,k _ e,q⟩
theorem Inv.IY(I:Inv X pins σ H s){c:Addr}{n:Nat}(hc:H c=some (.ext (gR c n)))(hn:n<=sizeLine):∃ ns:List Int,ns.length=n/\(∀ z∈ns,0<=z)/\Inv X pins σ (upd H c (.lst (ns.map V.int))) s:=by
 obtain⟨⟨its,m,e,hl,q⟩,_,_⟩:=I.aJ c _ hc;obtain⟨r,h0⟩:=rA q;refine⟨its.map intOf,by rw[Lb];exact hl,h0,I.alter hc rfl ⟨by rw[Lb,Lb,hl];exact hn,its,m,r,e⟩⟩
theorem zk{H:Hp}{c:Addr}{o o':HO}(h:H c=some o):upd (upd H c o') c o=H:=by
 funext b
 unfold upd;split
 ·rename_i z;rw[z,h]
 ·rfl
theorem Inv.Ji{c:Addr}{n:Nat}{ns:List Int}(I:Inv X pins σ (upd H c (.lst (ns.map V.int))) s)(hc:H c=some (.ext (gR c n)))(hl:ns.length=n)(h0:∀ z∈ns,0<=z):Inv X pins σ H s:=by
 obtain⟨z,its,m,r,e⟩:=I.aJ c _ aq;obtain⟨el,q⟩:=g7 r h0;have:=I.alter (o2:=.ext (gR c n)) aq rfl ⟨⟨its,m,e,el.trans hl,q⟩,⟨_,e⟩,sG c n⟩;rw[zk hc] at this;exact this
end
variable{H:Hp}{X:Cx}{e:Expr}{K:Qf}{i:Nat}{B:aR}{p:Pos}{es:List Expr}{ue:UE}{α β:Type}{x:PySem.Str}{cs:List Nat}{E Q:Value->Shared->Prop}{s:Shared}{prog:Program}{w:World}{h h':Heap}{xs:Array Value}{ts:List T}
noncomputable def FH:R2:=fun x y H Q=>∃(c:Addr) (n:Nat) (i:Int),x=.ref c/\y=.int i/\H c=some (.ext (gR c n))/\n<=1000/\0<=i/\i<n/\∀ v:Int,0<=v->Q (.int v) H
theorem GH:uW X FH:=by
 intro value slice pins s σ H x y v u Q I rx ry h hsub;obtain⟨c,n,i,rfl,rfl,hc,hn,i0,i1,q⟩:=h;obtain⟨ns,hl,h0,I2⟩:=I.IY hc (Lk hn (by decide))
 obtain⟨j,rfl⟩:∃ j:Nat,i=j:=⟨i.toNat,by lia⟩
 have hj:j<ns.length:=by lia
 refine bu (s_ value slice pins s σ _ _ _ v u (fun v H'=>H'=upd H c (.lst (ns.map V.int))/\v=.int ns[j]) I2 rx ry ⟨c,_,j,.int ns[j],rfl,rfl,bH.of aq,aW (by rw[Lr,KW hj];rfl),rfl,rfl⟩ hsub) fun u' s' ⟨v',H',I',rv,e1,e2⟩=>?_
 subst e1 e2;exact⟨_,H,I'.Ji hc hl h0,rv,q _ (h0 _ (L1 hj))⟩
noncomputable def CA:zx:=fun o i v H Q=>∃(c:Addr) (n:Nat) (k z:Int),o=.ref c/\i=.int k/\v=.int z/\H c=some (.ext (gR c n))/\n<=1000/\0<=k/\k<n/\0<=z/\Q H
theorem Ej:AH X CA:=by
 intro pins s σ H o i v ov iv u Q I ro ri rv h;obtain⟨c,n,k,z,rfl,rfl,rfl,hc,hn,k0,k1,z0,q⟩:=h;obtain⟨ns,hl,h0,I2⟩:=I.IY hc (Lk hn (by decide))
 obtain⟨j,rfl⟩:∃ j:Nat,k=j:=⟨k.toNat,by lia⟩
 have hj:j<ns.length:=by lia
 refine bu (set_list pins s σ _ _ _ _ ov iv u (fun H'=>H'=upd H c (.lst ((ns.set j z).map V.int))) I2 ro ri rv ⟨c,_,j,j,rfl,rfl,aq,by rw[Lb];unfold ie;rw[Li (by lia),Li (by lia)];simp,?_⟩) fun _ s' ⟨H',I',e⟩=>?_
 ·funext b
  unfold upd;split
  ·rw[NM]
  ·rfl
 ·subst e;refine⟨H,I'.Ji hc (by rw[LV];exact hl) fun w hw=>?_,q⟩
  rcases MU hw with hw|rfl
  ·exact h0 w hw
  ·exact z0
noncomputable def C2:List V->Hp->VK->Prop:=fun xs H Q=>∃(c:Addr) (n:Nat),xs=[.ref c]/\H c=some (.ext (gR c n))/\n<=1000/\Q (.int (n:Nat)) H
theorem uX:aQ X (.builtin "len") C2:=by
 intro pins s σ H xs us Q I r h;obtain⟨c,n,rfl,hc,hn,q⟩:=h;obtain⟨ns,hl,h0,I2⟩:=I.IY hc (Lk hn (by decide))
 refine bu (gO pins s σ _ _ us (fun v H'=>H'=upd H c (.lst (ns.map V.int))/\v=.int (n:Nat)) I2 r ⟨c,_,rfl,.inl (bH.of aq),rfl,by rw[Lb,hl]⟩) fun u' s' ⟨v',H',I',rv,e1,e2⟩=>?_
 subst e1 e2;exact⟨_,H,I'.Ji hc hl h0,rv,q⟩
noncomputable def Hg(t:TE):TE:=fun σ H Q=>t σ H fun v H'=>∃(c:Addr) (ns:List Int),H' c=some (.lst (ns.map V.int))/\(∀ z∈ns,0<=z)/\Q v (upd H' c (.ext (gR c ns.length)))
theorem DY{t:TE}(h:PE X e t):PE X e (Hg t):=by
 intro pins s σ H Q I q;refine bu (h pins s σ H _ I q) fun u s' ⟨v,H',I',rv,c,ns,hc,h0,q'⟩=>?_;obtain⟨z,its,m,r,e⟩:=I'.aJ c _ hc;obtain⟨el,qq⟩:=g7 r h0;exact⟨v,_,I'.alter (o2:=.ext (gR c ns.length)) hc rfl ⟨⟨its,m,e,el,qq⟩,⟨_,e⟩,sG c _⟩,rv,q'⟩
namespace Y
noncomputable def zg:U2:=fun r1 r2 μ Q=>match r1,r2 with
 |.tr (.il n),.tr (.int i)=>n<=1000/\0<=i/\i<n/\∀ v:Int,0<=v->Q (.tr (.int v)) μ
 |_,_=>False
theorem EC:ic K FH zg:=by
 intro F ad B σ H μ Q Qt x y r1 r2 hF l h1 h2 q k;unfold zg at q
 split at q
 ·cases h1 with
  |il m h =>
   obtain rfl:=Rep.bZ h2;obtain⟨hn,i0,i1,q⟩:=q;exact⟨_,_,_,rfl,rfl,h,hn,i0,i1,fun v hv=>k _ H _ μ (Vr.flat l (.int _)) Fr.refl (Kp.refl μ) (q v hv)⟩
 ·exact q.elim
noncomputable def oO:UC:=fun rs μ Q=>match rs with
 |[.tr (.il n)]=>n<=1000/\Q (.tr (.int (n:Nat))) μ
 |_=>False
theorem BD:RC K C2 oO:=by
 intro F ad B σ H μ Q Qt xs rs hF l ps q k;unfold oO at q
 split at q
 ·obtain⟨_,_,rfl,h,ps⟩:=Paired.aO ps;obtain rfl:=Paired.eV ps
  cases h with
  |il m h=>exact⟨_,_,rfl,h,q.1,k _ H _ μ (Vr.flat l (.int _)) Fr.refl (Kp.refl μ) q.2⟩
 ·exact q.elim
noncomputable def GO(uo ui:UE):UG:=fun r μ Q=>match r.d with
 |.tr (.int z)=>uo μ fun ro μ1=>ui μ1 fun ri μ2=>(match ro,ri with
  |.tr (.il n),.tr (.int k)=>n<=1000/\0<=k/\k<n/\0<=z/\Q μ2
  |_,_=>False)
 |_=>False
theorem GV{o i:Expr}{uo ui:UE}{pos:Pos}(ho:YE X o uo)(hi:YE X i ui)
  (ha:autoParam (∀ v,assign (.Subscript o i pos) X.env v=(do
   let ov <- holding [v] (eval o X.env)
   let iv <- holding [v,ov] (eval i X.env)
   standAt pos
   holding [v,ov,iv] (setItem ov iv v)
   release [v,ov,iv] [])) ℜ3):YG X (.Subscript o i pos) (GO uo ui):=by
 obtain⟨t,q,r⟩:=ho;obtain⟨t',q',r'⟩:=hi;refine⟨_,(⟨vv q.h q'.h Ej ha⟩:QG X (.Subscript o i pos) (Di t t' CA)),fun F ad B σ H μ v rr B0 H0 Q Qt hF h f q k=>?_⟩;unfold GO at q;have f0:Fr B0 H0 B H:=fun b o h n=>⟨(f b o h n).1,fun z=>(f b o h n).2 (by cases rr<;>first|exact z | (cases v<;>first|exact z|exact .inr z))⟩
 have hv:=h.hv
 split at q
 ·rename_i z e0;rw[e0] at hv
  cases (show Rep F.K H B v (.int z) from hv)
  refine r F ad B σ H μ _ _ hF h.rl q fun ov H1 r1 μ1 v1 f1 k1 q1=>r' F ad B σ H1 μ1 _ _ hF v1.rl q1 fun iv H2 r2 μ2 v2 f2 k2 q2=>?_
  split at q2
  ·rename_i n kk;have rp:=v2.2;obtain rfl:=Rep.bZ rp;have ro:=(v1.hv.fr f2.d k2)
   cases (show Rep F.K H2 B ov (.il n) from ro) with
   |il m hc =>
    obtain⟨hn,k0,k1',z0,q3⟩:=q2;exact⟨_,n,kk,z,rfl,rfl,rfl,hc,hn,k0,k1',z0,k ad B σ _ _ v2.rl (f0.trans (f1.d.trans f2.d)) q3⟩
  ·exact q2.elim
 ·exact q.elim
noncomputable def y0:UC:=fun rs μ Q=>match rs with
 |[.tr (.int i)]=>Q (.tr (.int (if i<0 then -i else i))) μ
 |_=>False
theorem Fb:RC K (fun xs H Q=>∃ i,xs=[.int i]/\Q (.int (if i<0 then -i else i)) H) y0:=by
 intro F ad B σ H μ Q Qt xs rs hF l ps q k;unfold y0 at q
 split at q
 ·obtain⟨_,_,rfl,h,ps⟩:=Paired.aO ps;obtain rfl:=Paired.eV ps
  cases aL h
  exact⟨_,rfl,k _ H _ μ (Vr.flat l (.int _)) Fr.refl (Kp.refl μ) q⟩
 ·exact q.elim
noncomputable def rL(ue:UE)(us:UA):UE:=fun μ Q=>ue μ fun r μ1=>match r with
 |.fr (.lst ts)=>us μ1 fun rs μ2=>(match trees rs with
  |some us'=>(∃ ms:List Int,ts=ms.map T.int/\∀ z∈ms,0<=z)/\us'.length<1000/\Q (.fr (.lst (.il ts.length::us'))) μ2
  |none=>False)
 |_=>False
theorem vZ{F:Fx}{ad:Nat->Addr}{B':aR}{σ:St}{μ:Mu}{c p:Addr}{o o':HO}{vs0:List V}(l:Rl {F with G:=fun a=>if a=c then some vs0 else F.G a} ad (more B c) σ H μ)(hc:¬ B c)(h0:F.H0 c=none)(hg:∀ a vs,F.G a=some vs->B a)(hp:H p=none)
  (b1:∀ b,B b->B' b) (b2:∀ b,B' b->b=p\/B b):Rl F ad B' σ (upd (upd H p o) c o') μ/\Fr (more B c) H B' (upd (upd H p o) c o'):=by
 obtain⟨gc1,_,gc3⟩:=l.gh c vs0 (Li rfl);have cp:c≠p:=fun z=>by rw[z,hp] at gc1;cases gc1
 have st:∀{b u},H b=some u->b≠c->upd (upd H p o) c o' b=some u:=fun {b u} e n=>by
  rw[ai n,ai (fun z=>by rw[z,hp] at e;cases e)];exact e
 have f:Fr (more B c) H B' (upd (upd H p o) c o'):=fun b u e n=>⟨st e fun z=>n (.inl z),fun z=>(b2 b z).elim (fun z=>by rw[z,hp] at e;cases e) fun z=>n (.inr z)⟩
 refine⟨⟨l.len,fun i s e=>?_,l.inj,l.par,fun b z=>?_,fun b z=>?_,fun b u e n=>?_,fun a vs e=>?_⟩,f⟩
 ·have k:=l.slot i s e;have nb:∀ d,s.box=some d->ad i≠c:=fun d hd=>gc3 i s d e hd;have bb:∀ d,s.box=some d->more B c (ad i)->B' (ad i):=fun d hd z=>z.elim (fun z=>absurd z (nb d hd)) (b1 _);unfold hZ at k ⊢
  split at k
  ·trivial
  ·obtain⟨v,e1,r⟩:=k;exact⟨v,e1,r.fr f⟩
  ·obtain⟨e1,b,z,pp,x⟩:=k;obtain⟨u,q⟩:=x.fi;exact⟨e1,bb _ rfl b,z,pp,x.of ((st q (nb _ rfl)).trans q.symm) f⟩
  ·obtain⟨e1,b,pp,x⟩:=k;obtain⟨u,q⟩:=x.fi;exact⟨e1,bb _ rfl b,pp,x.of ((st q (nb _ rfl)).trans q.symm) f⟩
 ·rcases l.bc b z with rfl|z'
  ·obtain⟨u,e⟩:=F.bh _ z;rw[h0] at e;cases e
  ·exact b1 b z'
 ·rcases b2 b z with rfl|z
  ·exact⟨o,by rw[ai (Ne.symm cp),aq]⟩
  ·obtain⟨u,e⟩:=l.fi b (.inr z);exact⟨u,st e fun z'=>hc (z' ▸ z)⟩
 ·exact st (l.old b u e n) fun z=>by rw[z,h0] at e;cases e
 ·have ac:a≠c:=fun z=>hc (z ▸ hg a vs e);obtain⟨g1,g2,g3⟩:=l.gh a vs (show (if a=c then some vs0 else F.G a)=some vs by rw[Lc ac];exact e)
  exact⟨st g1 ac,b1 _ (g2.elim (fun z=>absurd z ac) id),g3⟩
theorem ef{us:UA}{pos:Pos}(he:YE X e ue)(hs:YA X es us)(h1:autoParam (cL e=true) ℜ0):YE X (.List (e::es) pos) (rL ue us):=by
 obtain⟨t,q,r⟩:=he;obtain⟨t',q',r'⟩:=hs;refine⟨_,⟨DY (Z.lst (pos:=pos) (Z.cons q q' h1)).h⟩,fun F ad B σ H μ Q Qt hF l q k=>?_⟩;unfold Hg;rw[Ap.y6,Ap.hU];refine r F ad B σ H μ _ _ hF l q fun x H1 r1 μ1 v1 f1 k1 q1=>?_
 split at q1
 ·rename_i ts;obtain⟨l1,c,rfl,nc,h0,l2,vs0,hc,rp0⟩:=v1;have gh0:=l.gh;have l3:Rl {F with G:=fun a=>if a=c then some vs0 else F.G a} ad (more B c) σ H1 μ1:=⟨l2.len,l2.slot,l2.inj,l2.par,l2.bc,l2.fi,l2.old,fun a vs e=>by
   have e:(if a=c then some vs0 else F.G a)=some vs:=e
   by_cases z:a=c
   ·subst z;rw[Li rfl] at e;cases e;exact⟨hc,.inl rfl,fun i s d e1 e2 z=>nc (z ▸ ((l1.slot i s e1).boxed e2).2.1)⟩
   ·rw[Lc z] at e;exact l2.gh a vs e⟩
  refine r' {F with G:=fun a=>if a=c then some vs0 else F.G a} ad (more B c) σ H1 μ1 _ _ hF l3 q1 fun vs H2 rs μ2 l4 ps f2 k2 q2=>?_
  split at q2
  ·rename_i us' e;obtain⟨⟨ms,rfl,hz⟩,hl,q3⟩:=q2;have rp:=iR ps e;have e0:vs0=ms.map V.int:=dm rp0;refine⟨by rw[Lf,rp.length];exact Lk (show _<=1000 by lia) (by decide),fun p hp=>?_⟩
   obtain⟨g1,_,_⟩:=l4.gh c vs0 (Li rfl);have cp:c≠p:=fun z=>by rw[z,hp] at g1;cases g1
   refine⟨c,ms,by rw[ai cp,g1,e0],hz,?_⟩
   have hg:∀ a vs,F.G a=some vs->B a:=fun a vs e=>(l.gh a vs e).2.1;obtain⟨m1,_⟩:=vZ (o:=.lst (.ref c::vs)) (o':=.ext (gR c ms.length)) (B':=B) l4 nc h0 hg hp (fun _ z=>z) (fun _ z=>.inr z);obtain⟨m2,f3⟩:=vZ (o:=.lst (.ref c::vs)) (o':=.ext (gR c ms.length)) (B':=more B p) l4 nc h0 hg hp (fun _ z=>.inr z) (fun _ z=>z);have np:¬ B p:=fun z=>by
    obtain⟨u,e⟩:=l4.fi p (.inr z);rw[hp] at e;cases e
   have hp0:=Rl.ym l4 hp;rw[Lb] at q3;refine k (.ref p) _ (.fr (.lst (.il ms.length::us'))) μ2 ⟨m1,p,rfl,np,hp0,m2,.ref c::vs,by rw[ai (Ne.symm cp),aq],.cons (.il (fun z=>z.elim cp nc) aq) (rp.fr f3)⟩ ((f1.trans f2).trans f3) (k1.trans k2) q3
  ·exact q2.elim
 ·exact q1.elim
end Y
namespace A
theorem y0(i:Int)(μ:Mu)(Q:R->Mu->Prop):Y.y0 [.tr (.int i)] μ Q=Q (.tr (.int (if i<0 then -i else i))) μ:=rfl
theorem rL(ue:UE)(us:UA)(μ:Mu)(Q:R->Mu->Prop):Y.rL ue us μ Q=ue μ fun r μ1=>match r with
 |.fr (.lst ts)=>us μ1 fun rs μ2=>(match Y.trees rs with
  |some us'=>(∃ ms:List Int,ts=ms.map T.int/\∀ z∈ms,0<=z)/\us'.length<1000/\Q (.fr (.lst (.il ts.length::us'))) μ2
  |none=>False)
 |_=>False:=rfl
theorem zg(n:Nat)(i:Int)(μ:Mu)(Q:R->Mu->Prop):Y.zg (.tr (.il n)) (.tr (.int i)) μ Q=(n<=1000/\0<=i/\i<n/\∀ v:Int,0<=v->Q (.tr (.int v)) μ):=rfl
theorem oO(n:Nat)(μ:Mu)(Q:R->Mu->Prop):Y.oO [.tr (.il n)] μ Q=(n<=1000/\Q (.tr (.int (n:Nat))) μ):=rfl
theorem GO(uo ui:UE)(z:Int)(μ:Mu)(Q:Mu->Prop):Y.GO uo ui (.tr (.int z)) μ Q=uo μ fun ro μ1=>ui μ1 fun ri μ2=>(match ro,ri with
  |.tr (.il n),.tr (.int k)=>n<=1000/\0<=k/\k<n/\0<=z/\Q μ2
  |_,_=>False):=rfl
end A
theorem AE(f:α->β)(xs:List α)(i:Int):aY (xs.map f) i=(aY xs i).map f:=by
 unfold aY;rw[Lb]
 cases ie xs.length i with
 |none=>rfl
 |some j=>exact Lr ..
namespace Y
noncomputable def Bh(D:List (Str×List Str))(ue:UE):UE:=fun μ Q=>ue μ fun r μ'=>match r with
 |.tr (.int i)=>(match aY (D.map fun p=>p.1) i with
  |some k=>Q (.tr (.str k)) μ'
  |none=>False)
 |_=>False
theorem K5{x:Str}{pl pos cpos:Pos}{D:List (Str×List Str)}(K:Qf)(hK:X.K=K)(hc:X.calm=true)(hg:Gl X x)(hd:∃ d,X.mg x=some (.ref d)/\mO K d D)(hgl:Gl X "list")(hml:X.mg "list"=none)(he:YE X e ue)(hz:autoParam (D.length<=1000) ℜ1)(hs:autoParam (Z.sim e=true) ℜ0)(hdb:autoParam ((x ==("__debug__":Str))=false) ℜ1):
  YE X (.Subscript (.Call (.Name "list" pl) [.Name x p] [] cpos) e pos) (Bh D ue):=by
 obtain⟨t,q,r⟩:=he;obtain⟨d,hm,hd⟩:=hd;have hlist:QE X (.Call (.Name "list" pl) [.Name x p] [] cpos) (Cu (xA K D) (hU (tC (.ref d)) ot)):=Z.ct (pP K hK hc) hgl hml (by decide +kernel) (Z.cons ⟨mK hg hm rfl hdb⟩ Z.nil)
 refine⟨_,Z.ix (aB K hK) hlist q hs,fun F ad B σ H μ Q Qt hF l q k=>?_⟩;refine⟨d,rfl,hd,Lk hz (by decide),fun a ha=>?_⟩
 have sm:bB H (upd H a (.lst (D.map fun p=>V.str p.1))):=bB.new ha;refine r F ad B σ _ μ _ _ hF (l.same sm) q fun v H' r1 μ' v1 f k1 q1=>?_
 split at q1
 ·rename_i i;obtain⟨l1,rp⟩:=v1;obtain rfl:=Rep.bZ rp
  split at q1
  ·rename_i z ez;refine .inl ⟨a,_,i,.str z,rfl,rfl,bH.of (f a _ aq (l.p7 ha)).1,?_,k _ H' _ μ' (Vr.flat l1 (.str _)) ((Fr.same sm).trans f.d) k1 q1⟩;rw[show (fun p:Str×List Str=>V.str p.1)=V.str ∘ fun p=>p.1 from rfl,<- N0,AE,ez];rfl
  ·exact q1.elim
 ·exact q1.elim
end Y
namespace A
theorem Bh(D:List (Str×List Str))(ue:UE)(μ:Mu)(Q:R->Mu->Prop):Y.Bh D ue μ Q=ue μ fun r μ'=>match r with
 |.tr (.int i)=>(match aY (D.map fun p=>p.1) i with
  |some k=>Q (.tr (.str k)) μ'
  |none=>False)
 |_=>False:=rfl
end A
open PySem PySem.Calls PySem.NumText PySem.Spec PyProof PyProof.Rows
noncomputable def ka(cs:List Nat):Nat:=cs.foldl (fun a c=>a*2+(c-48)) 0
noncomputable def vO(cs:List Nat):Prop:=∀ c∈cs,c=48\/c=49
theorem HY{c:Nat}(h:c=48\/c=49)(ds:Array Nat)(b:Bool):step 2 (ds,b) c=some (ds.push (c-48),true):=by
 rcases h with rfl|rfl<;>rfl
theorem Ct:∀(cs:List Nat) (ds:Array Nat) (b:Bool),vO cs->∃ ds':Array Nat,cs.foldlM (step 2) (ds,b)=some (ds',b || !cs.isEmpty)/\ds'.foldl (fun a d=>a*2+d) 0=cs.foldl (fun a c=>a*2+(c-48)) (ds.foldl (fun a d=>a*2+d) 0)
 |[],ds,b,_=>⟨ds,by simp,rfl⟩
 |c::cs,ds,b,h=>by
  obtain⟨ds',e1,e2⟩:=Ct cs (ds.push (c-48)) true fun x hx=>h x (KZ _ hx);refine⟨ds',?_,?_⟩
  ·rw[List.foldlM_cons,HY (h c K_)];show cs.foldlM (step 2) (ds.push (c-48),true)=_;rw[e1];simp
  ·rw[e2,Array.foldl_push,Ot]
theorem tQ{c:Nat}(h:c=48\/c=49):blank c=false:=by rcases h with rfl|rfl<;>rfl
theorem nr(h:vO cs):cs.dropWhile blank=cs:=by
 cases cs with
 |nil=>rfl
 |cons c cs=>rw[N9,tQ (h c K_)];rfl
theorem x6(h:vO cs):sign cs=(false,cs):=by
 cases cs with
 |nil=>rfl
 |cons c cs=>rcases h c K_ with rfl|rfl<;>rfl
theorem uI(h:vO cs):based 2 cs=(2,false,cs):=by
 have e:PySem.NumText.prefix? cs=none:=by
  rcases cs with _|⟨c,_|⟨d,cs⟩⟩
  ·rfl
  ·rcases h c K_ with rfl|rfl<;>rfl
  ·rcases h c K_ with rfl|rfl
   ·rcases h d (KZ _ K_) with rfl|rfl<;>rfl
   ·rfl
 unfold based;rw[e];rfl
theorem wJ{cs:List Nat}(h:vO cs)(h0:cs≠[]):(int_private% "readNumeral") 0 2 cs=(int_private% "Numeral.value") (ka cs:Int):=by
 rw[readNumeral_eq,nr h,x6 h];show judge 0 false (based 2 cs).1 (based 2 cs).2.1 (digits? (based 2 cs).1 (((based 2 cs).2.2.reverse.dropWhile blank).reverse))=_;rw[uI h];show judge 0 false 2 false (digits? 2 ((cs.reverse.dropWhile blank).reverse))=_;rw[nr (cs:=cs.reverse) (fun c hc=>h c (N6.mp hc)),N5];obtain⟨ds,e1,e2⟩:=Ct cs #[] false h;have e3:digits? 2 cs=some ds:=by
  unfold digits?;rw[e1]
  cases cs with
  |nil=>exact absurd rfl h0
  |cons=>rfl
 rw[e3];show (int_private% "Numeral.value") ((ds.foldl (fun acc d=>acc*2+d) 0:Nat):Int)=_;rw[e2];rfl
theorem nQ:∀{cs:List Nat},vO cs->cs.takeWhile (· != 0)=cs
 |[],_=>rfl
 |c::cs,h=>by
  rw[O4,show (c != 0)=true by rcases h c K_ with rfl|rfl<;>rfl,Li rfl,nQ fun x hx=>h x (KZ _ hx)]
theorem wM{M:Model}{A:Around}{v:Value}{text:List Nat}{n:Int}
  (hs:(text.takeWhile (· != 0)).length<=640) (hr:(int_private% "readNumeral") 0 2 (text.takeWhile (· != 0))=(int_private% "Numeral.value") n)
  (ha:((text.takeWhile (· != 0)).length == text.length)=true) (h:Q (.int n s.toks) {s with toks:=s.toks+1}) :
  wpAny M A ((int_private% "intFromText") v text 2) Q E s:=by
 obtain⟨hp,g,d,tk,os⟩:=s
 repeat (any_goals (first
  |assumption
  | (with_reducible refine OE (LG hs) ?_)
  | (with_reducible refine OE (LG ha) ?_)
  |wp_step))
 all_goals (try rw[hr])
 all_goals (try dsimp only)
 repeat (any_goals (first
  |assumption
  | (with_reducible refine OE (LG hs) ?_)
  | (with_reducible refine OE (LG ha) ?_)
  |wp_step))
theorem n8{u t:Tok}(hl:x.length<=640)(hb:vO x.cps.toList)(h0:x.cps.toList≠[]):Gives (Builtin.«int.__new__» ⟨[.type "int",.str x u,.int 2 t],[]⟩) (.int (ka x.cps.toList)):=
 .of_wp fun M A E s Q h=>by
  obtain⟨hp,g,d,tk,os⟩:=s;have f1:=F.conv_sub_int;have f2:=F.madeHere_int;have f6:typeOf (.str x u)=pure (.type "str"):=rfl;have ht:x.cps.all (· < 128)=true:=by
   rw[<- Array.all_toList,Mj];intro c hc;rcases hb c hc with rfl|rfl<;>rfl
  have hs:=nQ hb;have hk:=PySem.W.KIN.Hid.mk (And.intro (show (x.cps.toList.takeWhile (· != 0)).length<=640 by rw[hs];exact hl) (And.intro (show (int_private% "readNumeral") 0 2 (x.cps.toList.takeWhile (· != 0))=(int_private% "Numeral.value") (ka x.cps.toList:Int) by rw[hs];exact wJ hb h0) (show ((x.cps.toList.takeWhile (· != 0)).length == x.cps.toList.length)=true by rw[hs];simp)))
  clear hs hl hb h0
  repeat (any_goals (first
   |assumption
   | ((with_reducible show wpAny _ _ ((int_private% "intFromText") _ _ _) _ _ _);(try rw[Li ht]);refine wM hk.out.1 hk.out.2.1 hk.out.2.2 ?_)
   |wp_step))
  all_goals first|exact⟨_,rfl,h⟩|skip
theorem jP(a b:Value):checkTypeCall "int" ⟨[a,b],[]⟩=pure ():=by kernel_rfl
theorem kl(a b:Value):checkBuiltinCall "int.__new__" ⟨[.type "int",a,b],[]⟩=pure ():=by kernel_rfl
theorem qE{A:Around}{u t:Tok}(hl:x.length<=640)(hb:vO x.cps.toList)(h0:x.cps.toList≠[])(h:Q (.int (ka x.cps.toList) s.toks) {s with toks:=s.toks+1}):wpAny (model prog w) A (call (.type "int") [.str x u,.int 2 t]) Q E s:=
 O_ F.called_int F.newNe_int (jP _ _) (kl _ _) (fun obj=>F.args_object_init_3 obj _ _) F.entry_int_new (n8 hl hb h0).meets (show (Made.int _).post _ s from⟨rfl,h⟩)
noncomputable def Cs:List V->Hp->VK->Prop:=fun xs H Q=>∃ z:Str,xs=[.str z,.int 2]/\z.length<=640/\vO z.cps.toList/\z.cps.toList≠[]/\Q (.int (ka z.cps.toList)) H
theorem kH:aQ X (.type "int") Cs:=by
 intro pins s σ H xs us Q I r h;obtain⟨z,rfl,h1,h2,h3,q⟩:=h;obtain⟨u,v,rfl,⟨t,rfl⟩,⟨t',rfl⟩⟩:=vals2 r;exact qE h1 h2 h3 ⟨.int _,H,I.tok _,⟨_,rfl⟩,q⟩
namespace Y
noncomputable def n9:UC:=fun rs μ Q=>match rs with
 |[.tr (.str z),.tr (.int 2)]=>z.length<=640/\vO z.cps.toList/\z.cps.toList≠[]/\Q (.tr (.int (ka z.cps.toList))) μ
 |_=>False
theorem rH:RC K Cs n9:=fun F ad B σ H μ Q Qt xs rs hK l p q k=>by
 unfold n9 at q
 split at q
 ·obtain⟨_,_,rfl,h1,p⟩:=Paired.aO p;obtain⟨_,_,rfl,h2,p⟩:=Paired.aO p;obtain rfl:=Paired.eV p
  cases aL h1
  cases aL h2
  obtain⟨a1,a2,a3,q⟩:=q;exact⟨_,rfl,a1,a2,a3,k _ H _ μ (Vr.flat l (.int _)) Fr.refl (Kp.refl μ) q⟩
 ·exact q.elim
end Y
namespace A
theorem n9(z:Str)(μ:Mu)(Q:R->Mu->Prop):Y.n9 [.tr (.str z),.tr (.int 2)] μ Q=(z.length<=640/\vO z.cps.toList/\z.cps.toList≠[]/\Q (.tr (.int (ka z.cps.toList))) μ):=rfl
end A
noncomputable def A7:T->Option (List T)
 |.tup ts=>some ts
 |.dq ts=>some ts
 |_=>none
namespace Y
noncomputable def Bi(us:UA):UI:=fun μ Rt=>us μ fun rs μ'=>match rs with
 |[.tr t]=>(match A7 t with
  |some ts=>Rt (pairs ts) none μ'
  |none=>False)
 |_=>False
theorem GR{us:UA}{pos:Pos}(K:Qf)(hK:X.K=K){k:Nat}{tp:Pos}(hg:Gl X "enumerate")(hm:X.mg "enumerate"=none)(ha:YA X [e] us)(h1:autoParam (cL e=true) ℜ0):YI X (.Tuple es k tp) (.Call (.Name "enumerate" p) [e] [] pos) (Bi us):=by
 obtain⟨t,q,r⟩:=ha;refine⟨_,Z.enum K hK hg hm q h1,fun F ad B σ H μ R Rt hF l q k=>r F ad B σ H μ _ _ hF l q fun vs H' rs μ' l1 ps f k1 q1=>?_⟩;have hF':F.K=K:=hF.trans hK
 split at q1
 ·rename_i t
  split at q1
  ·rename_i ts et;obtain⟨_,_,rfl,h1,ps⟩:=Paired.aO ps;obtain rfl:=Paired.eV ps;have rp:=aL h1;have sr:∀ H B v,Rep F.K H B v t->∃ a vs,v=.ref a/\bL X.K H a vs/\aj X.K H B vs ts:=fun H B v h=>by
    rw[hF] at h
    cases t<;>simp only[A7,Option.some.injEq,reduceCtorEq] at et
    ·subst et;obtain⟨_,_,rfl,n,h,r⟩:=Rep.tupI h;exact⟨_,_,rfl,bL.of h,r⟩
    ·subst et;obtain⟨_,_,rfl,h,r⟩:=Rep.qM h;exact⟨_,_,rfl,.inr h,r⟩
   obtain⟨a,vs,rfl,h,rr⟩:=sr _ _ _ rp;refine⟨a,rfl,⟨vs,by rw[<- hK];exact h⟩,?_⟩
   have:=k (v_ X.K a) H' μ' (pairs ts) none (fun H B=>Rep F.K H B (.ref a) t) l1 f k1 (wK.imp fun H B h=>by obtain⟨a',vs,e,h2,h3⟩:=sr H B _ h;cases e;exact⟨vs,h2,h3⟩) rp (fun B1 H1 B2 H2 f h=>h.fr f) (fun j ls z=>by cases z) q1
   rw[hK] at this;exact this
  ·exact q1.elim
 ·exact q1.elim
end Y
namespace A
theorem Bi(us:UA)(μ:Mu)(Rt:List T->Option (Nat×List T)->Mu->Prop):Y.Bi us μ Rt=us μ fun rs μ'=>match rs with
 |[.tr t]=>(match A7 t with
  |some ts=>Rt (pairs ts) none μ'
  |none=>False)
 |_=>False:=rfl
end A
noncomputable def Iu(ks:List Int)(us:List T):List T:=List.zipWith (fun k u=>T.tup [.int k,u]) ks us
theorem j0:∀{ks:List Int} {us:List T} {vs:List V},ks.length=us.length->aj K H B vs (Iu ks us)->∃ xs:List V,xs.length=ks.length/\aj K H B xs us/\qV K H vs ((ks.map (Sum.inl:Int->Key)).zip xs)
 |[],[],vs,_,r=>by cases r;exact⟨[],rfl,.nil,rfl,fun j k x e=>by cases e⟩
 |[],_::_,_,h,_=>by cases h
 |_::_,[],_,h,_=>by cases h
 |k::ks,u::us,vs,h,r=>by
  cases r with
  |cons r0 rr =>
   obtain⟨xs,h1,h2,h3,h4⟩:=j0 (Nat.succ.inj h) rr
   cases r0 with
   |tup n0 ha ra =>
    cases ra with
    |cons rk ra =>
     cases rk
     cases ra with
     |cons ru ra =>
      cases ra;refine⟨_::xs,by rw[Lf,Lf,h1],.cons ru h2,by simpa using h3,fun j kk x e=>?_⟩
      cases j with
      |zero=>cases e;exact⟨_,rfl,ha⟩
      |succ j =>
       obtain⟨p,e1,e2⟩:=h4 j kk x (by simpa using e)
       exact⟨p,by simpa using e1,e2⟩
namespace Y
noncomputable def iY:T->Mu->(R->Mu->Prop)->Prop:=fun t μ Q=>match t with
 |.lst ts=>∃(ks:List Int) (us:List T),ts=Iu ks us/\ks.length=us.length/\ks.Nodup/\ks.length<=1000/\Q (.fr (.ig (ks.map .inl) us)) μ
 |_=>False
theorem x_:RC K (pW K) (vq iY):=iq fun F ad B σ H μ Q Qt x t hK l v1 q k=>by
 subst hK;unfold iY at q
 split at q
 ·obtain⟨ks,us,rfl,hl,hn,hz,q⟩:=q
  cases v1 with
  |lst ha ra =>
   obtain⟨xs,h1,h2,h3⟩:=j0 hl ra;refine⟨_,_,_,rfl,ha,h3,?_,fun p hp=>?_⟩
   ·rw[ND,Lb];lia
   ·have hm:fN [] ((ks.map (Sum.inl:Int->Key)).zip xs)=(ks.map (Sum.inl:Int->Key)).zip xs:=by
     rw[kq _ [] ?_,Mg];rw[Mg,Pj (by rw[Lb];lia)]
     exact List.Pairwise.map _ (fun a b h z=>h (Sum.inl.inj z)) hn
    rw[hm];exact k _ _ (.fr (.ig (ks.map .inl) us)) ⟨l.same (bB.new hp),p,rfl,l.p7 hp,l.ym hp,l.new hp,_,aq,by rw[Lb];lia,h2.fr (Fr.more hp) ⟩ (Fr.more hp) q
 ·exact q.elim
noncomputable def sR(uo ui:UE):UE:=fun μ Q=>uo μ fun r1 μ1=>ui μ1 fun r2 μ2=>match cont μ2 r1.d,r2 with
 |some (.ig ks ts),.tr (.int k)=>(match cR (.inl k) ks ts with
  |some t=>Q (.tr t) μ2
  |none=>False)
 |_,_=>False
theorem Je{o i:Expr}{uo ui:UE}{pos:Pos}(hu:X.A.units+1<cLine)(ho:YE X o uo)(hi:YE X i ui)(hs:yD i:=by trivial):YE X (.Subscript o i pos) (sR uo ui):=by
 obtain⟨t,q,rr⟩:=ho;obtain⟨t',q',r'⟩:=hi;refine⟨_,⟨AM hu q.h q'.h hs⟩,fun F ad B σ H μ Q Qt hF l q k=>rr F ad B σ H μ _ _ hF l q fun v H1 r1 μ1 v1 f1 k1 q1=>r' F ad B σ H1 μ1 _ _ hF v1.rl q1 fun v2 H2 r2 μ2 w2 f2 k2 q2=>?_⟩
 split at q2
 ·rename_i ks ts z e1
  split at q2
  ·rename_i t0 e2;have l2:=w2.rl;have hv:=(v1.hv.fr f2.d k2).vw l2 e1;have rp:Rep F.K H2 B v2 (.int z):=w2.hv;cases rp
   cases hv with
   |ig h ll r =>
    obtain⟨v,hv,rv⟩:=(aj.look (k:=.inl z) (ks:=ks) r).1 t0 e2;exact⟨_,v,rfl,.inl ⟨_,.inl z,h,rfl,hv.symm⟩,k _ H2 (.tr t0) μ2 ⟨l2,rv⟩ (f1.d.trans f2.d) (k1.trans k2) q2⟩
  ·exact q2.elim
 ·exact q2.elim
noncomputable def oP(neg:Bool):T->T->Mu->(R->Mu->Prop)->Prop:=fun t u μ Q=>match t,u with
 |.int k,.ig ks ts=>Q (.tr (.bl (if neg then !(cR (.inl k) ks ts).isSome else (cR (.inl k) ks ts).isSome))) μ
 |_,_=>False
theorem AO{neg:Bool}:ic K (CB neg) (qW (oP neg)):=eN fun F ad B σ H μ Q Qt x y t u hK l v1 v2 q k=>by
 unfold oP at q
 split at q
 ·rename_i z ks ts;cases v1
  cases v2 with
  |ig h ll r =>
   obtain⟨h1,h2⟩:=aj.look (k:=.inl z) (ks:=ks) r;refine⟨_,_,rfl,.inl ⟨_,.inl z,h,rfl,rfl⟩,?_⟩
   cases hl:cR (.inl z) ks ts with
   |none =>
    rw[h2 ll hl];rw[hl] at q;exact k _ H _ (Vr.flat l (.bl _)) Fr.refl q
   |some t0 =>
    obtain⟨v,hv,_⟩:=h1 t0 hl;rw[hv];rw[hl] at q;exact k _ H _ (Vr.flat l (.bl _)) Fr.refl q
 ·exact q.elim
end Y
namespace A
theorem sR(uo ui:UE)(μ:Mu)(Q:R->Mu->Prop):Y.sR uo ui μ Q=uo μ fun r1 μ1=>ui μ1 fun r2 μ2=>match cont μ2 r1.d,r2 with
 |some (.ig ks ts),.tr (.int k)=>(match cR (.inl k) ks ts with
  |some t=>Q (.tr t) μ2
  |none=>False)
 |_,_=>False:=rfl
theorem oP(neg:Bool)(k:Int)(ks:List Key)(ts:List T)(μ:Mu)(Q:R->Mu->Prop):Y.oP neg (.int k) (.ig ks ts) μ Q=Q (.tr (.bl (if neg then !(cR (.inl k) ks ts).isSome else (cR (.inl k) ks ts).isSome))) μ:=rfl
theorem iY(ts:List T)(μ:Mu)(Q:R->Mu->Prop):Y.iY (.lst ts) μ Q=(∃(ks:List Int) (us:List T),ts=Iu ks us/\ks.length=us.length/\ks.Nodup/\ks.length<=1000/\Q (.fr (.ig (ks.map .inl) us)) μ):=rfl
end A
abbrev Src:=Bool×Addr×Addr
variable{q:Src}
abbrev eK(h:Heap)(T:Addr)(xs:List Value):Prop:=h.get? T=some {cls:=.type "tuple",data:=.seq xs.toArray}
structure Zn (z TI TO:Addr) (S:List Src):Prop where
 zt:TI≠z/\TO≠z/\TI≠TO
 it:∀ q∈S,q.2.1≠z/\q.2.1≠TI/\q.2.1≠TO
 sr:∀ q∈S,q.2.2≠z/\q.2.2≠TO/\∀ p∈S,q.2.2≠p.2.1
 nd:(S.map fun q=>q.2.1).Nodup
noncomputable def p8(i:Nat)(h:Heap)(q:Src):Prop:=j7 q.1 h q.2.1 q.2.2 i
noncomputable def Cq(h:Heap)(q:Src)(xs:Array Value):Prop:=bK q.1 h q.2.2 xs
theorem p8.kp(x:p8 i h q)(k:∀ o,h.get? q.2.1=some o->h'.get? q.2.1=some o):p8 i h' q:=by
 obtain⟨b,it,a⟩:=q
 cases b with
 |true=>obtain⟨o,e,r⟩:=(show h.IsListIter it a i from x);exact⟨o,k o e,r⟩
 |false=>obtain⟨o,e,r⟩:=(show h.IsTupleIter it a i from x);exact⟨o,k o e,r⟩
theorem Cq.kp(x:Cq h q xs)(k:∀ o,h.get? q.2.2=some o->h'.get? q.2.2=some o):Cq h' q xs:=by
 obtain⟨b,it,a⟩:=q
 cases b with
 |true=>obtain⟨o,e,r⟩:=(show h.IsList a xs from x);exact⟨o,k o e,r⟩
 |false=>obtain⟨o,e,r⟩:=(show h.IsTuple a xs from x);exact⟨o,k o e,r⟩
noncomputable def ni(i:Nat)(h:Heap)(q:Src)(u:Value):Prop:=p8 i h q/\∃ xs,Cq h q xs/\xs[i]?=some u
theorem ni.kp{u:Value}(x:ni i h q u)(k:∀ c o,c=q.2.1\/c=q.2.2->h.get? c=some o->h'.get? c=some o):ni i h' q u:=⟨x.1.kp fun o=>k _ o (.inl rfl),let ⟨xs,a,b⟩:=x.2;⟨xs,a.kp fun o=>k _ o (.inr rfl),b⟩⟩
section
variable {prog:Program} {w:World} {A:Around} {E:Value->Shared->Prop} {z TI TO:Addr} {S:List Src} {i:Nat}
noncomputable def Step(prog:Program)(w:World)(A:Around)(E:Value->Shared->Prop)(z TI TO:Addr)(S:List Src)(i:Nat)(f:Value×Nat->β->Sem (ForInStep β))(b:β):Prop:=
 ∀ q∈S,∀(j:Nat) (arr:List Value) (u:Value) (s:Shared) (Q:ForInStep β->Shared->Prop),IsZip s.heap z TI TO .ellipsis->eK s.heap TO arr->arr.length<=3->ni i s.heap q u ->
  (∀ h' tk,eK h' TO (arr.set j u)->p8 (i+1) h' q->(∀ c o,c≠TO->c≠q.2.1->s.heap.get? c=some o->h'.get? c=some o)->h'.objs.size=s.heap.objs.size->Q (.yield b) {s with heap:=h',toks:=tk})->wpAny (model prog w) A (f (.ref q.2.1,j) b) Q E s
theorem AV(D:Zn z TI TO S){f:Value×Nat->β->Sem (ForInStep β)}{b:β}(hf:Step prog w A E z TI TO S i f b):
  ∀(todo:List Src) (us pre old:List Value) (s:Shared) (Q:β->Shared->Prop),(∀ q∈todo,q∈S)->(todo.map fun q=>q.2.1).Nodup->IsZip s.heap z TI TO .ellipsis->eK s.heap TO (pre++old)->(pre++old).length<=3->old.length=todo.length->Paired (ni i s.heap) todo us ->
  (∀ h' tk,IsZip h' z TI TO .ellipsis->eK h' TO (pre++us)->(∀ q∈todo,p8 (i+1) h' q)->(∀ c o,c≠TO->(∀ q∈todo,c≠q.2.1)->s.heap.get? c=some o->h'.get? c=some o)->h'.objs.size=s.heap.objs.size->Q b {s with heap:=h',toks:=tk}) ->
  wpAny (model prog w) A (forIn ((todo.map fun q=>Value.ref q.2.1).zipIdx pre.length) b f) Q E s:=by
 intro todo
 induction todo with
 |nil =>
  intro us pre old s Q _ _ hz ht _ hl dr k;obtain rfl:=Paired.mM dr;have e:old=[]:=Ng.mp hl;subst e;rw[Nu,List.zipIdx_nil,List.forIn_nil];exact Lh (k s.heap s.toks hz ht (fun q hq=>(nomatch hq)) (fun c o _ _ h=>h) rfl)
 |cons q todo ih =>
  intro us pre old s Q hm nd hz ht hn hl dr k;obtain⟨u,us,rfl,du,dr⟩:=Paired.fb dr
  cases old with
  |nil=>cases hl
  |cons o old =>
   rw[L3,LP] at nd;have hq:=hm q K_;rw[L3,Pl,Ov];refine KU (hf q hq pre.length _ u s _ hz ht hn du fun h1 tk t1 a1 kp sz=>?_);rw[Oj _ _ (Lj _),NL,NN,<- PJ,<- Ls] at t1;have di:=D.it q hq;have z1:IsZip h1 z TI TO .ellipsis:=kp _ _ D.zt.2.1.symm di.1.symm hz;show wpAny _ _ (forIn _ b f) _ _ _;rw[show pre.length+1=(pre++[u]).length by rw[KY];rfl]
   refine ih us (pre++[u]) old {s with heap:=h1,toks:=tk} Q (fun p hp=>hm p (KZ _ hp)) nd.2 z1 t1 (by rw[Ls,KY] at *;exact hn) (Nat.succ.inj hl) ?_ fun h2 tk2 z2 t2 a2 kp2 sz2=>?_
   ·have key:∀{l:List Src} {vs:List Value},(∀ p∈l,p∈q::todo)->(∀ p∈l,p.2.1≠q.2.1)->Paired (ni i s.heap) l vs->Paired (ni i h1) l vs:=fun {l}=>by
     induction l with
     |nil=>intro vs _ _ h;obtain rfl:=Paired.mM h;exact .nil
     |cons p l ihl =>
      intro vs hp hne h;obtain⟨v,vs,rfl,dv,h⟩:=Paired.fb h;have hpS:=hm p (hp p K_);refine .cons (dv.kp fun c o hc e=>?_) (ihl (fun x hx=>hp x (KZ _ hx)) (fun x hx=>hne x (KZ _ hx)) h);rcases hc with rfl|rfl
      ·exact kp _ _ (D.it p hpS).2.2 (hne p K_) e
      ·exact kp _ _ (D.sr p hpS).2.1 ((D.sr p hpS).2.2 q hq) e
    exact key (fun p hp=>KZ _ hp) (fun p hp e=>nd.1 (by rw[<- e];exact ME (f:=fun q:Src=>q.2.1) hp)) dr
   ·refine k h2 tk2 z2 (by rw[Ls] at t2;exact t2) (fun p hp=>?_) (fun c o c1 c2 e=>kp2 c o c1 (fun p hp=>c2 p (KZ _ hp)) (kp c o c1 (c2 q K_) e)) (sz2.trans sz)
    rcases Le.mp hp with rfl|hp
    ·exact a1.kp fun o e=>kp2 _ o di.2.2 (fun x hx e2=>nd.1 (by rw[e2];exact ME (f:=fun q:Src=>q.2.1) hx)) e
    ·exact a2 p hp
noncomputable def Gh(prog:Program)(w:World)(A:Around)(E:Value->Shared->Prop)(z TI TO:Addr)(S:List Src)(i:Nat)(f:Value×Nat->β->Sem (ForInStep β))(b:β):Prop:=
 ∀ q∈S,∀(j:Nat) (s:Shared) (Q:ForInStep β->Shared->Prop),IsZip s.heap z TI TO .ellipsis->p8 i s.heap q->(∃ xs:Array Value,Cq s.heap q xs/\xs.size=i) ->
  (∀ h' e tk,(∀ c o,c≠z->c≠q.2.1->s.heap.get? c=some o->h'.get? c=some o)->(∃ o,h'.get? e=some o/\o.cls=.type "StopIteration")->E (.ref e) {s with heap:=h',toks:=tk})->wpAny (model prog w) A (f (.ref q.2.1,j) b) Q E s
theorem zK(D:Zn z TI TO S){f:Value×Nat->β->Sem (ForInStep β)}{b:β}(hf:Step prog w A E z TI TO S i f b)(he:Gh prog w A E z TI TO S i f b){r:List Src}:
  ∀(a:List Src) (us pre old:List Value) (s:Shared) (Q:β->Shared->Prop),(∀ p∈a++q::r,p∈S)->((a++q::r).map fun q=>q.2.1).Nodup->IsZip s.heap z TI TO .ellipsis->eK s.heap TO (pre++old)->(pre++old).length<=3->a.length<old.length->Paired (ni i s.heap) a us->p8 i s.heap q->(∃ xs:Array Value,Cq s.heap q xs/\xs.size=i) ->
  (∀ h' e tk,(∀ c o,c≠z->c≠TO->(∀ q∈S,c≠q.2.1)->s.heap.get? c=some o->h'.get? c=some o)->(∃ o,h'.get? e=some o/\o.cls=.type "StopIteration")->E (.ref e) {s with heap:=h',toks:=tk}) ->
  wpAny (model prog w) A (forIn (((a++q::r).map fun q=>Value.ref q.2.1).zipIdx pre.length) b f) Q E s:=by
 intro a
 induction a with
 |nil =>
  intro us pre old s Q hm nd hz ht hn hl dr hi hx k;have hq:=hm q K_;rw[Mg,L3,Pl,Ov];exact KU (he q hq _ s _ hz hi hx fun h' e tk kp ho=>k h' e tk (fun c o c1 _ c3 x=>kp c o c1 (c3 q hq) x) ho)
 |cons p a ih =>
  intro us pre old s Q hm nd hz ht hn hl dr hi hx k;obtain⟨u,us,rfl,du,dr⟩:=Paired.fb dr
  cases old with
  |nil=>exact absurd hl (Nat.not_lt_zero _)
  |cons o old =>
   rw[Mw,L3,LP] at nd;have hp:=hm p K_;rw[Mw,L3,Pl,Ov];refine KU (hf p hp pre.length _ u s _ hz ht hn du fun h1 tk t1 a1 kp sz=>?_);rw[Oj _ _ (Lj _),NL,NN,<- PJ,<- Ls] at t1;have z1:IsZip h1 z TI TO .ellipsis:=kp _ _ D.zt.2.1.symm (D.it p hp).1.symm hz;have ne:∀ x∈a++q::r,x.2.1≠p.2.1:=fun x hx e=>nd.1 (by rw[<- e];exact ME (f:=fun q:Src=>q.2.1) hx)
   have up:∀ x∈a++q::r,∀ c o,c=x.2.1\/c=x.2.2->s.heap.get? c=some o->h1.get? c=some o:=fun x hx c o hc e=>by
    have hxS:=hm x (KZ _ hx);rcases hc with rfl|rfl
    ·exact kp _ _ (D.it x hxS).2.2 (ne x hx) e
    ·exact kp _ _ (D.sr x hxS).2.1 ((D.sr x hxS).2.2 p hp) e
   have hqm:q∈a++q::r:=Lw _ K_;show wpAny _ _ (forIn _ b f) _ _ _;rw[show pre.length+1=(pre++[u]).length by rw[KY];rfl]
   refine ih us (pre++[u]) old {s with heap:=h1,toks:=tk} Q (fun x hx=>hm x (KZ _ hx)) nd.2 z1 t1 (by rw[Ls,KY] at *;exact hn) (Nat.lt_of_succ_lt_succ hl) ?_ (hi.kp fun o=>up q hqm _ o (.inl rfl)) (let ⟨xs,x1,x2⟩:=hx;⟨xs,x1.kp fun o=>up q hqm _ o (.inr rfl),x2⟩) fun h2 e tk2 kp2 ho=>k h2 e tk2 (fun c o c1 c2 c3 x=>kp2 c o c1 c2 c3 (kp c o c2 (c3 p hp) x)) ho
   have key:∀{l:List Src} {vs:List Value},(∀ x∈l,x∈a)->Paired (ni i s.heap) l vs->Paired (ni i h1) l vs:=fun {l}=>by
    induction l with
    |nil=>intro vs _ h;obtain rfl:=Paired.mM h;exact .nil
    |cons y l ihl =>
     intro vs hy h;obtain⟨v,vs,rfl,dv,h⟩:=Paired.fb h;exact .cons (dv.kp (up y (M5 _ (hy y K_)))) (ihl (fun x hx=>hy x (KZ _ hx)) h)
   exact key (fun x h=>h) dr
theorem BL(D:Zn z TI TO S){f:Value×Nat->β->Sem (ForInStep β)}{b:β}(hf:Step prog w A E z TI TO S i f b)(he:Gh prog w A E z TI TO S i f b){old:List Value}{Q:β->Shared->Prop}(hz:IsZip s.heap z TI TO .ellipsis)(ht:eK s.heap TO old)(hn:old.length<=3)(hl:old.length=S.length)
  (hh:(∃ us,Paired (ni i s.heap) S us/\∀ h' tk,IsZip h' z TI TO .ellipsis->eK h' TO us->(∀ q∈S,p8 (i+1) h' q)->(∀ c o,c≠TO->(∀ q∈S,c≠q.2.1)->s.heap.get? c=some o->h'.get? c=some o)->h'.objs.size=s.heap.objs.size->Q b {s with heap:=h',toks:=tk}) \/
   ∃ a q r us,S=a++q::r/\Paired (ni i s.heap) a us/\p8 i s.heap q/\(∃ xs:Array Value,Cq s.heap q xs/\xs.size=i)/\∀ h' e tk,(∀ c o,c≠z->c≠TO->(∀ q∈S,c≠q.2.1)->s.heap.get? c=some o->h'.get? c=some o)->(∃ o,h'.get? e=some o/\o.cls=.type "StopIteration")->E (.ref e) {s with heap:=h',toks:=tk}) :
  wpAny (model prog w) A (forIn ((S.map fun q=>Value.ref q.2.1).zipIdx) b f) Q E s:=by
 rcases hh with ⟨us,dr,k⟩|⟨a,q,r,us,rfl,dr,hi,hx,k⟩
 ·exact AV D hf S us [] old s Q (fun q h=>h) D.nd hz ht hn hl dr k
 ·exact zK D hf he a us [] old s Q (fun q h=>h) D.nd hz ht hn (by rw[show old.length=_ from hl,KY,Lf];lia) dr hi hx k
theorem Ia{T:Addr}{xs:List Value}{x:Value}{k:Nat}{Q:Unit->Shared->Prop}(hT:eK s.heap T xs)(hn:xs.length<=3)
  (h:∀ h',eK h' T (xs.set k x)->Heap.SameBut T s.heap h'->Q () {s with heap:=h'}) :
  wpAny (model prog w) A (updateSeq T (·.setIfInBounds k x)) Q E s:=by
 refine wpAny_updateSeq (hz:=by rw[Ld];exact Lk hn (by decide)) (_hz':=by rw[Array.size_setIfInBounds,Ld];exact Lk hn (by decide)) hT rfl (h _ ?_ (Mo ..))
 show Heap.get? _ _=_;rw[Nv _ hT rfl];simp[Obj.mapSeq]
theorem eX{P:α->β->Prop}:∀{l:List α} {vs:List β},Paired P l vs->vs.length=l.length
 |_,_,.nil=>rfl
 |_,_,.cons _ h=>L0 (·+1) (eX h)
theorem lU{g:Heap}:∀{l:List Src} {vs:List Value},(∀ q∈l,∀ c o,c=q.2.1\/c=q.2.2->h.get? c=some o->g.get? c=some o)->Paired (ni i h) l vs->Paired (ni i g) l vs
 |_,_,_,.nil=>.nil
 |_,_,k,.cons d r=>.cons (d.kp (k _ K_)) (lU (fun q hq=>k q (KZ _ hq)) r)
theorem Hn{old:List Value}(D:Zn z TI TO S)(hS:S≠[])(hA:A.handled=none)(hz:IsZip s.heap z TI TO .none)(hTI:eK s.heap TI (S.map fun q=>.ref q.2.1))(hTO:eK s.heap TO old)(hl:old.length=S.length)(hn:S.length<=3)
  (hh:(∃ us,Paired (ni i s.heap) S us/\∀ h' tk,IsZip h' z TI TO (rawInt s.heap.objs.size)->eK h' TO us->(∀ q∈S,p8 (i+1) h' q)->eK h' s.heap.objs.size us->(∀ c o,c≠z->c≠TO->(∀ q∈S,c≠q.2.1)->s.heap.get? c=some o->h'.get? c=some o)->Q (.ref s.heap.objs.size) {s with heap:=h',toks:=tk}) \/
   ∃ a q r us,S=a++q::r/\Paired (ni i s.heap) a us/\p8 i s.heap q/\(∃ xs:Array Value,Cq s.heap q xs/\xs.size=i)/\∀ h' e tk,(∀ c o,c≠z->c≠TO->(∀ q∈S,c≠q.2.1)->s.heap.get? c=some o->h'.get? c=some o)->(∃ o,h'.get? e=some o/\o.cls=.type "StopIteration")->E (.ref e) {s with heap:=h',toks:=tk}) :
  wpAny (model prog w) A (Builtin.«zip.__next__» ⟨[.ref z],[]⟩) (fun fin s'=>∃ v,fin=.done (.ret v)/\Q v s') E s:=by
 obtain⟨q0,S',rfl⟩:=List.exists_cons_of_ne_nil hS;have zrec:=hz;show wpAny _ _ (field (.ref z) 2 >>= _) _ _ _;refine KU (Nq zrec rfl (x:=.bool false) rfl ?_);show wpAny _ _ (field (.ref z) 3 >>= _) _ _ _;refine KU (Nq zrec rfl (x:=.ref TI) rfl ?_);refine KU (Nw hTI rfl ?_);show wpAny _ _ (Builtin.SmallTypes.ownedTupleIsFree (.ref z) >>= _) _ _ _;refine KU ?_;unfold Builtin.SmallTypes.ownedTupleIsFree;refine KU (Nq zrec rfl (x:=.none) rfl (Lh ?_));simp only[MV];refine KU (OQ ?_);refine KU (Nq zrec rfl (x:=.ref TO) rfl ?_);refine KU (NO zrec (by simp) fun g1 zr1 sb1=>?_)
 replace zr1:IsZip g1 z TI TO .ellipsis:=zr1
 refine KU ?_;have old3:∀ q∈q0::S',∀ c o,c=q.2.1\/c=q.2.2->s.heap.get? c=some o->g1.get? c=some o:=fun q hq c o hc e=>by
  rcases hc with rfl|rfl
  ·exact sb1.extBut _ _ (D.it q hq).1 e
  ·exact sb1.extBut _ _ (D.sr q hq).1 e
 refine BL D (i:=i) ?hf ?he (old:=old) zr1 (sb1.extBut _ _ D.zt.2.1 hTO) (by lia) hl (hh.imp (fun⟨us,dr,hQ⟩=>⟨us,lU old3 dr,?k⟩) fun⟨a,q,r,us,eS,dr,hi,hx,hE⟩=>⟨a,q,r,us,eS,lU (fun p hp=>old3 p (by rw[eS];exact M5 _ hp)) dr,hi.kp fun o=>old3 q (by rw[eS];exact Lw _ K_) _ o (.inl rfl),(let ⟨xs,x1,x2⟩:=hx;⟨xs,x1.kp fun o=>old3 q (by rw[eS];exact Lw _ K_) _ o (.inr rfl),x2⟩),fun h' e tk kp ho=>hE h' e tk (fun c o c1 c2 c3 x=>kp c o c1 c2 c3 (sb1.extBut _ _ c1 x)) ho⟩)
 case hf =>
  intro q hq j arr u s1 Q1 hz1 ht1 hn1 d1 k1;obtain⟨hi,xs,hx,hu⟩:=d1;refine KU (wpAny_onRaise ?_);show wpAny _ _ (Builtin.SmallTypes.nextOf (.ref q.2.1) >>= _) _ _ _;have lt:i<xs.size:=(MN.mp hu).1;refine KU ((sI q.1 hA q.2.1 q.2.2 ((D.sr q hq).2.2 q hq) xs).item i _ _ _ lt ⟨hi,hx⟩ fun x g2 tk2 px st2 sb2=>Lh ?_);have ex:x=u:=by rw[hu] at px;exact (Option.some.inj px).symm
  subst ex;have to2:eK g2 TO arr:=sb2.extBut _ _ (D.it q hq).2.2.symm ht1;refine KU (Nw to2 rfl ?_);refine KU (Ia to2 hn1 fun g3 to3 sb3=>?_);refine KU (wpAny_letGo (Lh ?_));exact k1 g3 _ to3 (p8.kp (q:=q) st2.1 fun o e=>sb3.extBut _ _ (D.it q hq).2.2 e) (fun c o c1 c2 e=>sb3.extBut _ _ c1 (sb2.extBut _ _ c2 e)) (by rw[sb3.1,sb2.1])
 case he =>
  intro p hp j s1 Q1 hz1 hi1 hx1 k1;obtain⟨xs,hx1,hsz⟩:=hx1;refine KU (wpAny_onRaise ?_);show wpAny _ _ (Builtin.SmallTypes.nextOf (.ref p.2.1) >>= _) _ _ _;subst hsz;refine KU ((sI p.1 hA p.2.1 p.2.2 ((D.sr p hp).2.2 p hp) xs).done _ _ _ ⟨hi1,hx1⟩ fun g2 e sb2 he=>?_);obtain⟨oe,hoe,hce⟩:=he;have zr2:IsZip g2 z TI TO .ellipsis:=sb2 _ _ (D.it p hp).1.symm hz1;have nez:e≠z:=fun q=>by subst q;rw[zr2] at hoe;cases hoe;simp at hce
  exact NO zr2 (by simp) fun g3 _ sb3=>k1 g3 e _ (fun c o e1 e3 q=>sb3.extBut _ _ e1 (sb2 _ _ e3 q)) ⟨oe,sb3.extBut _ _ nez hoe,hce⟩
 case k =>
  intro g2 tk z2 t2 a2 kp2 sz2;have hu3:us.length<=3:=by rw[eX dr];exact hn
  replace t2:eK g2 TO us:=t2
  show wpAny _ _ (seqItems? (.ref TO) >>= _) _ _ _;refine KU (Nw t2 rfl ?_);refine KU (PF ?_ (Lk hu3 (by decide)))
  have size2:g2.objs.size=s.heap.objs.size:=sz2.trans sb1.1;have zlt:z<g2.objs.size:=Lm z2;show wpAny _ _ (Builtin.SmallTypes.ownedTupleHandOut (.ref z) (.ref g2.objs.size) >>= _) _ _ _;refine KU ?_;unfold Builtin.SmallTypes.ownedTupleHandOut;have zr6:IsZip (g2.push {cls:=.type "tuple",data:=.seq us.toArray}) z TI TO .ellipsis:=La _ z2;refine KU (NO zr6 (by simp) fun g8 zr8 sb8=>?_)
  replace zr8:IsZip g8 z TI TO (rawInt g2.objs.size):=zr8
  refine NO zr8 (by simp) fun g9 zr9 sb9=>?_
  replace zr9:IsZip g9 z TI TO (rawInt g2.objs.size):=zr9
  have up:∀ c o,c≠z->g2.get? c=some o->g9.get? c=some o:=fun c o e1 q=>sb9.extBut _ _ e1 (sb8.extBut _ _ e1 (La _ q));have pr8:eK g9 g2.objs.size us:=sb9.extBut _ _ (M6 zlt) (sb8.extBut _ _ (M6 zlt) (Lq _ rfl));rw[size2] at zr9 pr8;refine Lh ⟨_,rfl,?_⟩;show Q (.ref g2.objs.size) _;rw[size2];exact hQ g9 _ zr9 (up _ _ D.zt.2.1 t2) (fun q hq=>(a2 q hq).kp fun o e=>up _ o (D.it q hq).1 e) pr8 fun c o e1 e2 e3 q=>up c o e1 (kp2 c o e2 e3 (sb1.extBut _ _ e1 q))
end
noncomputable def Gy(K:Qf)(S:List Src):It:=
  ⟨fun i H=>∃ vs,Paired (fun (q:Src) v=>∃ xs,i4 K q.1 H q.2.2 xs/\xs[i]?=some v) S vs,
   fun i H v H'=>∃ p vs,Paired (fun (q:Src) x=>∀ xs,i4 K q.1 H q.2.2 xs->xs[i]?=some x) S vs/\H p=none/\v=.ref p/\H'=upd H p (.tup vs),
   fun i H=>∃ a q r vs,S=a++q::r/\Paired (fun (q:Src) v=>∃ xs,i4 K q.1 H q.2.2 xs/\xs[i]?=some v) a vs/\∃ xs,i4 K q.1 H q.2.2 xs/\xs.length=i⟩
section
variable {X:Cx} {pins:List (Addr×Obj)} {σ:St} {H:Hp} {s:Shared} {i:Nat}
theorem pO(I:Inv X pins σ H s):∀{l:List Src} {vs:List V},(∀ q∈l,p8 i s.heap q)->Paired (fun (q:Src) v=>∃ xs,i4 X.K q.1 H q.2.2 xs/\xs[i]?=some v) l vs->∃ us,Paired (ni i s.heap) l us/\Vals vs us/\Paired (fun (q:Src) x=>∀ xs,i4 X.K q.1 H q.2.2 xs->xs[i]?=some x) l vs
 |_,_,_,.nil=>⟨[],.nil,.nil,.nil⟩
 |q::l,v::vs,hi,.cons d r=>by
  obtain⟨us,h1,h2,h3⟩:=pO I (fun p hp=>hi p (KZ _ hp)) r;obtain⟨xs,hx,ex⟩:=d;obtain⟨its,rv,p1⟩:=I.n5 hx;obtain⟨u,hu,ru⟩:=rv.get ex;exact⟨u::us,.cons ⟨hi q K_,its.toArray,p1,by rw[My];exact hu⟩ h1,.cons ru h2,.cons (fun ys hy=>by rw[I.yA hy hx];exact ex) h3⟩
end
theorem uM{P:Program}{tk:Nat}{tp:Pos}(S:List Src)(z TI TO:Addr)(D:Zn z TI TO S)(hS:S≠[])(hn:S.length<=3):
  Turn P w K (.Tuple es tk tp) (Gy K S) (z::TI::TO::S.map fun q=>q.2.1) z (fun i h=>IsZip h z TI TO .none/\eK h TI (S.map fun q=>.ref q.2.1)/\(∃ old,eK h TO old/\old.length=S.length)/\∀ q∈S,p8 i h q) where
 mem:=K_
 obj:=fun i h st c hc=>by
  obtain⟨s1,s2,⟨old,s3,_⟩,s4⟩:=st;rcases Le.mp hc with rfl|hc
  ·exact⟨_,s1,fun v q=>by cases q⟩
  rcases Le.mp hc with rfl|hc
  ·exact⟨_,s2,fun v q=>by cases q⟩
  rcases Le.mp hc with rfl|hc
  ·exact⟨_,s3,fun v q=>by cases q⟩
  obtain⟨q,hq,rfl⟩:=L6.mp hc;obtain⟨o,e,_,d⟩:=j7.ty (s4 q hq);exact⟨o,e,fun v q=>by rw[d] at q;cases q⟩
 keep:=fun i h h' st k=>by
  obtain⟨s1,s2,⟨old,s3,s3'⟩,s4⟩:=st;exact⟨k z (by simp) _ s1,k TI (by simp) _ s2,⟨old,k TO (by simp) _ s3,s3'⟩,fun q hq=>(s4 q hq).kp (k _ (KZ _ (KZ _ (KZ _ (ME (f:=fun q:Src=>q.2.1) hq)))))⟩
 item:=by
  intro X hP hw hK hc i pins s σ H E I hf st hg;subst hP hw hK;obtain⟨vs,hg⟩:=hg;obtain⟨s1,s2,⟨old,s3,s3'⟩,s4⟩:=st;obtain⟨us,h1,h2,h3⟩:=pO I s4 hg;have hT:s.TypeIs (.ref z) "zip":=⟨_,s1,rfl⟩;unfold pyNext;refine KU (Oa (LZ (name:=Str.ofString "__next__") hT PySem.F.slot_zip_next (Mb PySem.F.slot_zip_next hT PySem.F.entry_zip_next
   (Hn D hS (I.ok.hd hc) s1 s2 s3 s3' hn (.inl ⟨us,h1,fun h' tk' z1 t1 a1 pr kp=>Lh ?_⟩)) (PySem.F.args_zip_next_1 _))))
  have fr:H s.heap.objs.size=none:=I.aJ.fresh (Lj _);have lt:∀{c o},s.heap.get? c=some o->s.heap.objs.size≠c:=fun e=>M6 (Lm e);refine⟨.ref s.heap.objs.size,rfl,wpAny_letOwnedTupleGo_zip z1 fun h2' z2 sb2=>?_⟩;have pr2:eK h2' s.heap.objs.size us:=sb2.extBut _ _ (lt s1) pr;have hvl:vs.length<=3:=by rw[eX hg];exact hn
  have I2:Inv X pins σ (upd H s.heap.objs.size (.tup vs)) {s with heap:=h2',toks:=tk'}:=by
   refine I.lW (fp:=z::TI::TO::S.map fun q=>q.2.1) hf (Lj _) (fun c o hcm ec=>?_) ⟨Lk hvl (by decide),us,h2,⟨_,pr2,rfl,_,rfl,rfl⟩⟩
   simp only[Le,not_or] at hcm;exact sb2.extBut _ _ hcm.1 (kp c o hcm.1 hcm.2.2.1 (fun q hq e=>hcm.2.2.2 (by rw[e];exact ME (f:=fun q:Src=>q.2.1) hq)) ec)
  refine⟨.ref s.heap.objs.size,_,I2,rfl,⟨s.heap.objs.size,vs,h3,fr,rfl,rfl⟩,⟨z2,?_,⟨us,?_,?_⟩,fun q hq=>?_⟩,fun c hcm=>?_⟩
  ·exact sb2.extBut _ _ D.zt.1 (kp _ _ D.zt.1 D.zt.2.2 (fun q hq=>(D.it q hq).2.1.symm) s2)
  ·exact sb2.extBut _ _ D.zt.2.1 t1
  ·exact eX h1
  ·exact (a1 q hq).kp fun o e=>sb2.extBut _ _ (D.it q hq).1 e
  ·have hn:=(hf c hcm).1;rw[ai]
   ·exact hn
   ·rcases Le.mp hcm with rfl|hcm
    ·exact (lt s1).symm
    rcases Le.mp hcm with rfl|hcm
    ·exact (lt s2).symm
    rcases Le.mp hcm with rfl|hcm
    ·exact (lt s3).symm
    obtain⟨q,hq,rfl⟩:=L6.mp hcm;obtain⟨o,e,_⟩:=j7.ty (s4 q hq);exact (lt e).symm
 done:=by
  intro X hP hw hK hc i pins s σ H E I hf st hg;subst hP hw hK;obtain⟨a,q,r,vs,eS,hg,xs,hx,hi⟩:=hg;obtain⟨s1,s2,⟨old,s3,s3'⟩,s4⟩:=st;obtain⟨us,h1,_,_⟩:=pO I (fun p hp=>s4 p (by rw[eS];exact M5 _ hp)) hg
  obtain⟨its,rv,p1⟩:=I.n5 hx;have hT:s.TypeIs (.ref z) "zip":=⟨_,s1,rfl⟩;unfold pyNext;refine KU (Oa (LZ (name:=Str.ofString "__next__") hT PySem.F.slot_zip_next (Mb PySem.F.slot_zip_next hT PySem.F.entry_zip_next
   (Hn D hS (I.ok.hd hc) s1 s2 s3 s3' hn (.inr ⟨a,q,r,us,eS,h1,s4 q (by rw[eS];exact Lw _ K_),⟨its.toArray,p1,by rw[Ld,<- rv.length,hi]⟩,fun h' e tk' kp he=>?_⟩)) (PySem.F.args_zip_next_1 _))))
  obtain⟨o,ho,hcl⟩:=he;refine KU (wpAny_isInstance (T:="StopIteration") (b:=true) ⟨o,ho,hcl⟩ isSubtype_stop (Lh ⟨rfl,?_⟩));refine I.turns (t':=tk') hf fun c o hcm ec=>?_;simp only[Le,not_or] at hcm;exact kp c o hcm.1 hcm.2.2.1 (fun q hq e=>hcm.2.2.2 (by rw[e];exact ME (f:=fun q:Src=>q.2.1) hq)) ec
 self:=fun A i s Q E st h=>wpAny_pyIter_zip st.1 h
theorem bK.push{k:Bool}{a:Addr}(x:bK k h a xs)(o:Obj):bK k (h.push o) a xs:=by
 cases k with
 |true=>exact Heap.IsList.push x _
 |false=>exact wx x _
theorem jy{A:Around}{k:Bool}{l:Addr}{items:Array Value}(hl:bK k s.heap l items)
  (hQ:Q (.ref s.heap.objs.size) {s with heap:=s.heap.push {cls:=.type (uY k),data:=.fields #[.ref l,.int 0 0]}}):wpAny (model prog w) A (pyIter (.ref l)) Q E s:=by
 cases k with
 |true=>exact NT hl hQ
 |false=>exact NH hl hQ
noncomputable def fc(h:Heap):List (Bool×Addr)->Heap
 |[]=>h
 |p::l=>fc (h.push {cls:=.type (uY p.1),data:=.fields #[.ref p.2,.int 0 0]}) l
noncomputable def gD(n:Nat):List (Bool×Addr)->List Src
 |[]=>[]
 |p::l=>(p.1,n,p.2)::gD (n+1) l
abbrev Fy(h:Heap)(l:List (Bool×Addr)):Heap:=(fc h l).push {cls:=.type "tuple",data:=.seq ((gD h.objs.size l).map fun q=>Value.ref q.2.1).toArray}
abbrev Bp(h:Heap)(l:List (Bool×Addr)):Heap:=(Fy h l).push {cls:=.type "tuple",data:=.seq ((gD h.objs.size l).map fun _=>Value.none).toArray}
abbrev zq(h:Heap)(l:List (Bool×Addr)):Heap:=(Bp h l).push {cls:=.type "zip",data:=.fields #[.none,.bool false,.bool false,.ref (fc h l).objs.size,.ref (Fy h l).objs.size]}
theorem jt:∀(l:List (Bool×Addr)) (h:Heap),(fc h l).objs.size=h.objs.size+l.length
 |[],_=>rfl
 |p::l,h=>by rw[fc,jt l,Ms,Lf];lia
theorem iw:∀(l:List (Bool×Addr)) {h:Heap} {c:Addr} {o:Obj},h.get? c=some o->(fc h l).get? c=some o
 |[],_,_,_,e=>e
 |p::l,_,_,_,e=>iw l (La _ e)
theorem Ag(l:List (Bool×Addr)):∀{h:Heap} (q:Src),q∈gD h.objs.size l->(fc h l).get? q.2.1=some {cls:=.type (uY q.1),data:=.fields #[.ref q.2.2,.int 0 0]}:=by
 induction l with
 |nil=>intro h q hq;cases hq
 |cons p l ih =>
  intro h q hq;rcases Le.mp hq with rfl|hq
  ·exact iw l (Lq _ rfl)
  ·exact ih q (by rw[Ms];exact hq)
theorem jb:∀(l:List (Bool×Addr)) (n:Nat),(gD n l).length=l.length
 |[],_=>rfl
 |_::l,n=>L0 (·+1) (jb l (n+1))
theorem rf(l:List (Bool×Addr)):∀(n:Nat) (q:Src),q∈gD n l->n<=q.2.1/\q.2.1<n+l.length/\(q.1,q.2.2)∈l:=by
 induction l with
 |nil=>intro n q hq;cases hq
 |cons p l ih =>
  intro n q hq;rcases Le.mp hq with rfl|hq
  ·exact⟨Lj _,by rw[Lf];show n<_;lia,K_⟩
  ·obtain⟨h1,h2,h3⟩:=ih (n+1) q hq;exact⟨by lia,by rw[Lf];lia,KZ _ h3⟩
theorem r8:∀(l:List (Bool×Addr)) (n:Nat),((gD n l).map fun q=>q.2.1).Nodup
 |[],_=>P9
 |p::l,n=>by
  show (n::(gD (n+1) l).map fun q=>q.2.1).Nodup;refine LP.mpr ⟨fun h=>?_,r8 l (n+1)⟩;obtain⟨q,hq,e⟩:=L6.mp h;have:=(rf l (n+1) q hq).1;rw[e] at this;lia
theorem tY(p q:Bool×Addr)(xs ys:Array Value):Meets (Builtin.«zip.__new__» ⟨[.type "zip",.ref p.2,.ref q.2],[]⟩) (fun _ R s=>bK p.1 s.heap p.2 xs/\bK q.1 s.heap q.2 ys/\R (.ok (.ret (.ref (Bp s.heap [p,q]).objs.size))) {s with heap:=zq s.heap [p,q]}):=
 .of_wp fun prog w A R s h=>by
  obtain⟨hp,g,d,tk,os⟩:=s;obtain⟨q1,q2,h⟩:=h;have hsub:=sub_zip;have w1:bK p.1 (Shared.heap ⟨hp,g,d,tk,os⟩) p.2 xs:=q1;have w2:bK q.1 (Shared.heap ⟨hp.push {cls:=.type (uY p.1),data:=.fields #[.ref p.2,.int 0 0]},g,d,tk,os⟩) q.2 ys:=bK.push q2 _;wp_walk using jy w1,jy w2;refine⟨_,rfl,?_⟩;have e1:(hp.push {cls:=.type (uY p.1),data:=.fields #[.ref p.2,.int 0 0]}).objs.size=hp.objs.size+1:=Ms ..;have h':=h;simp only[zq,Bp,Fy,fc,gD,L3,Nu,<- e1] at h';exact h'
theorem tR(p q r:Bool×Addr)(xs ys zs:Array Value):Meets (Builtin.«zip.__new__» ⟨[.type "zip",.ref p.2,.ref q.2,.ref r.2],[]⟩) (fun _ R s=>bK p.1 s.heap p.2 xs/\bK q.1 s.heap q.2 ys/\bK r.1 s.heap r.2 zs/\R (.ok (.ret (.ref (Bp s.heap [p,q,r]).objs.size))) {s with heap:=zq s.heap [p,q,r]}):=
 .of_wp fun prog w A R s h=>by
  obtain⟨hp,g,d,tk,os⟩:=s;obtain⟨q1,q2,q3,h⟩:=h;have hsub:=sub_zip;have w1:bK p.1 (Shared.heap ⟨hp,g,d,tk,os⟩) p.2 xs:=q1;have w2:bK q.1 (Shared.heap ⟨hp.push {cls:=.type (uY p.1),data:=.fields #[.ref p.2,.int 0 0]},g,d,tk,os⟩) q.2 ys:=bK.push q2 _;have w3:bK r.1 (Shared.heap ⟨(hp.push {cls:=.type (uY p.1),data:=.fields #[.ref p.2,.int 0 0]}).push {cls:=.type (uY q.1),data:=.fields #[.ref q.2,.int 0 0]},g,d,tk,os⟩) r.2 zs:=bK.push (bK.push q3 _) _;wp_walk using jy w1,jy w2,jy w3;refine⟨_,rfl,?_⟩;have e1:(hp.push {cls:=.type (uY p.1),data:=.fields #[.ref p.2,.int 0 0]}).objs.size=hp.objs.size+1:=Ms ..;have e2:((hp.push {cls:=.type (uY p.1),data:=.fields #[.ref p.2,.int 0 0]}).push {cls:=.type (uY q.1),data:=.fields #[.ref q.2,.int 0 0]}).objs.size=(hp.push {cls:=.type (uY p.1),data:=.fields #[.ref p.2,.int 0 0]}).objs.size+1:=Ms ..;have h':=h;simp only[zq,Bp,Fy,fc,gD,L3,Nu,<- e1,<- e2] at h';exact h'
theorem jc(a b c:Value):checkTypeCall "zip" ⟨[a,b,c],[]⟩=pure ():=by kernel_rfl
theorem kc(a b c:Value):checkBuiltinCall "zip.__new__" ⟨[.type "zip",a,b,c],[]⟩=pure ():=by kernel_rfl
theorem mS(a b c d:Value):argsOk "object.__init__" ⟨[a,b,c,d],[]⟩:=by
 unfold argsOk;rw[signature?_of (id:="object.__init__") (n:=['_','_','t','i','n','i','_','_']) (o:=['t','c','e','j','b','o']) (by kernel_rfl) PySem.F.owner_object];kernel_rfl
section
variable {X:Cx} {es:List Expr} {tk:Nat} {tp:Pos}
theorem tM{pins:List (Addr×Obj)}{σ:St}{R:It->Hp->Prop}(I:Inv X pins σ H s)(l:List (Bool×Addr))(hne:l≠[])(h3:l.length<=3)(hq:∀ p∈l,∃ xs,i4 X.K p.1 H p.2 xs)(q:∀ n,R (Gy X.K (gD n l)) H):
  (∃ o,(zq s.heap l).get? (Bp s.heap l).objs.size=some o/\o.cls=.type "zip")/\wpAny (model X.prog X.w) X.A (pyIter (.ref (Bp s.heap l).objs.size)) (JZ X pins σ (.Tuple es tk tp) R) X.xe {s with heap:=zq s.heap l}:=by
 have n1:(fc s.heap l).objs.size=s.heap.objs.size+l.length:=jt l _;have n2:(Fy s.heap l).objs.size=s.heap.objs.size+l.length+1:=by rw[Ms,n1]
 have n3:(Bp s.heap l).objs.size=s.heap.objs.size+l.length+2:=by rw[Ms,n2]
 have p3:(zq s.heap l).get? (Bp s.heap l).objs.size=some _:=Lq _ rfl;have p2:(zq s.heap l).get? (Fy s.heap l).objs.size=some _:=La _ (Lq _ rfl);have p1:(zq s.heap l).get? (fc s.heap l).objs.size=some _:=La _ (La _ (Lq _ rfl));have up:∀{c o},(fc s.heap l).get? c=some o->(zq s.heap l).get? c=some o:=fun e=>La _ (La _ (La _ e));rw[n1,n2,n3] at p3;rw[n2] at p2;rw[n1] at p1;rw[n3];refine⟨⟨_,p3,rfl⟩,wpAny_pyIter_zip p3 ?_⟩;have I2:Inv X pins σ H {s with heap:=zq s.heap l}:=I.kept (t':=s.toks) fun c o e=>up (iw l e)
 have bd:=rf l s.heap.objs.size;have lt:∀ p∈l,p.2<s.heap.objs.size:=fun p hp=>by
  obtain⟨xs,hx⟩:=hq p hp;obtain⟨its,_,p1⟩:=I.n5 hx;obtain⟨o,e,_⟩:=p1.ty;exact Lm e
 have D:Zn (s.heap.objs.size+l.length+2) (s.heap.objs.size+l.length) (s.heap.objs.size+l.length+1) (gD s.heap.objs.size l):=by
  have nl:∀(a b:Nat),a<b->a≠b:=fun a b h=>Ly h;refine⟨⟨nl _ _ (by lia),nl _ _ (by lia),nl _ _ (by lia)⟩,fun q hq'=>?_,fun q hq'=>?_,r8 l _⟩
  ·have:=(bd q hq').2.1;exact⟨nl _ _ (by lia),nl _ _ (by lia),nl _ _ (by lia)⟩
  ·have h1:=lt _ (bd q hq').2.2;refine⟨nl _ _ (by show q.2.2<_;have:q.2.2<s.heap.objs.size:=h1;lia),nl _ _ (by have:q.2.2<s.heap.objs.size:=h1;lia),fun p hp=>nl _ _ (Lv h1 (bd p hp).1)⟩
 refine⟨_,_,_,_,H,rfl,I2,uM (gD s.heap.objs.size l) _ _ _ D (fun e=>?_) (by rw[jb];exact h3),⟨p3,p1,⟨_,p2,Lb ..⟩,fun q hq'=>Hu (up (Ag l q hq'))⟩,fun c hc=>?_,q _⟩
 ·have:=jb l s.heap.objs.size;rw[e] at this;exact hne (Ng.mp this.symm)
 ·have hc':s.heap.objs.size<=c:=by
   rcases Le.mp hc with rfl|hc
   ·lia
   rcases Le.mp hc with rfl|hc
   ·lia
   rcases Le.mp hc with rfl|hc
   ·lia
   obtain⟨q,hq',rfl⟩:=L6.mp hc;exact (bd q hq').1
  exact I.uz hc' (I.aJ.fresh hc')
noncomputable def FN(K:Qf)(ta:TA):TI:=fun σ H R=>ta σ H fun vs H1=>∃ p q:Bool×Addr,vs=[.ref p.2,.ref q.2]/\(∃ xs,i4 K p.1 H1 p.2 xs)/\(∃ ys,i4 K q.1 H1 q.2 ys)/\∀ n,R (Gy K (gD n [p,q])) H1
theorem A2{e1 e2:Expr}{ta:TA}{pos:Pos}(hg:Gl X "zip")(hm:X.mg "zip"=none)(ha:PA X [e1,e2] ta)(h1:autoParam (cL e1=true) ℜ0)(h2:autoParam (cL e2=true) ℜ0)(hv:autoParam (bootBuiltins "zip"=some (.type "zip")) ℜ6):
  PI X (.Tuple es tk tp) (.Call (.Name "zip" p) [e1,e2] [] pos) (FN X.K ta):=by
 intro pins s σ H R I h;refine Call_ (eM I hg hm hv (Mh (bu (ha pos pins s σ H _ I h) fun us s1 ⟨vs,H1,I1,r1,q1⟩=>?_) (by rw[cf h1,cf h2]) (by rw[cf h2];rfl)))
 obtain⟨a,b,e,⟨xs,hx⟩,⟨ys,hy⟩,q⟩:=q1;subst e;obtain⟨u,w',rfl,ru,rw'⟩:=vals2 r1
 cases ru;cases rw'
 obtain⟨its1,_,p1⟩:=I1.n5 hx;obtain⟨its2,_,p2⟩:=I1.n5 hy;refine O_ F.called_zip (by decide) (F.typeCall_zip_2 _ _) (F.newCall_zip_2 _ _) (fun obj=>F.args_object_init_3 obj _ _) F.entry_zip_new (tY a b _ _) ⟨p1,p2,tM I1 [a,b] (by simp) (MH 2) (fun p hp=>?_) q⟩
 simp only[Le,LU,MF] at hp;rcases hp with rfl|rfl
 ·exact⟨xs,hx⟩
 ·exact⟨ys,hy⟩
noncomputable def Hk(K:Qf)(ta:TA):TI:=fun σ H R=>ta σ H fun vs H1=>∃ p q r:Bool×Addr,vs=[.ref p.2,.ref q.2,.ref r.2]/\(∃ xs,i4 K p.1 H1 p.2 xs)/\(∃ ys,i4 K q.1 H1 q.2 ys)/\(∃ zs,i4 K r.1 H1 r.2 zs)/\∀ n,R (Gy K (gD n [p,q,r])) H1
theorem vals3{x y z:V}{us:List Value}(r:Vals [x,y,z] us):∃ u w' q,us=[u,w',q]/\RelV x u/\RelV y w'/\RelV z q:=by
 obtain⟨u,us,rfl,h1,r⟩:=Paired.fb r;obtain⟨v,w',rfl,h2,h3⟩:=vals2 r;exact⟨u,v,w',rfl,h1,h2,h3⟩
theorem Ay{e1 e2 e3:Expr}{ta:TA}{pos:Pos}(hg:Gl X "zip")(hm:X.mg "zip"=none)(ha:PA X [e1,e2,e3] ta)(h1:autoParam (cL e1=true) ℜ0)(h2:autoParam (cL e2=true) ℜ0)(h3:autoParam (cL e3=true) ℜ0)(hv:autoParam (bootBuiltins "zip"=some (.type "zip")) ℜ6):
  PI X (.Tuple es tk tp) (.Call (.Name "zip" p) [e1,e2,e3] [] pos) (Hk X.K ta):=by
 intro pins s σ H R I h;refine Call_ (eM I hg hm hv (Mh (bu (ha pos pins s σ H _ I h) fun us s1 ⟨vs,H1,I1,r1,q1⟩=>?_) (by rw[cf h1,cf h2,cf h3]) (by rw[cf h2,cf h3];rfl)))
 obtain⟨a,b,c,e,⟨xs,hx⟩,⟨ys,hy⟩,⟨zs,hz⟩,q⟩:=q1;subst e;obtain⟨u,w',t',rfl,ru,rw',rt'⟩:=vals3 r1
 cases ru;cases rw';cases rt'
 obtain⟨its1,_,p1⟩:=I1.n5 hx;obtain⟨its2,_,p2⟩:=I1.n5 hy;obtain⟨its3,_,p3⟩:=I1.n5 hz;refine O_ F.called_zip (by decide) (jc _ _ _) (kc _ _ _) (fun obj=>mS obj _ _ _) F.entry_zip_new (tR a b c _ _ _) ⟨p1,p2,p3,tM I1 [a,b,c] (by simp) (Lj 3) (fun p hp=>?_) q⟩
 simp only[Le,LU,MF] at hp;rcases hp with rfl|rfl|rfl
 ·exact⟨xs,hx⟩
 ·exact⟨ys,hy⟩
 ·exact⟨zs,hz⟩
end
noncomputable def cF:List T->List T->List T->List T
 |t::ts,u::us,v::vs=>.tup [t,u,v]::cF ts us vs
 |_,_,_=>[]
structure JN (tss:List (List T)) (items:List T):Prop where
 at':∀(i:Nat) (t:T),items[i]?=some t->∃ ts,t=.tup ts/\Paired (fun (l:List T) t=>l[i]?=some t) tss ts
 stop:∃ a l r,tss=a++l::r/\l.length=items.length/\∀ x∈a,items.length<x.length
theorem Jp(ts us:List T):JN [ts,us] (pG ts us):=by
 refine⟨fun i t e=>?_,?_⟩
 ·unfold pG at e;rw[List.getElem?_zipWith] at e
  cases e1:ts[i]? with
  |none=>rw[e1] at e;cases e
  |some a=>cases e2:us[i]? with
   |none=>rw[e1,e2] at e;cases e
   |some b=>rw[e1,e2] at e;cases e;exact⟨[a,b],rfl,.cons e1 (.cons e2 .nil)⟩
 ·have hl:(pG ts us).length=min ts.length us.length:=List.length_zipWith ..;rcases Ma us.length ts.length with h|h
  ·exact⟨[ts],us,[],rfl,by lia,fun x hx=>by rw[Lo.mp hx];lia⟩
  ·exact⟨[],ts,[us],rfl,by lia,fun x hx=>(nomatch hx)⟩
theorem JS(ts us vs:List T):JN [ts,us,vs] (cF ts us vs):=by
 have hl:∀(ts us vs:List T),(cF ts us vs).length=min ts.length (min us.length vs.length):=fun ts=>by
  induction ts with
  |nil=>intro us vs;simp[cF]
  |cons a ts ih=>intro us vs;cases us with
   |nil=>simp[cF]
   |cons b us=>cases vs with
    |nil=>simp[cF]
    |cons c vs=>simp only[cF,Lf,ih];lia
 refine⟨?_,?_⟩
 ·intro i
  induction i generalizing ts us vs with
  |zero =>
   intro t e
   cases ts with
   |nil=>simp[cF] at e
   |cons a ts=>cases us with
    |nil=>simp[cF] at e
    |cons b us=>cases vs with
     |nil=>simp[cF] at e
     |cons c vs=>simp[cF] at e;exact⟨[a,b,c],e.symm,.cons rfl (.cons rfl (.cons rfl .nil))⟩
  |succ i ih =>
   intro t e
   cases ts with
   |nil=>simp[cF] at e
   |cons a ts=>cases us with
    |nil=>simp[cF] at e
    |cons b us=>cases vs with
     |nil=>simp[cF] at e
     |cons c vs =>
      obtain⟨xs,e1,e2⟩:=ih ts us vs t (by simpa[cF] using e)
      obtain⟨x,xs,rfl,h1,e2⟩:=Paired.fb e2;obtain⟨y,xs,rfl,h2,e2⟩:=Paired.fb e2;obtain⟨z,xs,rfl,h3,e2⟩:=Paired.fb e2;obtain rfl:=Paired.mM e2;exact⟨_,e1,.cons (by simpa using h1) (.cons (by simpa using h2) (.cons (by simpa using h3) .nil))⟩
 ·have hl:=hl ts us vs;rcases Ma us.length ts.length with h|h
  ·rcases Ma vs.length us.length with h'|h'
   ·exact⟨[ts,us],vs,[],rfl,by lia,fun x hx=>by rcases Le.mp hx with rfl|hx;lia;rw[Lo.mp hx];lia⟩
   ·exact⟨[ts],us,[vs],rfl,by lia,fun x hx=>by rw[Lo.mp hx];lia⟩
  ·rcases Ma vs.length ts.length with h'|h'
   ·exact⟨[ts,us],vs,[],rfl,by lia,fun x hx=>by rcases Le.mp hx with rfl|hx;lia;rw[Lo.mp hx];lia⟩
   ·exact⟨[],ts,[us,vs],rfl,by lia,fun x hx=>(nomatch hx)⟩
theorem vI{S:List Src}{tss:List (List T)}{items:List T}(Z:JN tss items):jv K (Gy K S) (fun H B=>Paired (fun (q:Src) ts=>∃ vs,i4 K q.1 H q.2.2 vs/\aj K H B vs ts) S tss) items:=by
 refine⟨fun H B i t hb h e=>?_,fun H B h=>?_⟩
 ·obtain⟨ts,rfl,hp⟩:=Z.at' i t e;have key:∀{S:List Src} {tss:List (List T)} {ts:List T},Paired (fun (q:Src) ts=>∃ vs,i4 K q.1 H q.2.2 vs/\aj K H B vs ts) S tss->Paired (fun (l:List T) t=>l[i]?=some t) tss ts->∃ vs,Paired (fun (q:Src) v=>∃ xs,i4 K q.1 H q.2.2 xs/\xs[i]?=some v) S vs/\∀ ws,Paired (fun (q:Src) x=>∀ xs,i4 K q.1 H q.2.2 xs->xs[i]?=some x) S ws->aj K H B ws ts:=fun {S tss ts} h=>by
   induction h generalizing ts with
   |nil=>intro hp;obtain rfl:=Paired.mM hp;exact⟨[],.nil,fun ws hw=>by obtain rfl:=Paired.mM hw;exact .nil⟩
   |cons d r ih =>
    intro hp;obtain⟨t,ts,rfl,ht,hp⟩:=Paired.fb hp;obtain⟨vs,h1,h2⟩:=ih hp;obtain⟨xs,x1,x2⟩:=d;obtain⟨v,hv,rv⟩:=x2.get ht;refine⟨v::vs,.cons ⟨xs,x1,hv⟩ h1,fun ws hw=>?_⟩;obtain⟨w,ws,rfl,hw1,hw'⟩:=Paired.fb hw;have:=hw1 xs x1;rw[hv] at this;cases this;exact .cons rv (h2 ws hw')
  obtain⟨vs,h1,h2⟩:=key h hp;refine⟨⟨vs,h1⟩,fun x H2 y=>?_⟩;obtain⟨p,ws,hw,hp,rfl,rfl⟩:=y;have fs:Fr B H B (upd H p (.tup ws)):=Fr.same (bB.new hp);refine⟨bB.new hp,.tup (fun z=>?_) aq ((h2 ws hw).fr fs)⟩;obtain⟨o,q⟩:=hb p z;rw[hp] at q;cases q
 ·obtain⟨a,l,r,rfl,h1,h2⟩:=Z.stop;have swap:∀{S:List Src} {a b:List (List T)},Paired (fun (q:Src) ts=>∃ vs,i4 K q.1 H q.2.2 vs/\aj K H B vs ts) S (a++b)->∃ x y,S=x++y/\Paired (fun (q:Src) ts=>∃ vs,i4 K q.1 H q.2.2 vs/\aj K H B vs ts) x a/\Paired (fun (q:Src) ts=>∃ vs,i4 K q.1 H q.2.2 vs/\aj K H B vs ts) y b:=fun {S a}=>by
   induction a generalizing S with
   |nil=>intro b h;exact⟨[],S,rfl,.nil,h⟩
   |cons t a ih =>
    intro b h;obtain⟨q,S',rfl,hq,h⟩:=Paired.aO h;obtain⟨x,y,rfl,hx,hy⟩:=ih h;exact⟨q::x,y,rfl,.cons hq hx,hy⟩
  obtain⟨x,y,rfl,hx,hy⟩:=swap h;obtain⟨q,y,rfl,⟨xs,x1,x2⟩,hy⟩:=Paired.aO hy;have dr:∀{S:List Src} {a:List (List T)},(∀ t∈a,items.length<t.length)->Paired (fun (q:Src) ts=>∃ vs,i4 K q.1 H q.2.2 vs/\aj K H B vs ts) S a->∃ vs,Paired (fun (q:Src) v=>∃ xs,i4 K q.1 H q.2.2 xs/\xs[items.length]?=some v) S vs:=fun {S a} hl h=>by
   induction h with
   |nil=>exact⟨[],.nil⟩
   |@cons q t S a d r ih =>
    obtain⟨vs,hv⟩:=ih fun t ht=>hl t (KZ _ ht);obtain⟨xs,x1,x2⟩:=d;obtain⟨v,e,_⟩:=x2.get (KW (hl t K_));exact⟨v::vs,.cons ⟨xs,x1,e⟩ hv⟩
  obtain⟨vs,hv⟩:=dr h2 hx;exact⟨x,q,y,vs,rfl,hv,xs,x1,by rw[x2.length];exact h1⟩
namespace Y
section
variable {X:Cx} {e1 e2 e3:Expr} {es:List Expr} {us:UA} {pos p tp:Pos} {k:Nat}
noncomputable def Ik(us:UA):UI:=fun μ Rt=>us μ fun rs μ'=>match rs with
 |[.tr t1,.tr t2,.tr t3]=>(match gw t1,gw t2,gw t3 with
  |some ts,some vs,some ws=>Rt (cF ts vs ws) none μ'
  |_,_,_=>False)
 |_=>False
theorem jJ{F:Fx}{v:V}{t:T}(r:Rep F.K H B v t)(e:gw t=some ts):∃ q:Bool×Addr,v=.ref q.2/\q.1=kdOf t/\∃ vs,i4 F.K q.1 H q.2 vs/\aj F.K H B vs ts:=by
 obtain⟨a,vs,e1,s1,r1⟩:=Vw.sq r.vw e;exact⟨(kdOf t,a),e1,rfl,vs,s1,r1⟩
theorem fA{q:Bool×Addr}{t:T}(r:Rep K H B (.ref q.2) t)(e:gw t=some ts)(ek:q.1=kdOf t):∃ vs,i4 K q.1 H q.2 vs/\aj K H B vs ts:=by
 obtain⟨a,vs,e1,s1,r1⟩:=Vw.sq r.vw e;cases e1;rw[ek];exact⟨vs,s1,r1⟩
theorem zip2(K:Qf)(hK:X.K=K)(hg:Gl X "zip")(hm:X.mg "zip"=none)(ha:YA X [e1,e2] us)(h1:autoParam (cL e1=true) ℜ0)(h2:autoParam (cL e2=true) ℜ0):YI X (.Tuple es k tp) (.Call (.Name "zip" p) [e1,e2] [] pos) (iZ us):=by
 obtain⟨t,q,r⟩:=ha;subst hK;refine⟨_,⟨A2 hg hm q.h h1 h2⟩,fun F ad B σ H μ R Rt hF l q k=>r F ad B σ H μ _ _ hF l q fun vs H' rs μ' l1 ps f k1 q1=>?_⟩
 split at q1
 ·rename_i t1 t2;obtain⟨v1,vs,rfl,r1,ps⟩:=Paired.aO ps;obtain⟨v2,vs,rfl,r2,ps⟩:=Paired.aO ps;obtain rfl:=Paired.eV ps
  replace r1:=aL r1
  replace r2:=aL r2
  split at q1
  ·rename_i ts us z1 z2;obtain⟨a,rfl,ea,s1⟩:=jJ r1 z1;obtain⟨b,rfl,eb,s2⟩:=jJ r2 z2;rw[hF] at r1 r2 s1 s2;exact⟨a,b,rfl,let ⟨vs,h,_⟩:=s1;⟨vs,h⟩,let ⟨vs,h,_⟩:=s2;⟨vs,h⟩,fun n=>k _ H' μ' _ none (fun H B=>Rep X.K H B (.ref a.2) t1/\Rep X.K H B (.ref b.2) t2) l1 f k1 ((vI (Jp ts us)).imp fun H B h=>.cons (fA h.1 z1 ea) (.cons (fA h.2 z2 eb) .nil)) ⟨r1,r2⟩ (fun B1 H1 B2 H2 f h=>⟨h.1.fr f,h.2.fr f⟩) (fun j ls z=>by cases z) q1⟩
  ·exact q1.elim
 ·exact q1.elim
theorem JW(K:Qf)(hK:X.K=K)(hg:Gl X "zip")(hm:X.mg "zip"=none)(ha:YA X [e1,e2,e3] us)(h1:autoParam (cL e1=true) ℜ0)(h2:autoParam (cL e2=true) ℜ0)(h3:autoParam (cL e3=true) ℜ0):YI X (.Tuple es k tp) (.Call (.Name "zip" p) [e1,e2,e3] [] pos) (Ik us):=by
 obtain⟨t,q,r⟩:=ha;subst hK;refine⟨_,⟨Ay hg hm q.h h1 h2 h3⟩,fun F ad B σ H μ R Rt hF l q k=>r F ad B σ H μ _ _ hF l q fun vs H' rs μ' l1 ps f k1 q1=>?_⟩
 split at q1
 ·rename_i t1 t2 t3;obtain⟨v1,vs,rfl,r1,ps⟩:=Paired.aO ps;obtain⟨v2,vs,rfl,r2,ps⟩:=Paired.aO ps;obtain⟨v3,vs,rfl,r3,ps⟩:=Paired.aO ps;obtain rfl:=Paired.eV ps
  replace r1:=aL r1
  replace r2:=aL r2
  replace r3:=aL r3
  split at q1
  ·rename_i ts us ws z1 z2 z3;obtain⟨a,rfl,ea,s1⟩:=jJ r1 z1;obtain⟨b,rfl,eb,s2⟩:=jJ r2 z2;obtain⟨c,rfl,ec,s3⟩:=jJ r3 z3;rw[hF] at r1 r2 r3 s1 s2 s3;exact⟨a,b,c,rfl,let ⟨vs,h,_⟩:=s1;⟨vs,h⟩,let ⟨vs,h,_⟩:=s2;⟨vs,h⟩,let ⟨vs,h,_⟩:=s3;⟨vs,h⟩,fun n=>k _ H' μ' _ none (fun H B=>Rep X.K H B (.ref a.2) t1/\Rep X.K H B (.ref b.2) t2/\Rep X.K H B (.ref c.2) t3) l1 f k1 ((vI (JS ts us ws)).imp fun H B h=>.cons (fA h.1 z1 ea) (.cons (fA h.2.1 z2 eb) (.cons (fA h.2.2 z3 ec) .nil))) ⟨r1,r2,r3⟩ (fun B1 H1 B2 H2 f h=>⟨h.1.fr f,h.2.1.fr f,h.2.2.fr f⟩) (fun j ls z=>by cases z) q1⟩
  ·exact q1.elim
 ·exact q1.elim
end
end Y
namespace A
theorem Ik(us:UA)(μ:Mu)(Rt:List T->Option (Nat×List T)->Mu->Prop):Y.Ik us μ Rt=us μ fun rs μ'=>match rs with
 |[.tr t1,.tr t2,.tr t3]=>(match gw t1,gw t2,gw t3 with
  |some ts,some vs,some ws=>Rt (cF ts vs ws) none μ'
  |_,_,_=>False)
 |_=>False:=rfl
end A
theorem gZ{own:T->Mu->Option Mu}{dr:Mu->Mu}{ut:UT}{Q:R->Mu->Prop}(g f:α->T)(xs:List α){μ:Mu}(hl:xs.length<=1000)
  (hs:∀ x∈xs,∀(acc:List T) (N:List T->Mu->Prop),N (acc++[f x]) μ->(match own (g x) μ with
   |none=>False
   |some μ1=>ut μ1 fun b μ2=>if b=true then ue μ2 fun rr μ3=>(match rr.d with
     |.tr t'=>N (acc++[t']) (dr μ3)
     |_=>False) else N acc (dr μ2))) (fin:Q (.fr (.lst (xs.map f))) μ):Y.oV none own dr ut ue Q (xs.map g) [] μ:=by
 refine cO (fun rest acc μ'=>∃ done todo:List α,done++todo=xs/\rest=todo.map g/\acc=done.map f/\μ'=μ) ⟨[],xs,rfl,rfl,rfl,rfl⟩ ?_ ?_
 ·rintro acc μ' ⟨done,todo,e1,e2,rfl,rfl⟩;have e3:todo=[]:=O7.mp e2.symm;subst e3;rw[L8] at e1;subst e1;exact⟨trivial,fin⟩
 ·rintro t r acc μ' M ⟨done,todo,e1,e2,rfl,rfl⟩ k
  cases todo with
  |nil=>cases e2
  |cons x todo =>
   obtain⟨rfl,rfl⟩:=List.cons.inj e2;refine⟨trivial,?_,hs x (by rw[<- e1];simp) (done.map f) M (k _ _ ⟨done++[x],todo,by rw[<- e1];simp,rfl,by rw[L5];rfl,rfl⟩)⟩
   rw[Lb];have:=L0 List.length e1;rw[KY] at this;exact LX (show done.length<=1000 by lia) (by decide)
end L2
namespace G
local macro_rules|`(tactic|and_intros)=>`(tactic|exact ⟨rfl,rfl,rfl,by decide +kernel,rfl,by decide +kernel,by decide +kernel⟩)
open PySem L2 PySem.Spec PyProof.Rows
variable{L free i k n:Nat}{a b done l sp ss ws z:List Nat}{x:Str}{ls xs:List Int}{ln:Nat->Nat}{α:Type}{h:Heap}{gs:List (Option Nat)}{f lc_code_of lp_code_of:Addr}{fd:FuncData}{K:Qf}{mg:Str->Option Value}{lO_code_of:Value}{lD_code_of:Option Addr}{lv_code_of:Array Value}{lS_code_of:Array (Option Value)}{q:Program}
noncomputable def top(i:Nat):Stmt:=PySem.Challenge.pw_shortrows_k30_rows_read.main.body.getD i (.Pass ⟨0,0,0,0⟩)
abbrev h_:Stmt:=top 5
theorem bM:ar ["lengths","free","depth","left","length"] ["lengths"] (aa h_):=by and_intros
abbrev cm:Stmt:=top 7
theorem dD:ar ["lengths","words","ahead","thing"] ["lengths"] (aa cm):=by and_intros
abbrev cK:Stmt:=top 8
theorem jI:ar ["ahead","length"] ["ahead","length"] (aa cK):=by and_intros
abbrev eW:Stmt:=top 9
theorem fu:ar ["code","bits","place","thing","word"] ["code","bits","place"] (aa eW):=by and_intros
abbrev fY:Stmt:=top 13
theorem pL:ar ["row"] ["row"] (aa fY):=by and_intros
abbrev dQ:Stmt:=top 14
theorem mD:ar ["row","goal"] ["row","goal"] (aa dQ):=by and_intros
abbrev d8:Stmt:=top 22
theorem mZ:ar ["book"] ["book"] (aa d8):=by and_intros
abbrev cg:Stmt:=top 24
theorem bQ:ar ["bits","book","codes","rows","starts","found","numbers"] ["bits","book"] (aa cg):=by and_intros
abbrev bX:Stmt:=top 25
theorem eA:ar ["row","start","numbers","goal"] ["row","start","numbers"] (aa bX):=by and_intros
abbrev hV:Stmt:=top 26
theorem cx:ar ["codes","bits","place","found","word","row","behind","kind","part"] ["codes","bits","place"] (aa hV):=by and_intros
abbrev eL:Stmt:=top 27
theorem iJ:ar ["code","bits","place","thing"] ["code","bits","place"] (aa eL):=by and_intros
abbrev fU:Stmt:=top 28
theorem jw:ar ["kind","codes","bits","place","found"] ["kind","codes","bits","place"] (aa fU):=by and_intros
abbrev dS:Stmt:=top 29
theorem eZ:ar ["code","bits","place","found","behind"] ["code","bits","place"] (aa dS):=by and_intros
abbrev fS:Stmt:=top 30
theorem cI:ar ["bits","place","found","width","behind","distance"] ["bits","place"] (aa fS):=by and_intros
abbrev cT:Stmt:=top 32
theorem m9:ar ["script"] ["script"] (aa cT):=by and_intros
abbrev eU:Stmt:=top 33
theorem fE:ar ["number","turn","one"] ["number","turn"] (aa eU):=by and_intros
abbrev dO:Stmt:=top 34
theorem gU:ar ["deck","most","number"] ["deck","most"] (aa dO):=by and_intros
abbrev c_:Stmt:=top 35
theorem jU:ar [] [] (aa c_):=by and_intros
abbrev dJ:Stmt:=top 36
theorem cz:ar ["number","many","text","k"] ["number","many"] (aa dJ):=by and_intros
abbrev cP:Stmt:=top 37
theorem aS:ar ["lengths","found","number","size","length","thing","k"] ["lengths"] (aa cP):=by and_intros
abbrev cB:Stmt:=top 38
theorem bA:ar ["deck","many","depths","k","deep","at"] ["deck","many"] (aa cB):=by and_intros
abbrev cQ:Stmt:=top 39
theorem mq:ar ["deck"] ["deck"] (aa cQ):=by and_intros
abbrev cM:Stmt:=top 40
theorem dw:ar ["deck","size","top"] ["deck"] (aa cM):=by and_intros
abbrev eQ:Stmt:=top 41
theorem dP:ar ["deck","goals","some","word","box"] ["deck","goals"] (aa eQ):=by and_intros
abbrev bI:Stmt:=top 42
theorem fe:ar ["deck","most","many"] ["deck","most"] (aa bI):=by and_intros
abbrev cA:Stmt:=top 43
theorem kb:ar ["program"] ["program"] (aa cA):=by and_intros
abbrev dh:Stmt:=top 44
theorem bC:ar ["row","codes","text","part","size"] ["row","codes"] (aa dh):=by and_intros
abbrev cX:Stmt:=top 45
theorem bW:ar ["sizes","goals","widths","found","size","goal","width"] ["sizes","goals","widths"] (aa cX):=by and_intros
abbrev cW:Stmt:=top 46
theorem bj:ar ["sizes","goals","widths","turn","spots","k","half","far"] ["sizes","goals","widths"] (aa cW):=by and_intros
abbrev bo:Stmt:=top 47
theorem aA:ar ["program","book","widths","codes","plain","goals","sizes","spots","bits","k","span","far"] ["program","book","widths"] (aa bo):=by and_intros
abbrev cw:Stmt:=top 48
theorem gX:ar ["found","due"] ["found","due"] (aa cw):=by and_intros
abbrev f9:Stmt:=top 49
theorem f7:ar ["script","deck","turn","book","program","wide","widths","bits"] ["script"] (aa f9):=by and_intros
structure Txt (K:Qf) (mg:Str->Option Value):Prop where
 FL:mg "abs"=none
 DG:mg "bool"=none
 Ex:mg "dict"=none
 fB:mg "enumerate"=none
 qZ:mg "int"=none
 b7:mg "isinstance"=none
 cG:mg "len"=none
 wL:mg "list"=none
 Co:mg "min"=none
 cY:mg "range"=none
 jo:mg "sorted"=none
 xD:mg "str"=none
 FZ:mg "sum"=none
 cZ:mg "tuple"=none
 yY:mg "zip"=none
 Aq:∃ w u,mg "BOXES"=some u/\RelV w u/\∀ H B,Rep K H B w (.dq [.str "a",.str "b",.str "c",.str "d",.str "e",.str "f",.str "g",.str "h"])
 ou:∃ w u,mg "HALVES"=some u/\RelV w u/\∀ H B,Rep K H B w (.dq [.int 8,.int 128,.int 32768])
 AG:∃ w u,mg "HEADS"=some u/\RelV w u/\∀ H B,Rep K H B w (.dq [.str "0",.str "10",.str "11"])
 qw:∃ w u,mg "OF_BOXES"=some u/\RelV w u/\∀ H B,Rep K H B w (.int 2)
 lT:∃ w u,mg "OF_CLASSES"=some u/\RelV w u/\∀ H B,Rep K H B w (.int 1)
 qf:∃ w u,mg "OF_WORDS"=some u/\RelV w u/\∀ H B,Rep K H B w (.int 0)
 ze:∃ w u,mg "WIDTHS"=some u/\RelV w u/\∀ H B,Rep K H B w (.dq [.int 4,.int 8,.int 16])
 je:∃ d,mg "SHAPES"=some (.ref d)/\mO K d [("put",["box","number"]),("add",["box","box"]),("sub",["box","box"]),("copy",["box","box"]),("tell",["box"]),("hear",["box"]),("jump",["goal"]),("zero",["box","goal"]),("halt",[])]
 oK:rE K mg "code_of"
section
variable {P:Program} {w:World} {K:Qf} {mg:Str->Option Value} {base:Heap}
local macro_rules | `(tactic| walk_at "lc") => `(tactic| first | exact Or.inl rfl | exact Or.inr rfl)
local macro_rules | `(tactic| wp_walk using $ts,*) => do
  let ids := ("L2.A.Ik L2.A.sR L2.A.oP L2.A.iY L2.A.Bi L2.A.n9 L2.A.Bh L2.A.zg L2.A.oO L2.A.GO L2.A.y0 L2.A.rL L2.A.mJ L2.A.vL L2.A.t6 L2.A.qU L2.A.Ef L2.A.j4 L2.A.xW L2.A.AZ L2.A.jE L2.A.AW L2.A3.BP L2.A3.me L2.A3.kf L2.A3.Kz L2.A3.mU L2.A3.Jw L2.A3.BS L2.A3.gT L2.A3.oA L2.A3.Ka L2.A3.IP L2.A3.JV L2.A3.FR L2.A3.Hy L2.A3.Gr L2.A3.Jz L2.A3.JT L2.A3.IU L2.A3.JE L2.A3.Hj L2.A3.FO L2.A3.HJ L2.A3.FA L2.A3.JY L2.A3.IW L2.A3.Ke L2.A3.I_ L2.A.ia L2.A.Bu L2.A.uC L2.A.kr L2.A.jQ L2.A.AS L2.A.w_ L2.A.G3 L2.A.sk L2.A.rK L2.A.Ih L2.A.zy L2.A.vW L2.A.uK L2.A.BC L2.A.Bj L2.A.Fi L2.A.iS L2.A.q_ L2.A.qW L2.A.Gs L2.A.JQ L2.A.D8 L2.A.Dw L2.A.Gm L2.A.GP L2.A.J_ L2.A.Jf L2.A.oH L2.A.HQ L2.A.Kk L2.A.IH L2.A.vq L2.A.i8 L2.A.nA L2.A.Bm L2.A.Fp L2.A.Hm L2.A.oB L2.A.J6 L2.A.Im L2.A.fP L2.A.IC L2.A.Jv L2.A.De L2.A.jR L2.A.kg L2.A.K6 L2.A.KD L2.A.vm L2.A.Gj L2.A.G9 L2.A.GD L2.A.Iz L2.A.Ig L2.A.gS L2.A.Bd L2.A.rP L2.A.B6 L2.A.Iq L2.A.Ie L2.A.iZ L2.A.Bq L2.A.iG L2.A.IB L2.A.gW L2.A.Fq L2.A.K3 L2.A.K9 L2.A.II L2.A.JM L2.A.JC L2.A.HG L2.A.FU L2.A.FG L2.A.Gg L2.A.Jj L2.A.JK L2.A.IG L2.A.JG L2.A.Ja Sl.box Sl.put de L2.putAll CJ oi pw L2.Y.trees L2.Y.Am L2.Y.wV L2.Y.xl L2.Y.Hf L2.Y.IT List.tail_cons Nat.zero_le startM yF cH Option.bind_some Option.map_some List.map_cons List.map_nil List.length_cons List.length_nil List.length_map List.replicate List.cons_append List.nil_append List.getElem?_cons_zero List.getElem?_cons_succ List.set_cons_zero List.set_cons_succ List.nodup_nil List.nodup_cons List.not_mem_nil List.mem_cons not_false_eq_true false_implies implies_true forall_eq or_false true_and and_self true_or Jb IF Kd IV Nat.reduceAdd Nat.reduceSub Nat.reduceLeDiff Nat.reduceLT Bool.false_eq_true Bool.not_true Bool.not_false decide_eq_true_eq Bool.not_eq_true' decide_eq_false_iff_not Int.reduceToNat Int.reducePow reduceCtorEq L2.A4.KL L2.A4.KJ L2.A4.KN L2.A4.He L2.A4.Gk L2.A4.HB L2.A4.Gq L2.A4.BZ L2.A4.qT".splitOn " ").toArray.map fun n => Lean.mkIdent n.toName
  let pre:=ids.filter fun n=>n.getId.toString.startsWith "L2.A"
  `(tactic| simp only [↓reduceIte, $[↓$ts:term],*, $[↓$pre:term],*, $[$ids:ident],*, $[$ts:term],*])
local macro_rules | `(tactic| walk_at "rt") => `(tactic| wp_walk using and_self)
local macro_rules|`(tactic|rfl')=>`(tactic|wp_walk using and_self)
local macro_rules|`(tactic|symm)=>do
  let n:=Lean.mkIdent `N
  let h:=Lean.mkIdent `hN
  `(tactic|(refine $h _ ?_;clear $h $n;refine ao fun $n $h=>?_))
local macro_rules|`(tactic|ac_rfl)=>do
  let n:=Lean.mkIdent `N
  let h:=Lean.mkIdent `hN
  `(tactic|(refine $h _ ?_;clear $h $n))
local macro_rules|`(tactic|right)=>`(tactic|walk_at "lc")
local macro_rules|`(tactic|exists $ts,*)=>`(tactic|wp_walk using $ts,*)
local macro_rules|`(tactic|left)=>do
  let i:=#[`args,`Qt,`hl,`h,`f,`cdv,`A,`outer,`s,`H,`E,`hr].map Lean.mkIdent
  let u:=Lean.mkIdent `hu
  `(tactic|(intro $[$i:ident]*;have $u:ident:=aZ $(Lean.mkIdent `hr)))
namespace Kr
noncomputable def ks(L:Nat):List Nat->Nat
 |[]=>0
 |l::r=>2^(L-l)+ks L r
theorem cq(L:Nat):∀ a b,ks L (a++b)=ks L a+ks L b
 |[],b=>by simp[ks]
 |x::a,b=>by simp[ks,cq L a b];lia
theorem h9(h:a.Perm b):ks L a=ks L b:=by
 induction h with
 |nil=>rfl
 |cons x _ ih=>simp[ks,ih]
 |swap x y l=>simp[ks];lia
 |trans _ _ h1 h2=>exact h1.trans h2
theorem u7{d l:Nat}(h:d<l)(hl:l<=L):2^(L-d)=2*2^(L-(d+1)):=by
 have:L-d=(L-(d+1))+1:=by lia
 rw[this,O0];lia
noncomputable def fit:List Nat->Nat->Nat->Nat->Prop:=fun r free depth L=>ks L r<=free*2^(L-depth)
theorem Cn{L d:Nat}:∀{r:List Nat},(∀ x∈r,d<=x)->ks L r<=r.length*2^(L-d)
 |[],_=>by simp[ks]
 |x::r,h=>by
  have ih:=Cn (L:=L) (d:=d) (r:=r) fun y hy=>h y (KZ _ hy);have hx:=h x K_;have:=O1 (n:=2) (by decide) (Nat.sub_le_sub_left hx L)
  simp only[ks,Lf,OY];lia
theorem DH{x:Nat}{r:List Nat}:0<ks L (x::r):=by
 have:=Nat.pow_pos (n:=L-x) (show 0<2 by decide)
 simp only[ks];lia
theorem pK{r:List Nat}{depth:Nat}(h:∀ x∈r,depth<=x)(hf:r.length<=free):fit r free depth L:=
 Lk (Cn h) (Nat.mul_le_mul_right _ hf)
theorem pM{r:List Nat}{depth l:Nat}(h:depth<l)(hl:l<=L):fit r free depth L ↔ fit r (free*2) (depth+1) L:=by
 unfold fit;rw[u7 h hl,OO]
theorem wW{r:List Nat}{l:Nat}(hf:0<free):fit (l::r) free l L ↔ fit r (free-1) l L:=by
 unfold fit;simp only[ks];obtain⟨f,rfl⟩:∃ f,free=f+1:=⟨free-1,by lia⟩
 rw[Nat.add_sub_cancel,OY];lia
theorem yi{x:Nat}{r:List Nat}{depth L:Nat}:¬ fit (x::r) 0 depth L:=by
 unfold fit;have:=DH (L:=L) (x:=x) (r:=r);lia
end Kr
noncomputable def nI:List Int->List L2.T:=List.map L2.T.int
theorem bU(xs:List Int):(nI xs).length=xs.length:=Lb ..
theorem EU(xs ys:List Int):nI (xs++ys)=nI xs++nI ys:=L5
theorem CG{i:Int}{v:Int}(h:aY xs i=some v):aY (nI xs) i=some (.int v):=by
 unfold aY at h ⊢;unfold nI;rw[Lb]
 cases e:ie xs.length i with
 |none=>rw[e] at h;cases h
 |some j=>rw[e] at h;have h':xs[j]?=some v:=h;show (List.map L2.T.int xs)[j]?=_;rw[Lr,h'];rfl
theorem Ar(xs:List Int)(a b:Option Int):Y.bT (nI xs) a b=nI (Y.bT xs a b):=by
 unfold Y.bT nI;rw[Lb,PX,PY]
noncomputable def jj(ls:List Int):Prop:=0<ls.length/\ls.length<=20/\∀ x∈ls,1<=x/\x<=40
noncomputable def KS(ls:List Int):Nat:=Kr.ks 40 (ls.map Int.toNat)
noncomputable def mP(ls:List Int):Bool:=decide (KS ls<=2^40)
noncomputable def dH(n:Nat)(d:L2.T):Prop:=∃(m:Nat) (i t z:Int),d=.lst [.il m,.int i,.int t,.int z]/\0<=i/\i<=m/\m<=63/\0<=t/\t<=n
theorem dH.mono{m:Nat}{d:L2.T}(h:dH n d)(hm:n<=m):dH m d:=by
 obtain⟨k,i,t,z,h1,h2,h3,h4,h5,h6⟩:=h;exact⟨k,i,t,z,h1,h2,h3,h4,h5,by lia⟩
noncomputable def Ho:dG:=fun args Q=>∃ c k:Int,args=[.int c,.int k]/\0<=k/\k<2^60/\∀ v:Int,Q (.tr (.int v)) []
abbrev k15z(P w K mg base):=ae P w K mg base aX 1 "_law_mix" ["number","turn"] (spT K [false,false] Ho)
theorem Eh(T:Txt K mg)(F:HasFn K mg "_law_mix" eU ["number","turn"]):k15z P w K mg base:=by
 refine F.gC fE [false,false] rfl (by decide) ?_;left;obtain⟨c,k,rfl,h0,h1,q⟩:=h;refine⟨_,(Y.ab (Y.set (i:=2) fE.nd rfl (by right) (Y.op dX Y.b_ (Y.op (Y.au K rfl) Y.av (Y.op (Y.au K rfl) Y.av (Y.op (Y.au K rfl) Y.av (Y.op dX Y.b_ (Y.vS 0) Y.int) (Y.op (Y.bY K rfl) Y.bF (Y.op (Y.bY K rfl) Y.bF Y.int (Y.vS 1)) (Y.vS 1))) (Y.op (Y.bY K rfl) Y.bF Y.int (Y.vS 1))) Y.int) Y.int))
   (Y.ab (Y.set (i:=2) fE.nd rfl (by right) (Y.op dX Y.b_ (Y.op (Y.bY K rfl) Y.bF (Y.vS 2) (Y.vS 2)) Y.int))
   (Y.az (Y.ret (Y.op Y.jm Y.b_ (Y.op dX Y.b_ (Y.op (Y.au K rfl) Y.av (Y.op (Y.bY K rfl) Y.bF (Y.vS 2) Y.int) (Y.vS 1)) Y.int) Y.int))))),?_⟩
 refine ao fun N hN=>?_;rfl';refine⟨by decide,.inl (by decide),.inr ⟨by lia,by lia⟩,.inl (by decide),by decide,?_⟩
 ac_rfl;generalize hx:(c % 1999999927+7001*k*k+40009*k+17) % 2147483629=x;have hx1:0<=x/\x<2147483629:=by rw[<- hx];exact⟨MA _ (by decide),Mz _ (by decide)⟩
 refine ao fun N hN=>?_;rfl';refine⟨.inl ⟨by lia,by lia⟩,by decide,?_⟩
 ac_rfl;generalize hy:x*x % 2147483587=y;have hy1:0<=y/\y<2147483587:=by rw[<- hy];exact⟨MA _ (by decide),Mz _ (by decide)⟩
 rfl';exact⟨.inr (by decide),by decide,⟨by decide,by decide⟩,q _⟩
noncomputable def CC:dG:=fun args Q=>∃ ns:List Int,args=[.e7 (nI ns)]/\∀ d,dH 0 d->Q (.fr d) []
theorem Ac(T:Txt K mg)(F:HasFn K mg "_law_deck" cT ["script"]):ae P w K mg base aX 1 "_law_deck" ["script"] (spT K [false] CC):=by
 refine F.gC m9 [false] rfl (by decide) ?_;left;obtain⟨ns,rfl,q⟩:=h;refine⟨_,(Y.az (Y.ret (Y.ef (Y.kA (osc:=aa cT) (ON:=["script"]) (own:=["cell"]) (N:=["cell","script"]) ⟨rfl,by decide +kernel,rfl,by decide +kernel,by decide +kernel,by decide +kernel,by decide +kernel,by decide +kernel⟩ rfl rfl rfl rfl (Y.anyS K rfl (Y.eO K rfl (Y.vS 0) Y.AU (Y.ve Y.int))) (fun _ _ _ _=>(Z.aK (i:=0) (show List.Nodup (["cell","script"]:List Str) by decide +kernel) rfl (by right))) (fun _ _ _ _=>Y.pI) (fun _ _ _ _=>(Y.cb zl Y.Fb rfl T.FL (by decide +kernel) (Y.cons (Y.vS 0) Y.nil)))) (Y.cons Y.int (Y.cons Y.int (Y.cons (Y.op dX Y.b_ (Y.op (Y.au K rfl) Y.av (Y.cb (Y.tV K rfl rfl) Y.CQ rfl T.FZ (by decide +kernel) (Y.cons (Y.eO K rfl (Y.vS 0) Y.AU (Y.ve Y.int)) Y.nil)) (Y.op (Y.bY K rfl) Y.bF Y.int (Y.cb (Y.aH K rfl) Y.ba rfl T.cG (by decide +kernel) (Y.cons (Y.vS 0) Y.nil)))) Y.int) Y.nil)))))),?_⟩
 obtain⟨ms,ec,hm⟩:∃ ms:List Int,Y.bT (nI ns) none (some 63)=nI ms/\ms.length<=63:=by
  refine⟨Y.bT ns none (some 63),Ar _ _ _,?_⟩;unfold Y.bT;rw[show (some (63:Int))=some ((63:Nat):Int) from rfl,HT.fO,HT.gP,L7];lia
 exists ec;refine cO (fun rest acc μ=>∃(as bs:List Int),rest=nI as/\acc=nI bs/\bs.length+as.length=ms.length/\(∀ z∈bs,0<=z)/\μ=[.tr (.e7 (nI ns))]) ⟨ms,[],rfl,rfl,by simp,fun z hz=>(nomatch hz),rfl⟩ ?_ ?_
 ·rintro acc μ ⟨as,bs,e,rfl,h1,h2,rfl⟩;refine⟨trivial,?_⟩;exists ec;exact⟨ms,rfl,.inl (by decide),by decide,⟨bs,rfl,h2⟩,q _ ⟨bs.length,0,0,_,by rw[bU],by decide,by lia,by lia,by decide,by decide⟩⟩
 ·rintro t r acc μ M ⟨as,bs,e,rfl,h1,h2,rfl⟩ k
  cases as with
  |nil=>cases e
  |cons a as =>
   cases e;refine⟨trivial,?_,?_⟩
   ·rw[bU];exact Lv (show bs.length<64 by rw[Lf] at h1;lia) (by decide)
   ·rfl';refine k _ _ ⟨as,bs++[if a<0 then -a else a],rfl,(EU bs [if a<0 then -a else a]).symm,?_,fun z hz=>?_,rfl⟩
    ·rw[KY,<- h1];simp only[Lf,LC];lia
    ·rcases LY.mp hz with hz|hz
     ·exact h2 z hz
     ·rw[Lo.mp hz];split<;>lia
noncomputable def iX:dG:=fun args Q=>∃(d:L2.T) (m:Int) (n:Nat),args=[d,.int m]/\dH n d/\n<2^50/\0<m/\m<2^50/\∀(v:Int) (d':L2.T),0<=v->v<m->dH (n+1) d'->Q (.tr (.int v)) [d']
abbrev k0z(P w K mg base):=ae P w K mg base aX 2 "_law_draw" ["deck","most"] (spT K [true,false] iX)
theorem BA(T:Txt K mg)(F:HasFn K mg "_law_draw" dO ["deck","most"])(h_law_mix:k15z P w K mg base):k0z P w K mg base:=by
 refine F.gC gU [true,false] rfl (by decide) ?_;left;obtain⟨_,m,n,rfl,⟨k,i,t,z,rfl,i0,i1,k63,t0,t1⟩,hn,hm0,hm1,q⟩:=h;refine⟨_,(Y.ab (Y.asg (Y.op (Y.au K rfl) Y.av (Y.ix (Y.aB K rfl) Y.af (Y.vS 0) Y.int) Y.int) (Y.mT (Y.vS 0) Y.int))
   (Y.ab (Y.eJ (Y.bg (Y.cc K rfl (LA hu)) Y.dA (Y.ix (Y.aB K rfl) Y.af (Y.vS 0) Y.int) (Y.cb uX Y.BD rfl T.cG (by decide +kernel) (Y.cons (Y.ix (Y.aB K rfl) Y.af (Y.vS 0) Y.int) Y.nil))) (Y.az (Y.ret (Y.op dX Y.b_ (Y.fn K rfl h_law_mix (hr.mono (by decide)) rfl ay (Y.cons (Y.ix (Y.aB K rfl) Y.af (Y.vS 0) Y.int) (Y.cons (Y.ix (Y.aB K rfl) Y.af (Y.vS 0) Y.int) Y.nil))) (Y.vS 1)))) Y.b6)
   (Y.ab (Y.set (i:=2) gU.nd rfl (by right) (Y.ix GH Y.EC (Y.ix (Y.aB K rfl) Y.af (Y.vS 0) Y.int) (Y.ix (Y.aB K rfl) Y.af (Y.vS 0) Y.int)))
   (Y.ab (Y.eJ (Y.bg kC Y.fH (Y.vS 2) (Y.op DQ Y.b_ Y.int Y.int)) (Y.ab (Y.asg (Y.op (Y.au K rfl) Y.av (Y.ix (Y.aB K rfl) Y.af (Y.vS 0) Y.int) Y.int) (Y.mT (Y.vS 0) Y.int))
   (Y.az (Y.ret (Y.op dX Y.b_ (Y.fn K rfl h_law_mix (hr.mono (by decide)) rfl ay (Y.cons (Y.vS 2) (Y.cons (Y.ix (Y.aB K rfl) Y.af (Y.vS 0) Y.int) Y.nil))) (Y.vS 1))))) Y.b6)
   (Y.ab (Y.asg (Y.op Y.jm Y.b_ (Y.vS 2) (Y.vS 1)) (Y.GV (Y.ix (Y.aB K rfl) Y.af (Y.vS 0) Y.int) (Y.ix (Y.aB K rfl) Y.af (Y.vS 0) Y.int)))
   (Y.az (Y.ret (Y.op dX Y.b_ (Y.vS 2) (Y.vS 1))))))))),?_⟩
 have x1:ie 4 1=some 1:=by decide
 have x2:ie 4 2=some 2:=by decide
 refine ao fun N hN=>?_;exists x2;symm;rfl';by_cases e1:i=k
 ·exists Li e1;refine⟨by lia,_,_,rfl,by lia,by lia,fun v=>?_⟩
  rfl';exact⟨hm0,q _ _ (MA _ (by lia)) (Mz _ hm0) ⟨k,i,t+1,z,rfl,i0,i1,k63,by lia,by lia⟩⟩
 ·exists Lc e1;refine⟨by lia,hN _ ?_⟩;clear hN N
  refine ao fun N hN=>?_;rfl';refine⟨by lia,i0,by lia,fun v v0=>hN _ ?_⟩;clear hN N
  refine ao fun N hN=>?_;rfl';refine⟨⟨by decide,by decide,by decide⟩,?_⟩
  by_cases e2:v<1000000000000000000
  ·rw[Li e2];refine ao fun M hM=>?_;exists x1;refine hM _ ?_;clear hM M;rfl';refine⟨_,_,rfl,by lia,by lia,fun v=>?_⟩
   rfl';exact⟨hm0,q _ _ (MA _ (by lia)) (Mz _ hm0) ⟨k,i+1,t+1,z,rfl,by lia,by lia,k63,by lia,by lia⟩⟩
  ·rw[Lc e2];ac_rfl;refine ao fun M hM=>?_;rfl';refine⟨⟨hm0,by lia⟩,by lia,i0,by lia,Int.ediv_nonneg v0 (by lia),hM _ ?_⟩;clear hM M
   rfl';exact⟨hm0,q _ _ (MA _ (by lia)) (Mz _ hm0) ⟨k,i,t+1,z,rfl,i0,i1,k63,by lia,by lia⟩⟩
noncomputable def Cg:dG:=fun args Q=>∃(c:L2.T) (ls:List Int),args=[c]/\(c=.tup (nI ls)\/c=.lst (nI ls))/\jj ls/\Q (.tr (.bl (mP ls))) []
theorem DF(T:Txt K mg)(F:HasFn K mg "can_be" h_ ["lengths"]):ae P w K mg base aX 1 "can_be" ["lengths"] (spT K [false] Cg):=by
 refine F.gC bM [false] rfl (by decide) ?_;left;obtain⟨c,ls,rfl,hc,hL,q⟩:=h;have hlen:oj c=Ou.ok (.tr (.int (ls.length:Int))):=by rcases hc with rfl|rfl<;>(rw[<- bU ls];rfl)
 have hsrt:∀(μ:Mu) (Q:R->Mu->Prop),Y.yQ c μ Q=(∃ ns:List Int,nI ls=ns.map L2.T.int/\ns.length<64/\∀ ns':List Int,ns'.Perm ns->ns'.Pairwise (·<=·)->Q (.fr (.lst (ns'.map L2.T.int))) μ):=fun μ Q=>by rcases hc with rfl|rfl<;>rfl
 refine⟨_,(Y.ab (Y.set (i:=1) bM.nd rfl (by right) Y.int)
   (Y.ab (Y.set (i:=2) bM.nd rfl (by right) Y.int)
   (Y.ab (Y.set (i:=3) bM.nd rfl (by right) (Y.cb (Y.aH K rfl) Y.ba rfl T.cG (by decide +kernel) (Y.cons (Y.vS 0) Y.nil)))
   (Y.ab (Y.gg LR rfl (Y.anyS K rfl (Y.cb (Y.o_ K rfl) Y.xX rfl T.jo (by decide +kernel) (Y.cons (Y.vS 0) Y.nil))) (Y.aK (i:=4) bM.nd rfl (by right)) (Y.ab (Y.eJ (Y.bg (Y.cc K rfl (LA hu)) Y.dA (Y.vS 1) Y.int) (Y.az (Y.ret Y.bl)) Y.b6)
   (Y.ab (Y.m5 LR (Y.tw (Y.Bg (Y.bg kC Y.fH (Y.vS 2) (Y.vS 4)) (Y.sS (Y.bg kC Y.fH (Y.vS 1) (Y.vS 3))))) (Y.ab (Y.set (i:=1) bM.nd rfl (by right) (Y.op (Y.bY K rfl) Y.bF (Y.vS 1) Y.int))
   (Y.az (Y.set (i:=2) bM.nd rfl (by right) (Y.op (Y.au K rfl) Y.av (Y.vS 2) Y.int)))))
   (Y.ab (Y.eJ (Y.bg CH Y.fH (Y.vS 1) (Y.vS 3)) (Y.az (Y.ret Y.bl)) Y.b6)
   (Y.ab (Y.set (i:=1) bM.nd rfl (by right) (Y.op dW Y.cN (Y.vS 1) Y.int))
   (Y.az (Y.set (i:=3) bM.nd rfl (by right) (Y.op dW Y.cN (Y.vS 3) Y.int))))))))
   (Y.az (Y.ret Y.bl)))))),?_⟩
 refine ao fun N hN=>?_;rfl';symm;rfl';symm;exists hlen;symm;exists hsrt;refine⟨ls,rfl,by have:=hL.2.1;lia,fun rs hp hs=>?_⟩
 refine bD (fun rest μ=>∃(r:List Int) (f d n:Int) (s4:Option L2.T),rest=nI r/\r.Pairwise (·<=·)/\(∀ x∈r,1<=x/\x<=40/\d<=x)/\0<=f/\0<=d/\n=r.length/\(mP ls=true ↔ Kr.fit (r.map Int.toNat) f.toNat d.toNat 40)/\μ=[.tr c,.tr (.int f),.tr (.int d),.tr (.int n),sl s4])
  ⟨rs,1,0,_,none,rfl,hs,fun x hx=>by have:=hL.2.2 x (hp.mem_iff.mp hx);lia,by decide,by decide,by rw[hp.length_eq],?_,rfl⟩ ?_ ?_
 ·unfold mP KS Kr.fit;rw[Nt,Kr.h9 (hp.map Int.toNat),show (1:Int).toNat*2^(40-(0:Int).toNat)=2^40 from rfl]
 ·rintro μ ⟨r,f,d,n,s4,e,_,_,_,_,_,hi,rfl⟩
  cases r with
  |cons=>cases e
  |nil =>
   show N _;ac_rfl;rfl';have:mP ls=true:=hi.mpr (LH _);rw[this] at q;exact q
 ·rintro t ts μ M ⟨r,f,d,n,s4,e,hs,hx,f0,d0,hn,hi,rfl⟩ k
  cases r with
  |nil=>cases e
  |cons l r =>
   cases e;obtain⟨hl1,hl2,hl3⟩:=hx l (by simp)
   have hle:∀ x∈r,l<=x:=(L9.mp hs).1;rfl';refine ao fun M' hM=>?_;by_cases hf:f=0
   ·exists Li hf;have:mP ls=false:=by
     cases c:mP ls with
     |false=>rfl
     |true=>have:=hi.mp c;rw[hf] at this;exact absurd this Kr.yi
    rw[this] at q;exact q
   ·exists Lc hf;refine hM _ ?_;clear hM M';refine ao fun M' hM=>?_;have after:∀ f d:Int,0<f->0<=d->d<=l->(d=l\/n<=f)->(mP ls=true ↔ Kr.fit ((l::r).map Int.toNat) f.toNat d.toNat 40)->M' [.tr c,.tr (.int f),.tr (.int d),.tr (.int n),.tr (.int l)]:=fun f d f0 d0 dl hc hi=>by
     refine hM _ ?_;clear hM M';refine ao fun M' hM=>?_;by_cases h3:n<=f
     ·exists Li h3;have:mP ls=true:=hi.mpr (Kr.pK (fun x hx=>by
       obtain⟨y,hy,rfl⟩:=L6.mp hx;rcases Le.mp hy with rfl|hy
       ·lia
       ·have:=hle y hy;lia) (by rw[Lb];lia))
      rw[this] at q;exact q
     ·exists Lc h3;refine hM _ ?_;clear hM M';refine ao fun M' hM=>?_;rfl';refine hM _ ?_;clear hM M';rfl';have hd:d=l:=hc.resolve_right h3;subst hd;refine k _ ⟨r,f-1,d,n-1,some _,rfl,(L9.mp hs).2,fun x hx'=>⟨(hx x (by simp[hx'])).1,(hx x (by simp[hx'])).2.1,hle x hx'⟩,by lia,d0,by rw[hn,Lf];lia,?_,rfl⟩
      rw[hi,L3,Kr.wW (by lia),show (f-1).toNat=f.toNat-1 by lia]
    refine⟨fun m μ=>∃ f d:Int,0<f/\0<=d/\d<=l/\m=(l-d).toNat/\(mP ls=true ↔ Kr.fit ((l::r).map Int.toNat) f.toNat d.toNat 40)/\μ=[.tr c,.tr (.int f),.tr (.int d),.tr (.int n),.tr (.int l)],⟨_,f,d,by lia,d0,hl3,rfl,hi,rfl⟩,?_⟩
    rintro m μ ⟨f,d,f0,d0,dl,rfl,hi,rfl⟩;by_cases c1:d<l
    ·by_cases c2:f<n
     ·exists Li c1,Li c2;refine ao fun M2 h2=>?_;rfl';refine⟨.inr (by decide),?_⟩
      refine h2 _ ?_;clear h2 M2;rfl';refine⟨_,?_,f*2,d+1,by lia,by lia,by lia,rfl,?_,rfl⟩
      ·lia
      ·rw[hi,Kr.pM (l:=l.toNat) (by lia) (by lia),show (f*2).toNat=f.toNat*2 by lia,show (d+1).toNat=d.toNat+1 by lia]
       exact Iff.rfl
     ·exists Li c1,Lc c2;exact after f d f0 d0 dl (.inr (by lia)) hi
    ·exists Lc c1;exact after f d f0 d0 dl (.inl (by lia)) hi
namespace Cw
noncomputable def inc:List Nat->List Nat
 |[]=>[]
 |c::r=>if r.all (· == 49) then (if c=48 then 49::r.map (fun _=>48) else 48::r.map (fun _=>48)) else c::inc r
noncomputable def pad(n:Nat)(w:List Nat):List Nat:=w++List.replicate (n-w.length) 48
noncomputable def eC(w:List Nat)(n:Nat):List Nat:=pad n (inc w)
noncomputable def fm(w:List Nat)(n:Nat):List Nat:=pad n ((w.reverse.dropWhile (· == 49)).reverse.dropLast++[49])
theorem FW:∀ w:List Nat,w.all (· == 49)=true->inc w=w.map fun _=>48
 |[],_=>rfl
 |c::r,h=>by
  rw[L_,LQ] at h;have hc:c=49:=PN.mp h.1;unfold inc;rw[Li h.2,Lc (by rw[hc];decide),L3]
theorem lY:∀{l:List Nat},l.all (· == 49)=true->l=List.replicate l.length 49
 |[],_=>rfl
 |c::r,h=>by
  rw[L_,LQ] at h;have hc:c=49:=PN.mp h.1;rw[Lf,LN,<- lY h.2,hc]
theorem zQ(k:Nat):(List.replicate k 49).all (· == 49)=true:=by
 rw[Mj];intro x hx;rw[(MJ.mp hx).2];rfl
theorem parts:∀{w:List Nat},(∀ c∈w,c=48\/c=49)->w.all (· == 49)=false->∃ p k,w=p++48::List.replicate k 49
 |[],_,h=>by cases h
 |c::r,hb,h=>by
  by_cases z:r.all (· == 49)=true
  ·rw[L_,z,Bool.and_true] at h;have hc:c=48:=(hb c K_).resolve_right fun e=>by rw[e] at h;cases h
   exact⟨[],r.length,by rw[hc,Mg,<- lY z]⟩
  ·obtain⟨p,k,e⟩:=parts (w:=r) (fun x hx=>hb x (KZ _ hx)) (by simpa using z)
   exact⟨c::p,k,by rw[e];rfl⟩
theorem fR(k:Nat):∀ p:List Nat,inc (p++48::List.replicate k 49)=p++49::List.replicate k 48
 |[]=>by
  rw[Mg,Mg];unfold inc;rw[Li (zQ k),Li rfl,List.map_replicate]
 |c::p=>by
  rw[Mw];unfold inc;have z:¬ (p++48::List.replicate k 49).all (· == 49)=true:=by
   rw[List.all_append,L_];simp
  rw[Lc z,fR k p];rfl
theorem ph(k:Nat)(p:List Nat):((p++48::List.replicate k 49).reverse.dropWhile (· == 49)).reverse=p++[48]:=by
 rw[O5,List.reverse_cons,List.reverse_replicate];have e:∀(k:Nat) (t:List Nat),(List.replicate k 49++[48]++t).dropWhile (· == 49)=[48]++t:=fun k t=>by
  induction k with
  |zero=>rfl
  |succ k ih=>rw[LN,Mw,Mw,N9,Li (by decide)];exact ih
 rw[e,O5,N5];rfl
theorem ko{w:List Nat}(hb:∀ c∈w,c=48\/c=49)(h:w.all (· == 49)=false)(hn:w.length<=n):fm w n=eC w n:=by
 obtain⟨p,k,rfl⟩:=parts hb h;unfold fm eC pad;rw[ph,fR,List.dropLast_append_of_ne_nil (by simp)]
 rw[KY,Lf,Ln] at hn;simp only[List.dropLast_singleton,L8,KY,Lf,Ln,LC,Ls,Mw,Mg];congr 2;rw[List.replicate_append_replicate];congr 1;lia
noncomputable def val:List Nat->Nat
 |[]=>0
 |c::r=>(c-48)*2^r.length+val r
theorem fV:∀ a b:List Nat,val (a++b)=val a*2^b.length+val b
 |[],b=>by simp[val]
 |c::a,b=>by
  rw[Mw,val,val,fV a b,KY,Nat.pow_add,Nat.add_mul,OO,MM]
theorem eF:∀ k,val (List.replicate k 48)=0
 |0=>rfl
 |k+1=>by rw[LN,val,eF k];simp
theorem ja:∀ k,val (List.replicate k 49)+1=2^k
 |0=>rfl
 |k+1=>by
  have:=ja k;rw[LN,val,Ln,O0];lia
theorem mm:∀ w:List Nat,(inc w).length=w.length
 |[]=>rfl
 |c::r=>by
  unfold inc;split
  ·split<;>simp
  ·rw[Lf,Lf,mm r]
theorem nE:∀{w:List Nat},(∀ c∈w,c=48\/c=49)->∀ c∈inc w,c=48\/c=49
 |[],_,_,h=>by cases h
 |d::r,hb,c,h=>by
  unfold inc at h
  split at h
  ·split at h
   ·rcases Le.mp h with h|h
    ·exact .inr h
    ·obtain⟨_,_,e⟩:=L6.mp h;exact .inl e.symm
   ·rcases Le.mp h with h|h
    ·exact .inl h
    ·obtain⟨_,_,e⟩:=L6.mp h;exact .inl e.symm
  ·rcases Le.mp h with h|h
   ·rw[h];exact hb d K_
   ·exact nE (fun x hx=>hb x (KZ _ hx)) c h
theorem d9{w:List Nat}(h:w.length<=n):(eC w n).length=n:=by
 unfold eC pad;rw[KY,Ln,mm];lia
theorem kJ{w:List Nat}(hb:∀ c∈w,c=48\/c=49):∀ c∈eC w n,c=48\/c=49:=fun c h=>by
 rcases LY.mp h with h|h
 ·exact nE hb c h
 ·exact .inl (MJ.mp h).2
theorem oR{w:List Nat}(hb:∀ c∈w,c=48\/c=49)(h:w.all (· == 49)=false):val (eC w n)=(val w+1)*2^(n-w.length):=by
 unfold eC pad;rw[fV,eF,Ln,mm,NJ];congr 1;obtain⟨p,k,rfl⟩:=parts hb h;have:=ja k;rw[fR,fV,fV,val,val,eF,Lf,Lf,Ln,Ln];lia
theorem wR{w:List Nat}(h:w.all (· == 49)=true):val w+1=2^w.length:=by
 rw[lY h,Ln];exact ja _
structure gE (done:List Nat) (w:List Nat):Prop where
 bits:∀ c∈w,c=48\/c=49
 len:w.length<=40
 sum:(val w+1)*2^(40-w.length)=Kr.ks 40 done
theorem gE.zero{rest w:List Nat}{l:Nat}(h:gE done w)(hk:Kr.ks 40 done+2^(40-l)<=2^40):w.all (· == 49)=false:=by
 cases z:w.all (· == 49) with
 |false=>rfl
 |true =>
  have e:=h.sum;rw[wR z,<- Nat.pow_add,Nat.add_sub_cancel' h.len] at e;have:0<2^(40-l):=Nat.pow_pos (by decide)
  lia
theorem gE.next{w:List Nat}{l:Nat}(h:gE done w)(hl:w.length<=l)(hl2:l<=40)(hk:Kr.ks 40 done+2^(40-l)<=2^40):gE (done++[l]) (eC w l):=by
 have z:=h.zero (rest:=[]) hk;refine⟨kJ h.bits,by rw[d9 hl];exact hl2,?_⟩
 rw[oR h.bits z,d9 hl,Nat.add_mul,OO,<- Nat.pow_add,Kr.cq,<- h.sum];have e:l-w.length+(40-l)=40-w.length:=by lia
 rw[e];simp[Kr.ks]
theorem gE.first{l:Nat}(hl:l<=40):gE [l] (List.replicate l 48):=⟨fun c h=>.inl (MJ.mp h).2,by rw[Ln];exact hl,by rw[eF,Ln];simp[Kr.ks]⟩
noncomputable def along(nx:List Nat->Nat->List Nat)(ln:Nat->Nat):List Nat->Option (List Nat)×List (List Nat)->Option (List Nat)×List (List Nat)
 |[],s=>s
 |t::r,(a,ws) =>
  let w:=match a with|none=>List.replicate (ln t) 48|some v=>nx v (ln t)
  along nx ln r (some w,ws.set t w)
theorem gI:∀(order done:List Nat) (a:Option (List Nat)) (ws:List (List Nat)),(order.Pairwise fun i j=>ln i<=ln j)->(∀ t∈order,ln t<=40)->(∀ v,a=some v->gE done v/\∀ t∈order,v.length<=ln t)->(a=none->done=[])->Kr.ks 40 (done++order.map ln)<=2^40->along fm ln order (a,ws)=along eC ln order (a,ws)
 |[],_,_,_,_,_,_,_,_=>rfl
 |t::r,done,a,ws,hp,h20,ha,hn,hk=>by
  obtain⟨p1,p2⟩:=L9.mp hp;have ht:=h20 t K_;have hk':Kr.ks 40 ((done++[ln t])++r.map ln)<=2^40:=by rw[Ls];exact hk
  cases a with
  |none =>
   have:=hn rfl;subst this;exact gI r [ln t] _ _ p2 (fun x hx=>h20 x (KZ _ hx)) (fun v e=>by cases e;exact⟨gE.first ht,fun x hx=>by rw[Ln];exact p1 x hx⟩) (fun e=>by cases e) hk'
  |some v =>
   obtain⟨hv,hl⟩:=ha v rfl;have hvl:=hl t K_;have hk2:Kr.ks 40 done+2^(40-ln t)<=2^40:=by
    rw[Kr.cq,Kr.cq] at hk';simp[Kr.ks] at hk';lia
   have e:=ko hv.bits (hv.zero (rest:=[]) hk2) hvl;show along fm ln r (some (fm v (ln t)),ws.set t (fm v (ln t)))=along eC ln r (some (eC v (ln t)),ws.set t (eC v (ln t)));rw[e];exact gI r (done++[ln t]) _ _ p2 (fun x hx=>h20 x (KZ _ hx)) (fun u e=>by cases e;exact⟨hv.next hvl ht hk2,fun x hx=>by rw[d9 hvl];exact p1 x hx⟩) (fun e=>by cases e) hk'
theorem eR{nx:List Nat->Nat->List Nat}:∀(a b:List Nat) (s:Option (List Nat)×List (List Nat)),along nx ln (a++b) s=along nx ln b (along nx ln a s)
 |[],_,_=>rfl
 |t::r,b,(a,ws)=>eR r b _
theorem fT{nx:List Nat->Nat->List Nat}:∀(o:List Nat) (s:Option (List Nat)×List (List Nat)),(along nx ln o s).2.length=s.2.length
 |[],_=>rfl
 |t::r,(a,ws)=>(fT r _).trans LV
end Cw
noncomputable def wd(w:List Nat):Str:=⟨w.toArray⟩
theorem aI(w:List Nat):(wd w).length=w.length:=Ld ..
theorem C8{w:List Nat}(h:x.cps.toList=w):x=wd w:=by
 cases x with|mk a=>subst h;unfold wd;rw[N7]
noncomputable def Ky:dG:=fun args Q=>∃ n:Nat,n<=40/\((args=[.aC,.int (n:Int)]/\Q (.tr (.str (wd (List.replicate n 48)))) [])\/∃ w,args=[.str (wd w),.int (n:Int)]/\w.length<=40/\Q (.tr (.str (wd (Cw.fm w n)))) [])
abbrev k11z(P w K mg base):=ae P w K mg base aX 1 "word_behind" ["ahead","length"] (spT K [false,false] Ky)
theorem ur(T:Txt K mg)(F:HasFn K mg "word_behind" cK ["ahead","length"]):k11z P w K mg base:=by
 refine F.gC jI [false,false] rfl (by decide) ?_;left;obtain⟨n,hn,h⟩:=h;refine⟨_,(Y.ab (Y.eJ (Y.bg d7 Y.dB (Y.vS 0) Y.aC) (Y.az (Y.ret (Y.op Y.zO Y.zH Y.str (Y.vS 1)))) Y.b6)
   (Y.az (Y.ret (Y.sm K rfl PySem.F.slot_str_ljust PySem.F.type_str_ljust Y.xH Y.wH (Y.op (Y.au K rfl) Y.av (Y.eO K rfl (Y.sm K rfl PySem.F.slot_str_rstrip PySem.F.type_str_rstrip Y.uS Y.vi (Y.vS 0) (Y.cons Y.str Y.nil)) Y.AU (Y.ve (Y.neg Y.int))) Y.str) (Y.cons (Y.vS 1) (Y.cons Y.str Y.nil)))))),?_⟩
 rcases h with ⟨rfl,q⟩|⟨v,rfl,hv,q⟩
 ·refine oy fun N hN=>?_;rfl';refine⟨48,by decide,by lia,by lia,?_⟩
  rw[LI];exact q
 ·refine oy fun N hN=>?_;rfl';rw[hN];clear hN N;rfl';have e0:(Str.ofString "1").cps.contains=fun c:Nat=>c == 49:=by
   funext c
   show (#[49]:Array Nat).contains c=_;rw[Array.contains_eq_any_beq];simp
  have e1:=mX (wd v) (Str.ofString "1");rw[e0] at e1;have e2:(Txt.rstripChars (wd v) (Str.ofString "1")).cps.toList=(v.reverse.dropWhile (· == 49)).reverse:=by
   rw[<- N5 (Txt.rstripChars (wd v) (Str.ofString "1")).cps.toList,e1];rfl
  generalize Txt.rstripChars (wd v) (Str.ofString "1")=r at e2;have hr2:r.length<=40:=by
   have:r.length=r.cps.toList.length:=by rw[LJ];rfl
   rw[this,e2,Nb];exact Lk (P6 _).length_le (by rw[Nb];exact hv)
  have e3:(Y.fC r none (some (-1))).cps.toList=r.cps.toList.dropLast:=by
   show (Y.bT r.cps.toList none (some (-1))).toArray.toList=_;rw[O6];unfold Y.bT;rw[HT.fO,Nx,Pb,PL];congr 1;show (if (-1:Int)<0 then ((-1:Int)+(r.cps.toList.length:Int)).toNat else min (-1:Int).toNat r.cps.toList.length)=_
   rw[Li (by decide)]
   lia
  have hl3:(Y.fC r none (some (-1))).length<=40:=by
   have:(Y.fC r none (some (-1))).length=(Y.fC r none (some (-1))).cps.toList.length:=by rw[LJ];rfl
   rw[this,e3,O2,LJ];exact Lk (Nat.sub_le _ _) hr2
  refine⟨by rw[aI];lia,Lk hr2 (by decide),Lk (show _<=41 from Nat.add_le_add_right hl3 1) (by decide),by lia,by lia,rfl,?_⟩
  have e4:Txt.ljustF (Y.fC r none (some (-1))++Str.ofString "1") (n:Int) ((Str.ofString "0").cps.getD 0 0)=wd (Cw.fm v n):=by
   refine C8 ?_;rw[PyProof.Rows.ljustF_list,LI];have e5:(Y.fC r none (some (-1))++Str.ofString "1").cps.toList=(v.reverse.dropWhile (· == 49)).reverse.dropLast++[49]:=by
    show ((Y.fC r none (some (-1))).cps++#[49]).toList=_;rw[NA,e3,e2]
   have e6:(Y.fC r none (some (-1))++Str.ofString "1").length=((v.reverse.dropWhile (· == 49)).reverse.dropLast++[49]).length:=by
    rw[<- e5,LJ];rfl
   rw[e5,e6];rfl
  rw[e4];exact q
noncomputable def aD(ls:List Int)(t:Nat):Nat:=(ls.getD t 0).toNat
noncomputable def bp(ls:List Int):List Nat:=iC ls (List.range ls.length)
noncomputable def wordsOf(nx:List Nat->Nat->List Nat)(ls:List Int):List (List Nat):=(Cw.along nx (aD ls) (bp ls) (none,List.replicate ls.length [])).2
noncomputable def wT(ws:List (List Nat)):List L2.T:=ws.map fun w=>.str (wd w)
theorem m7(ws:List (List Nat)):(wT ws).length=ws.length:=Lb ..
noncomputable def y9:dG:=fun args Q=>∃ ls:List Int,args=[.tup (nI ls)]/\jj ls/\mP ls=true/\Q (.tr (.tup (wT (wordsOf Cw.fm ls)))) []
noncomputable def Jk:Option (List Nat)->L2.T
 |none=>.aC
 |some w=>.str (wd w)
noncomputable def iz(ls:List Int)(done:List Nat):Option (List Nat)×List (List Nat):=Cw.along Cw.fm (aD ls) done (none,List.replicate ls.length [])
theorem sF{v:List Nat}(hv:v.length<=40)(hn:n<=40):(Cw.fm v n).length<=40:=by
 have h1:((v.reverse.dropWhile (· == 49)).reverse.dropLast).length<=39:=by
  rw[O2,Nb];have:=(P6 (· == 49) (l:=v.reverse)).length_le;rw[Nb] at this;lia
 unfold Cw.fm Cw.pad;rw[KY,Ln,KY,LD];lia
theorem hJ{t:Nat}(h:t∈bp ls):t<ls.length:=Mx.mp ((jd (by rw[Lz])).mem_iff.mp h)
theorem yS(ls:List Int)(done:List Nat):(iz ls done).2.length=ls.length:=by
 unfold iz;rw[Cw.fT,Ln]
theorem zF(T:Txt K mg)(F:HasFn K mg "code_of" cm ["lengths"])(hcan_be:ae P w K mg base aX 1 "can_be" ["lengths"] (spT K [false] Cg))(hword_behind:k11z P w K mg base):
  ae P w K mg base aX 4 "code_of" ["lengths"] (spT K [false] y9):=by
 obtain⟨c,Pt,htab,hcc⟩:=T.oK.ex;refine F.G1 dD [false] rfl (by decide) (fun args Qt hl h f cdv A outer s H E hr hm gJ=>?_)
 have:=hcc _ _ ⟨hm,gJ⟩;subst this;have hu:=aZ hr;obtain⟨ls,rfl,hL,ho,q⟩:=h;refine⟨_,(Y.ab (Y.eJ (Y.p5 (Y.iK K rfl (Y.fn K rfl hcan_be (hr.mono (by decide)) rfl ay (Y.cons (Y.vS 0) Y.nil)))) (Y.az Y.mf) Y.b6)
   (Y.ab (Y.Hc (j:=1) dD.nd rfl (by right) (osc:=aa cm) (ON:=["lengths","words","ahead","thing"]) (own:=["length"]) (N:=["length","lengths","words","ahead","thing"]) ⟨rfl,by decide +kernel,rfl,by decide +kernel,by decide +kernel,by decide +kernel,by decide +kernel,by decide +kernel⟩ rfl rfl rfl rfl (Y.anyS K rfl (Y.vS 0)) (fun _ _ _ _=>(Z.aK (i:=0) (show List.Nodup (["length","lengths","words","ahead","thing"]:List Str) by decide +kernel) rfl (by right))) (fun _ _ _ _=>Y.pI) (fun _ _ _ _=>Y.str))
   (Y.ab (Y.set (i:=2) dD.nd rfl (by right) Y.aC)
   (Y.ab (Y.gg LR rfl (Y.anyS K rfl (Y.Hi (k:=0) (j:=0) K rfl (by decide) htab rfl rfl rfl rfl rfl T.jo (Y.cons (Y.ct Y.nM Y.y1 rfl T.cY (by decide +kernel) (Y.cons (Y.cb (Y.aH K rfl) Y.ba rfl T.cG (by decide +kernel) (Y.cons (Y.vS 0) Y.nil)) Y.nil)) Y.nil) (hr.mono (by decide)) rfl (by decide) rfl rfl rfl rfl rfl rfl rfl (fun _ _ _ _=>rfl))) (Y.aK (i:=3) dD.nd rfl (by right)) (Y.ab (Y.asg (Y.fn K rfl hword_behind (hr.mono (by decide)) rfl ay (Y.cons (Y.vS 2) (Y.cons (Y.ix (Y.aB K rfl) Y.af (Y.vS 0) (Y.vS 3)) Y.nil))) (Y.mT (Y.vS 1) (Y.vS 3)))
   (Y.az (Y.set (i:=2) dD.nd rfl (by right) (Y.ix (Y.aB K rfl) Y.af (Y.vS 1) (Y.vS 3))))))
   (Y.az (Y.ret (Y.ct (Y.cJ K rfl) Y.dz rfl T.cZ (by decide +kernel) (Y.cons (Y.vS 1) Y.nil)))))))),?_⟩
 refine oy fun N hN=>?_;rfl';refine⟨_,ls,rfl,.inl rfl,hL,?_⟩;exists ho;rw[hN];clear hN N;refine oy fun N hN=>?_;rfl';refine cO (fun rest acc μ=>rest.length+acc.length=ls.length/\acc=wT (List.replicate acc.length [])/\μ=[.tr (.tup (nI ls)),.un,.un,.un]) ⟨by rw[bU];rfl,rfl,rfl⟩ ?_ ?_
 ·rintro acc μ ⟨e1,e2,rfl⟩;have e3:acc=wT (List.replicate ls.length []):=by rw[<- show acc.length=ls.length by simpa using e1];exact e2
  clear e1 e2;subst e3;rfl';refine⟨trivial,?_⟩;rw[hN];clear hN N;refine oy fun N hN=>?_;rfl';rw[hN];clear hN N;refine oy fun N hN=>?_;exists bU;refine⟨ls,rfl,rfl,by have:=hL.2.1;lia,?_⟩
  refine bD (fun rest μ=>∃(done todo:List Nat) (o:Option L2.T),done++todo=bp ls/\(rest=todo.map fun k=>L2.T.int ((k:Nat):Int))/\(∀ v,(iz ls done).1=some v->v.length<=40)/\μ=[.tr (.tup (nI ls)),.bx (.lst (wT (iz ls done).2)),.tr (Jk (iz ls done).1),sl o]) ⟨[],bp ls,none,rfl,rfl,(fun v z=>by cases z),rfl⟩ ?_ ?_
  ·rintro μ ⟨done,todo,o,e1,e2,_,rfl⟩;have e3:todo=[]:=by simpa using e2.symm
   subst e3;rw[L8] at e1;subst e1;show N _;rw[hN];clear hN N;rfl';exact q
  ·rintro t r μ M ⟨done,todo,o,e1,e2,hw,rfl⟩ k
   cases todo with
   |nil=>cases e2
   |cons th todo =>
    obtain⟨rfl,rfl⟩:=List.cons.inj e2;have hth:th<ls.length:=hJ (by rw[<- e1];simp)
    have ex:aY (nI ls) (th:Int)=some (.int ls[th]):=CG (aW (KW hth));have xk:ie (wT (iz ls done).2).length (th:Int)=some th:=by
     unfold ie;rw[m7,yS,Li (by lia),Li (by lia)];simp
    have hlt:=hL.2.2 _ (L1 hth);have en:((aD ls th:Nat):Int)=ls[th]:=by
     unfold aD;rw[Lp,KW hth];simp;lia
    have hn20:aD ls th<=40:=by lia
    have eD:iz ls (done++[th])=Cw.along Cw.fm (aD ls) [th] (iz ls done):=Cw.eR _ _ _;have fin:∀ y:List Nat,y.length<=40->iz ls (done++[th])=(some y,(iz ls done).2.set th y)->M [.tr (.tup (nI ls)),.bx (.lst ((wT (iz ls done).2).set th (.str (wd y)))),.tr (.str (wd y)),.tr (.int (th:Int))]:=fun y hy e=>by
     refine k _ ⟨done++[th],todo,some (.int (th:Int)),by rw[<- e1];simp,rfl,fun v z=>by rw[e] at z;cases z;exact hy,?_⟩
     rw[e];unfold wT;rw[NM];rfl
    have setI:∀ y:List Nat,aY ((wT (iz ls done).2).set th (.str (wd y))) (th:Int)=some (.str (wd y)):=fun y=>aW (LK (by rw[m7,yS];exact hth))
    cases hs:iz ls done with
    |mk a ws =>
     rw[hs] at fin eD xk setI hw;dsimp only at fin xk setI
     cases a with
     |none =>
      rfl';refine oy fun N2 h2=>?_;exists ex,xk,Jk;refine⟨aD ls th,hn20,.inl ⟨by rw[en],?_⟩⟩
      rfl';rw[h2];clear h2 N2;exists xk,setI;exact fin _ (by rw[Ln];exact hn20) eD
     |some v =>
      rfl';refine oy fun N2 h2=>?_;exists ex,xk,Jk;refine⟨aD ls th,hn20,.inr ⟨v,by rw[en],hw v rfl,?_⟩⟩
      rfl';rw[h2];clear h2 N2;exists xk,setI;exact fin _ (sF (hw v rfl) hn20) eD
 ·rintro t r acc μ M ⟨e1,e2,rfl⟩ k;rfl';rw[Lf] at e1;refine⟨trivial,LX (show acc.length<=40 by have:=hL.2.1;lia) (by decide),k _ _ ⟨by rw[KY];simp;lia,?_,rfl⟩⟩
  rw[KY,LD,List.replicate_succ',wT,L5,<- wT,<- e2];rfl
namespace Cw
noncomputable def Dv(a b:List Nat):Prop:=∃ u,u++[48] <+: a/\u++[49] <+: b
theorem oY{u v:List Nat}{c d:Nat}(h1:u++[c] <+: b)(h2:v++[d] <+: b)(hl:u.length<v.length):u++[c] <+: v:=by
 have h3:v <+: b:=(Mi v [d]).trans h2;exact Nc h1 h3 (by rw[KY];exact hl)
theorem Dv.trans{c:List Nat}(h:Dv a b)(g:Dv b c):Dv a c:=by
 obtain⟨u,h1,h2⟩:=h;obtain⟨v,g1,g2⟩:=g;rcases Nat.lt_trichotomy u.length v.length with e|e|e
 ·exact⟨u,h1,(oY h2 g1 e).trans ((Mi v [49]).trans g2)⟩
 ·have p1:(u++[49]).length=(v++[48]).length:=by rw[KY,KY,e];rfl
  have p2:u++[49]=v++[48]:=(Nc h2 g1 (by lia)).eq_of_length p1
  have p3:[49]=[48]:=(List.append_inj' p2 rfl).2;exact absurd p3 (by decide)
 ·exact⟨v,(oY g1 h2 e).trans ((Mi u [48]).trans h1),g2⟩
theorem Dv.not(h:Dv a b):¬ a <+: b/\¬ b <+: a:=by
 obtain⟨u,h1,h2⟩:=h;have key:∀ c,u++[48] <+: c->u++[49] <+: c->False:=fun c p q=>by
  have e:u++[48]=u++[49]:=(Nc p q (by simp)).eq_of_length (by simp)
  exact absurd (List.append_cancel_left e) (by decide)
 exact⟨fun p=>key b (h1.trans p) h2,fun p=>key a h1 (h2.trans p)⟩
theorem Dv.lt(h:Dv a b):a<b:=by
 obtain⟨u,⟨x,rfl⟩,⟨y,rfl⟩⟩:=h
 induction u with
 |nil=>exact List.Lex.rel (by decide)
 |cons c u ih=>exact List.Lex.cons ih
theorem A_{w:List Nat}(hb:∀ c∈w,c=48\/c=49)(h:w.all (· == 49)=false):Dv w (eC w n):=by
 obtain⟨p,k,rfl⟩:=parts hb h;unfold eC pad;rw[fR];exact⟨p,⟨List.replicate k 49,by simp⟩,⟨List.replicate k 48++List.replicate (n-(p++49::List.replicate k 48).length) 48,by simp⟩⟩
noncomputable def jT(ln:Nat->Nat)(a:Option (List Nat))(t:Nat):List Nat:=match a with
 |none=>List.replicate (ln t) 48
 |some v=>fm v (ln t)
noncomputable def jh(ln:Nat->Nat):Option (List Nat)->List Nat->List (List Nat)
 |_,[]=>[]
 |a,t::r=>jT ln a t::jh ln (some (jT ln a t)) r
theorem wc:∀(order done:List Nat) (a:Option (List Nat)),(order.Pairwise fun i j=>ln i<=ln j)->(∀ t∈order,ln t<=40)->(∀ v,a=some v->gE done v/\∀ t∈order,v.length<=ln t)->(a=none->done=[])->Kr.ks 40 (done++order.map ln)<=2^40 ->
  (∀ v,a=some v->∀ x∈jh ln a order,Dv v x)/\(jh ln a order).Pairwise Dv/\∀(i t:Nat),order[i]?=some t->∃ w,(jh ln a order)[i]?=some w/\w.length=ln t
 |[],_,_,_,_,_,_,_=>⟨fun _ _ x hx=>(by cases hx),List.Pairwise.nil,fun i t e=>(by cases e)⟩
 |t::r,done,a,hp,h40,ha,hn,hk=>by
  obtain⟨p1,p2⟩:=L9.mp hp;have ht:=h40 t K_;have hk':Kr.ks 40 ((done++[ln t])++r.map ln)<=2^40:=by rw[Ls];exact hk
  have fin:∀ w:List Nat,w=jT ln a t->gE (done++[ln t]) w->w.length=ln t->(∀ v,a=some v->Dv v w) ->
    (∀ v,a=some v->∀ x∈jh ln a (t::r),Dv v x)/\(jh ln a (t::r)).Pairwise Dv/\∀(i s:Nat),(t::r)[i]?=some s->∃ w,(jh ln a (t::r))[i]?=some w/\w.length=ln s:=fun w ew hH hl hd=>by
   obtain⟨q1,q2,q3⟩:=wc r (done++[ln t]) (some w) p2 (fun x hx=>h40 x (KZ _ hx)) (fun v e=>by cases e;exact⟨hH,fun x hx=>by rw[hl];exact p1 x hx⟩) (fun e=>by cases e) hk'
   have es:jh ln a (t::r)=w::jh ln (some w) r:=by rw[ew];rfl
   rw[es];refine⟨fun v e x hx=>?_,L9.mpr ⟨fun x hx=>q1 w rfl x hx,q2⟩,fun i s e=>?_⟩
   ·rcases Le.mp hx with rfl|hx
    ·exact hd v e
    ·exact (hd v e).trans (q1 w rfl x hx)
   ·cases i with
    |zero=>cases e;exact⟨w,rfl,hl⟩
    |succ i=>exact q3 i s (by simpa using e)
  cases a with
  |none =>
   have:=hn rfl;subst this;exact fin _ rfl (gE.first ht) (show (List.replicate (ln t) 48).length=ln t by rw[Ln]) (fun v e=>by cases e)
  |some v =>
   obtain⟨hv,hl⟩:=ha v rfl;have hvl:=hl t K_;have hk2:Kr.ks 40 done+2^(40-ln t)<=2^40:=by
    rw[Kr.cq,Kr.cq] at hk';simp[Kr.ks] at hk'
    omega
   have z:=hv.zero (rest:=[]) hk2;have e:=ko hv.bits z hvl;refine fin _ rfl ?_ ?_ ?_
   ·show gE _ (fm v (ln t));rw[e];exact hv.next hvl ht hk2
   ·show (fm v (ln t)).length=_;rw[e];exact d9 hvl
   ·intro u eu;cases eu;show Dv v (fm v (ln t));rw[e];exact A_ hv.bits z
theorem oE:∀(order:List Nat) (a:Option (List Nat)) (ws:List (List Nat)),order.Nodup->(∀ t∈order,t<ws.length)->(∀(i t:Nat),order[i]?=some t->(along fm ln order (a,ws)).2[t]?=(jh ln a order)[i]?)/\∀ t,t∉order->(along fm ln order (a,ws)).2[t]?=ws[t]?
 |[],_,_,_,_=>⟨fun i t e=>(by cases e),fun _ _=>rfl⟩
 |t::r,a,ws,hn,hl=>by
  obtain⟨n1,n2⟩:=LP.mp hn;have ht:=hl t K_;have ea:along fm ln (t::r) (a,ws)=along fm ln r (some (jT ln a t),ws.set t (jT ln a t)):=by cases a<;>rfl
  rw[ea];obtain⟨q1,q2⟩:=oE r (some (jT ln a t)) (ws.set t (jT ln a t)) n2 (fun x hx=>by rw[LV];exact hl x (KZ _ hx))
  refine⟨fun i s e=>?_,fun s hs=>?_⟩
  ·cases i with
   |zero =>
    cases e;exact (q2 t n1).trans (by rw[LK ht];rfl)
   |succ i=>exact q1 i s (by simpa using e)
  ·have h1:s≠t:=fun z=>hs (by rw[z];exact K_)
   have h2:s∉r:=fun z=>hs (KZ _ z);exact (q2 s h2).trans (by rw[LO (Ne.symm h1)])
noncomputable def Lx(p q:Int×Nat):Prop:=p.1<q.1\/(p.1=q.1/\p.2<q.2)
theorem vP{p:Int×Nat}:∀{l:List (Int×Nat)},l.Pairwise Lx->(∀ q∈l,p.2<q.2)->(gQ p l).Pairwise Lx
 |[],_,_=>Pp _ _
 |q::r,h,hp=>by
  obtain⟨h1,h2⟩:=L9.mp h;have hq:=hp q K_;unfold gQ;split
  ·rename_i c;refine L9.mpr ⟨fun z hz=>?_,h⟩;have hz2:=hp z hz;have:q.1<=z.1:=by
    rcases Le.mp hz with rfl|hz
    ·exact P2 _
    ·have:=h1 z hz;unfold Lx at this;omega
   unfold Lx;omega
  ·rename_i c;refine L9.mpr ⟨fun z hz=>?_,vP h2 fun z hz=>hp z (KZ _ hz)⟩;rcases Le.mp ((gc p r).mem_iff.mp hz) with rfl|hz
   ·unfold Lx;omega
   ·exact h1 z hz
theorem sO:∀{l:List (Int×Nat)},(l.Pairwise fun p q=>p.2<q.2)->(dR l).Pairwise Lx
 |[],_=>.nil
 |p::r,h=>by
  obtain⟨h1,h2⟩:=L9.mp h;exact vP (sO h2) fun q hq=>h1 q ((dC r).mem_iff.mp hq)
end Cw
structure Canon (ls:List Int) (W:List (List Nat)):Prop where
 len:W.length=ls.length
 Js:∀ t,t<ls.length->(W.getD t []).length=aD ls t
 part:∀ s t,s<ls.length->t<ls.length->(ls.getD s 0<ls.getD t 0\/(ls.getD s 0=ls.getD t 0/\s<t))->Cw.Dv (W.getD s []) (W.getD t [])
theorem lC(ls:List Int):ls.zip (List.range ls.length)=(List.range ls.length).map fun t=>(ls.getD t 0,t):=by
 apply MG
 ·simp
 ·intro i h1 h2;simp at h1;simp[h1]
theorem canon(hL:jj ls)(hk:KS ls<=2^40):Canon ls (wordsOf Cw.fm ls):=by
 have hS:(Cw.Lx · ·)=(Cw.Lx · ·):=rfl;have hlx:(dR (ls.zip (List.range ls.length))).Pairwise Cw.Lx:=by
  refine Cw.sO ?_;rw[lC];exact MB.mpr NY
 have hmem:∀ p∈dR (ls.zip (List.range ls.length)),p.1=ls.getD p.2 0/\p.2<ls.length:=fun p hp=>by
  have:=(dC _).mem_iff.mp hp;rw[lC] at this;obtain⟨t,ht,rfl⟩:=L6.mp this;exact⟨rfl,Mx.mp ht⟩
 have hord:(bp ls).Pairwise fun s t=>ls.getD s 0<ls.getD t 0\/(ls.getD s 0=ls.getD t 0/\s<t):=by
  unfold bp iC;refine MB.mpr (hlx.imp_of_mem fun {p q} hp hq h=>?_);rw[<- (hmem p hp).1,<- (hmem q hq).1];exact h
 have hperm:(bp ls).Perm (List.range ls.length):=jd (by rw[Lz])
 have hnd:(bp ls).Nodup:=hperm.nodup_iff.mpr List.nodup_range;have hb:∀ t,t<ls.length->1<=ls.getD t 0/\ls.getD t 0<=40:=fun t ht=>by
  rw[Lp,KW ht];exact hL.2.2 _ (L1 ht)
 have hmm:∀ t∈bp ls,t<ls.length:=fun t ht=>hJ ht;have hks:Kr.ks 40 ([]++(bp ls).map (aD ls))<=2^40:=by
  rw[Mg,Kr.h9 (hperm.map (aD ls))];have e:(List.range ls.length).map (aD ls)=ls.map Int.toNat:=by
   apply MG
   ·simp
   ·intro i h1 h2;simp at h1;simp[aD,h1]
  rw[e];exact hk
 obtain⟨_,q2,q3⟩:=Cw.wc (ln:=aD ls) (bp ls) [] none (hord.imp_of_mem fun {s t} hs ht h=>by
  have:=hb s (hmm s hs);have:=hb t (hmm t ht);unfold aD;omega) (fun t ht=>by have:=hb t (hmm t ht);unfold aD;omega) (fun v e=>by cases e) (fun _=>rfl) hks
 obtain⟨a1,_⟩:=Cw.oE (ln:=aD ls) (bp ls) none (List.replicate ls.length []) hnd (fun t ht=>by rw[Ln];exact hmm t ht)
 have hat:∀ t,t<ls.length->∃ i w,(bp ls)[i]?=some t/\(Cw.jh (aD ls) none (bp ls))[i]?=some w/\w.length=aD ls t/\(wordsOf Cw.fm ls).getD t []=w:=fun t ht=>by
  obtain⟨i,hi⟩:=Oh.mp (hperm.mem_iff.mpr (Mx.mpr ht));obtain⟨w,hw,hl⟩:=q3 i t hi;refine⟨i,w,hi,hw,hl,?_⟩;unfold wordsOf;rw[Lp,a1 i t hi,hw];rfl
 refine⟨?_,fun t ht=>?_,fun s t hs ht h=>?_⟩
 ·unfold wordsOf;rw[Cw.fT,Ln]
 ·obtain⟨i,w,_,_,hl,e⟩:=hat t ht;rw[e];exact hl
 ·obtain⟨i,w,h1,h2,_,e⟩:=hat s hs;obtain⟨j,v,g1,g2,_,e'⟩:=hat t ht;rw[e,e'];obtain⟨hi,rfl⟩:=Ll.mp h2;obtain⟨hj,rfl⟩:=Ll.mp g2;obtain⟨hi',ei⟩:=Ll.mp h1;obtain⟨hj',ej⟩:=Ll.mp g1;have hij:i<j:=by
   rcases Nat.lt_trichotomy i j with c|c|c
   ·exact c
   ·subst c;have est:s=t:=ei.symm.trans ej;subst est
    exfalso;omega
   ·have:=MT.mp hord j i hj' hi' c;rw[ei,ej] at this
    exfalso;omega
  exact MT.mp q2 i j hi hj hij
theorem GC(u:_root_.Fin 2):u=0\/u=1:=by revert u;decide
theorem tT(u:_root_.Fin 3):u=0\/u=1\/u=2:=by revert u;decide
theorem Kt{b:Nat}(h:b<8):b=0\/b=1\/b=2\/b=3\/b=4\/b=5\/b=6\/b=7:=by lia
inductive Row where
 |put (b n:Nat)|two (w:Fin 3) (a b:Nat)|one (w:Fin 2) (b:Nat)|jump (g:Nat)|zero (b g:Nat)|halt
 deriving DecidableEq
noncomputable def gi(i:Nat):Str:=⟨#[97+i]⟩
noncomputable def w2:Fin 3->Str
 |0=>"add"
 |1=>"sub"
 |2=>"copy"
noncomputable def w1:Fin 2->Str
 |0=>"tell"
 |1=>"hear"
inductive Fj where
 |s (z:Str)|n (k:Nat)
noncomputable def Fj.t:Fj->L2.T
 |.s z=>.str z
 |.n k=>.int (k:Nat)
noncomputable def Row.ps:Row->List Fj
 |.put b n=>[.s "put",.s (gi b),.n n]
 |.two w a b=>[.s (w2 w),.s (gi a),.s (gi b)]
 |.one w b=>[.s (w1 w),.s (gi b)]
 |.jump g=>[.s "jump",.n g]
 |.zero b g=>[.s "zero",.s (gi b),.n g]
 |.halt=>[.s "halt"]
noncomputable def Row.t(r:Row):L2.T:=.tup (r.ps.map Fj.t)
noncomputable def Row.Ok(size:Nat):Row->Prop
 |.put b n=>b<8/\n<65536
 |.two _ a b=>a<8/\b<8
 |.one _ b=>b<8
 |.jump g=>g<=size
 |.zero b g=>b<8/\g<=size
 |.halt=>True
theorem Row.Ok.mono{a b:Nat}{r:Row}(h:r.Ok a)(hm:a<=b):r.Ok b:=by
 cases r<;>simp only[Row.Ok] at h ⊢<;>lia
theorem yO{k:Int}(h0:0<=k)(h1:k<8):aY (Str.ofString "abcdefgh").cps.toList k=some (97+k.toNat):=by
 have e:(Str.ofString "abcdefgh").cps.toList=[97,98,99,100,101,102,103,104]:=by decide +kernel
 rw[e];obtain⟨n,rfl⟩:∃ n:Nat,k=n:=⟨k.toNat,by lia⟩
 unfold aY ie;have hn:n<8:=by lia
 rw[Li (by lia),Li (by simp;lia)]
 show [97,98,99,100,101,102,103,104][((n:Nat):Int).toNat]?=some (97+((n:Nat):Int).toNat);rw[LI];rcases Kt hn with rfl|rfl|rfl|rfl|rfl|rfl|rfl|rfl<;>rfl
theorem E6{xs:List L2.T}{i:Int}(h0:0<=i)(h1:i<xs.length):∃ t,t∈xs/\aY xs i=some t:=by
 obtain⟨n,rfl⟩:∃ n:Nat,i=n:=⟨i.toNat,by lia⟩
 have hn:n<xs.length:=by lia
 exact⟨xs[n],L1 hn,aW (KW hn)⟩
noncomputable def t9:dG:=fun args Q=>args=[]/\Q (.fr (.lst [.str "put",.str "add",.str "sub",.str "copy",.str "tell",.str "hear",.str "jump",.str "zero",.str "halt"])) []
theorem u3(T:Txt K mg)(F:HasFn K mg "_law_words" c_ []):ae P w K mg base aX 1 "_law_words" [] (spT K [] t9):=by
 refine F.gC jU [] rfl (by decide) (fun args Qt hl h f cdv A outer s H E hr=>?_)
 obtain⟨rfl,q⟩:=h;refine⟨_,(Y.az (Y.ret (Y.lst (Y.bw rfl rfl)))),?_⟩;rfl';exact⟨by decide,q⟩
noncomputable def sM:dG:=fun args Q=>∃(d:L2.T) (n:Nat),args=[d]/\dH n d/\n<2^40/\∀(v:Nat) (d':L2.T),dH (n+2) d'->v<65536->Q (.tr (.int (v:Int))) [d']
theorem uk(T:Txt K mg)(F:HasFn K mg "_law_number" cM ["deck"])(h_law_draw:k0z P w K mg base):ae P w K mg base aX 3 "_law_number" ["deck"] (spT K [true] sM):=by
 refine F.gC dw [true] rfl (by decide) ?_;left;obtain⟨sd,n,rfl,hs,hn,q⟩:=h;refine⟨_,(Y.ab (Y.set (i:=1) dw.nd rfl (by right) (Y.fn K rfl h_law_draw (hr.mono (by decide)) rfl ay (Y.cons (Y.vS 0) (Y.cons Y.int Y.nil))))
   (Y.ab (Y.eJ (Y.bg (Y.cc K rfl (LA hu)) Y.dA (Y.vS 1) Y.int) (Y.az (Y.ret Y.int)) Y.b6)
   (Y.ab (Y.set (i:=2) dw.nd rfl (by right) (Y.op E8 Y.b_ Y.int (Y.op dW Y.cN (Y.vS 1) Y.int)))
   (Y.az (Y.ret (Y.op (Y.au K rfl) Y.av (Y.vS 2) (Y.fn K rfl h_law_draw (hr.mono (by decide)) rfl ay (Y.cons (Y.vS 0) (Y.cons (Y.vS 2) Y.nil))))))))),?_⟩
 refine ao fun N hN=>?_;rfl';refine⟨sd,17,n,rfl,hs,by lia,by decide,by decide,fun z s1 z0 z1 hs1=>?_⟩
 rfl';symm;by_cases a0:z=0
 ·exists Li a0;exact q 0 s1 (hs1.mono (by lia)) (by decide)
 ·exists Lc a0;symm;rfl';refine⟨⟨by lia,by lia,by decide⟩,hN _ ?_⟩;clear hN N
  obtain⟨j,ej,hj⟩:∃ j:Nat,(z-1).toNat=j/\j<=15:=⟨_,rfl,by lia⟩
  rw[ej,Int.one_mul];have p1:(0:Int)<2^j:=Int.pow_pos (by decide)
  have p2:(2:Int)^j<=2^15:=by
   have:2^j<=2^15:=O1 (by decide) hj
   exact_mod_cast this
  generalize (2:Int)^j=p at p1 p2;rfl';refine⟨s1,p,n+1,rfl,hs1,by lia,p1,by lia,fun v s2 v0 v1 hs2=>?_⟩
  rfl';obtain⟨k,ek⟩:∃ k:Nat,p+v=k:=⟨(p+v).toNat,by lia⟩
  rw[ek];exact q k s2 hs2 (by lia)
theorem two8{c:Int}(h0:0<=c)(h1:c<2):∃ m:Int,aY [L2.T.int 2,.int 8] c=some (.int m)/\0<m/\m<=8:=by
 have:c=0\/c=1:=by lia
 rcases this with rfl|rfl
 ·exact⟨2,rfl,by decide,by decide⟩
 ·exact⟨8,rfl,by decide,by decide⟩
noncomputable def Gu:dG:=fun args Q=>∃(d:L2.T) (many n:Nat),args=[d,.int (many:Int)]/\dH n d/\n<2^38/\many<1000/\∀(r:Row) (d':L2.T),r.Ok many->dH (n+5) d'->Q (.tr r.t) [d']
abbrev k18z(P w K mg base):=ae P w K mg base aX 4 "_law_row" ["deck","goals"] (spT K [true,false] Gu)
theorem E7(T:Txt K mg)(F:HasFn K mg "_law_row" eQ ["deck","goals"])(h_law_draw:k0z P w K mg base)(h_law_number:ae P w K mg base aX 3 "_law_number" ["deck"] (spT K [true] sM)):
  k18z P w K mg base:=by
 refine F.gC dP [true,false] rfl (by decide) ?_;left;obtain⟨sd,many,n,rfl,hs,hn,hmy,q⟩:=h;refine⟨_,(Y.ab (Y.set (i:=2) dP.nd rfl (by right) (Y.lst (Y.bw rfl rfl)))
   (Y.ab (Y.set (i:=3) dP.nd rfl (by right) (Y.ix (Y.aB K rfl) Y.af (Y.vS 2) (Y.fn K rfl h_law_draw (hr.mono (by decide)) rfl ay (Y.cons (Y.vS 0) (Y.cons Y.int Y.nil)))))
   (Y.ab (Y.set (i:=4) dP.nd rfl (by right) (Y.ix (Y.aB K rfl) Y.af Y.str (Y.fn K rfl h_law_draw (hr.mono (by decide)) rfl ay (Y.cons (Y.vS 0) (Y.cons (Y.ix (Y.aB K rfl) Y.af (Y.lst (Y.bw rfl rfl)) (Y.fn K rfl h_law_draw (hr.mono (by decide)) rfl ay (Y.cons (Y.vS 0) (Y.cons Y.int Y.nil)))) Y.nil)))))
   (Y.ab (Y.eJ (Y.bg (Y.cc K rfl (LA hu)) Y.dA (Y.vS 3) Y.str) (Y.az (Y.ret (Y.tup (Y.cons (Y.vS 3) (Y.cons (Y.vS 4) (Y.cons (Y.fn K rfl h_law_number (hr.mono (by decide)) rfl ay (Y.cons (Y.vS 0) Y.nil)) Y.nil)))))) Y.b6)
   (Y.ab (Y.eJ (Y.bg (Y.ml K rfl) Y.tG (Y.vS 3) (Y.tup (Y.bw rfl rfl))) (Y.az (Y.ret (Y.tup (Y.cons (Y.vS 3) (Y.cons (Y.vS 4) (Y.cons (Y.ix (Y.aB K rfl) Y.af Y.str (Y.fn K rfl h_law_draw (hr.mono (by decide)) rfl ay (Y.cons (Y.vS 0) (Y.cons (Y.ix (Y.aB K rfl) Y.af (Y.lst (Y.bw rfl rfl)) (Y.fn K rfl h_law_draw (hr.mono (by decide)) rfl ay (Y.cons (Y.vS 0) (Y.cons Y.int Y.nil)))) Y.nil)))) Y.nil)))))) Y.b6)
   (Y.ab (Y.eJ (Y.bg (Y.ml K rfl) Y.tG (Y.vS 3) (Y.tup (Y.bw rfl rfl))) (Y.az (Y.ret (Y.tup (Y.cons (Y.vS 3) (Y.cons (Y.vS 4) Y.nil))))) Y.b6)
   (Y.ab (Y.eJ (Y.bg (Y.cc K rfl (LA hu)) Y.dA (Y.vS 3) Y.str) (Y.az (Y.ret (Y.tup (Y.cons (Y.vS 3) (Y.cons (Y.fn K rfl h_law_draw (hr.mono (by decide)) rfl ay (Y.cons (Y.vS 0) (Y.cons (Y.op (Y.au K rfl) Y.av (Y.vS 1) Y.int) Y.nil))) Y.nil))))) Y.b6)
   (Y.ab (Y.eJ (Y.bg (Y.cc K rfl (LA hu)) Y.dA (Y.vS 3) Y.str) (Y.az (Y.ret (Y.tup (Y.cons (Y.vS 3) (Y.cons (Y.vS 4) (Y.cons (Y.fn K rfl h_law_draw (hr.mono (by decide)) rfl ay (Y.cons (Y.vS 0) (Y.cons (Y.op (Y.au K rfl) Y.av (Y.vS 1) Y.int) Y.nil))) Y.nil)))))) Y.b6)
   (Y.az (Y.ret (Y.tup (Y.cons (Y.vS 3) Y.nil)))))))))))),?_⟩
 refine ao fun N hN=>?_;rfl';refine⟨by decide,hN _ ?_⟩;clear hN N
 refine ao fun N hN=>?_;rfl';refine⟨sd,12,n,rfl,hs,by lia,by decide,by decide,fun c s1 c0 c1 hs1=>?_⟩
 obtain⟨v,hv,ha⟩:=E6 (xs:=[.str "put",.str "put",.str "add",.str "sub",.str "copy",.str "tell",.str "tell",.str "hear",.str "jump",.str "zero",.str "zero",.str "halt"]) c0 c1;exists ha;clear ha c0 c1;symm;rfl';refine⟨by decide,s1,2,n+1,rfl,hs1,by lia,by decide,by decide,fun c s2 c0 c1 hs2=>?_⟩
 obtain⟨m,em,m0,m8⟩:=two8 c0 c1;exists em;refine⟨s2,m,n+2,rfl,hs2,by lia,m0,by lia,fun b s3 b0 b1 hs3=>?_⟩
 have hb:=yO b0 (by lia)
 exists hb;refine⟨by decide +kernel,?_⟩
 refine hN _ ?_;clear hN N em c0 c1;obtain⟨bn,rfl⟩:∃ bn:Nat,b=bn:=⟨b.toNat,by lia⟩
 have hb8:bn<8:=by lia
 rw[LI];generalize hS:Sl.bx _=S0;show Y.Bo _ _ _ [.pb s3,.tr (.int (many:Int)),S0,.tr v,.tr (.str (gi bn))];have hv6:v=.str "put"\/(∃ w,v=.str (w2 w))\/(∃ w,v=.str (w1 w))\/v=.str "jump"\/v=.str "zero"\/v=.str "halt":=by
  simp only[Le,LU,MF] at hv;rcases hv with h|h|h|h|h|h|h|h|h|h|h|h<;>subst h<;>first|exact .inl rfl|exact .inr (.inl ⟨0,rfl⟩)|exact .inr (.inl ⟨1,rfl⟩)|exact .inr (.inl ⟨2,rfl⟩)|exact .inr (.inr (.inl ⟨0,rfl⟩))|exact .inr (.inr (.inl ⟨1,rfl⟩))|exact .inr (.inr (.inr (.inl rfl)))|exact .inr (.inr (.inr (.inr (.inl rfl))))|exact .inr (.inr (.inr (.inr (.inr rfl))))
 clear hv;refine ao fun N hN=>?_;rcases hv6 with rfl|⟨u,rfl⟩|⟨u,rfl⟩|hv
 ·exists (show (Str.ofString "put"=Str.ofString "put")=True from eq_true rfl),MV;refine⟨s3,n+3,rfl,hs3,by lia,fun k s4 hs4 k1=>?_⟩
  rfl';exact⟨by decide,q (.put bn k) s4 ⟨hb8,k1⟩ hs4⟩
 ·have n1:∀ u,w2 u≠"put":=by decide +kernel
  have i1:∀ u,Y.fJ (.str (w2 u)) [.str "add",.str "sub",.str "copy"]=true:=by decide +kernel
  exists Lc (n1 u);symm;exists i1 u;refine⟨by decide,rfl,rfl,by decide,s3,2,n+3,rfl,hs3,by lia,by decide,by decide,fun c s4 c0 c1 hs4=>?_⟩
  obtain⟨m,em,m0,m8⟩:=two8 c0 c1;exists em;refine⟨s4,m,n+4,rfl,hs4,by lia,m0,by lia,fun b s5 b0 b1 hs5=>?_⟩
  have hb:=yO b0 (by lia)
  exists hb;exact⟨by decide +kernel,by decide,q (.two u bn b.toNat) s5 ⟨hb8,by lia⟩ hs5⟩
 ·have n1:∀ u,w1 u≠"put":=by decide +kernel
  have i1:∀ u,Y.fJ (.str (w1 u)) [.str "add",.str "sub",.str "copy"]=false:=by decide +kernel
  have i2:∀ u,Y.fJ (.str (w1 u)) [.str "tell",.str "hear"]=true:=by decide +kernel
  exists Lc (n1 u);symm;exists i1 u;refine⟨by decide,rfl,rfl,?_⟩
  symm;exists i2 u;exact⟨by decide,rfl,rfl,by decide,q (.one u bn) s3 hb8 (hs3.mono (by lia))⟩
 ·have n1:∀ z∈([("jump"),("zero"),("halt")]:List Str),z≠"put"/\Y.fJ (.str z) [.str "add",.str "sub",.str "copy"]=false/\Y.fJ (.str z) [.str "tell",.str "hear"]=false:=by decide +kernel
  obtain⟨z,hz,rfl⟩:∃ z∈([("jump"),("zero"),("halt")]:List Str),v=.str z:=by rcases hv with rfl|rfl|rfl<;>exact⟨_,by simp,rfl⟩
  obtain⟨e1,e2,e3⟩:=n1 z hz;exists Lc e1;symm;exists e2;refine⟨by decide,rfl,rfl,?_⟩
  symm;exists e3;refine⟨by decide,rfl,rfl,?_⟩
  symm;rcases hv with hv|hv
  ·cases hv;exists Li (rfl:Str.ofString "jump"=Str.ofString "jump");refine⟨s3,(many:Int)+1,n+3,rfl,hs3,by lia,by lia,by lia,fun g s4 g0 g1 hs4=>?_⟩
   obtain⟨gn,rfl⟩:∃ gn:Nat,g=gn:=⟨g.toNat,by lia⟩
   rfl';exact⟨by decide,q (.jump gn) s4 (show gn<=many by lia) (hs4.mono (by lia))⟩
  ·have nh:z≠"jump":=by rcases hv with hv|hv<;>cases hv<;>decide +kernel
   exists Lc nh;symm;rcases hv with hv|hv
   ·cases hv;exists Li (rfl:Str.ofString "zero"=Str.ofString "zero");refine⟨s3,(many:Int)+1,n+3,rfl,hs3,by lia,by lia,by lia,fun g s4 g0 g1 hs4=>?_⟩
    obtain⟨gn,rfl⟩:∃ gn:Nat,g=gn:=⟨g.toNat,by lia⟩
    rfl';exact⟨by decide,q (.zero bn gn) s4 ⟨hb8,(show gn<=many by lia)⟩ (hs4.mono (by lia))⟩
   ·cases hv;have nz:Str.ofString "halt"≠Str.ofString "zero":=by decide +kernel
    exists Lc nz;ac_rfl;rfl';exact⟨by decide,q .halt s3 trivial (hs3.mono (by lia))⟩
noncomputable def pT(p:List Row):L2.T:=.tup (p.map Row.t)
noncomputable def oF:dG:=fun args Q=>∃(d:L2.T) (most n:Nat),args=[d,.int (most:Int)]/\dH n d/\n<2^36/\most<=64/\∀(p:List Row) (d':L2.T),p.length<=most->(∀ r∈p,r.Ok p.length)->dH (n+1000) d'->Q (.tr (pT p)) [d']
abbrev k13z(P w K mg base):=ae P w K mg base aX 5 "_law_program" ["deck","most"] (spT K [true,false] oF)
theorem pJ(T:Txt K mg)(F:HasFn K mg "_law_program" bI ["deck","most"])(h_law_draw:k0z P w K mg base)(h_law_row:k18z P w K mg base):
  k13z P w K mg base:=by
 refine F.gC fe [true,false] rfl (by decide) ?_;left;obtain⟨sd,most,n,rfl,hs,hn,hm,q⟩:=h;refine⟨_,(Y.ab (Y.set (i:=2) fe.nd rfl (by right) (Y.fn K rfl h_law_draw (hr.mono (by decide)) rfl ay (Y.cons (Y.vS 0) (Y.cons (Y.op (Y.au K rfl) Y.av (Y.vS 1) Y.int) Y.nil))))
   (Y.az (Y.ret (Y.ct (Y.cJ K rfl) Y.dz rfl T.cZ (by decide +kernel) (Y.cons (Y.kA (osc:=aa bI) (ON:=["deck","most","many"]) (own:=["k"]) (N:=["k","deck","most","many"]) ⟨rfl,by decide +kernel,rfl,by decide +kernel,by decide +kernel,by decide +kernel,by decide +kernel,by decide +kernel⟩ rfl rfl rfl rfl (Y.jV rfl T.cY (Y.cons (Y.vS 2) Y.nil)) (fun _ _ _ _=>(Z.aK (i:=0) (show List.Nodup (["k","deck","most","many"]:List Str) by decide +kernel) rfl (by right))) (fun _ _ _ _=>Y.pI) (fun _ _ _ _=>(Y.fn K rfl h_law_row (hr.mono (by decide)) rfl ay (Y.cons (Y.vS 1) (Y.cons (Y.vS 3) Y.nil))))) Y.nil))))),?_⟩
 refine ao fun N hN=>?_;rfl';refine⟨sd,(most:Int)+1,n,rfl,hs,by lia,by lia,by lia,fun mi s1 m0 m1 hs1=>?_⟩
 obtain⟨many,rfl⟩:∃ k:Nat,mi=k:=⟨mi.toNat,by lia⟩
 rfl';ac_rfl;rfl';refine⟨by lia,by lia,?_⟩
 refine cO (fun rest acc μ=>∃(rs:List Row) (d:L2.T),acc=rs.map Row.t/\rs.length+rest.length=many/\(∀ r∈rs,r.Ok many)/\dH (n+1+5*rs.length) d/\μ=[.pb d,.tr (.int (most:Int)),.tr (.int (many:Int))]) ⟨[],s1,rfl,by simp,fun r h=>(nomatch h),hs1,rfl⟩ ?_ ?_
 ·rintro acc μ ⟨rs,d,rfl,h1,h2,h3,rfl⟩;rw[LC,NJ] at h1;refine⟨trivial,?_⟩;rfl';exact q rs d (by lia) (by rw[h1];exact h2) (h3.mono (by lia))
 ·rintro t r acc μ M ⟨rs,d,rfl,h1,h2,h3,rfl⟩ k;rw[Lf] at h1;refine⟨trivial,by rw[Lb];exact Lv (show rs.length<65 by lia) (by decide),?_⟩
  rfl';refine⟨d,many,_,rfl,h3,by lia,by lia,fun r d' hr hd=>?_⟩
  rfl';refine k _ _ ⟨rs++[r],d',by rw[L5];rfl,by rw[KY,LD];lia,fun z hz=>?_,by rw[KY,LD];exact hd.mono (by lia),rfl⟩
  rcases LY.mp hz with hz|hz
  ·exact h2 z hz
  ·rw[Lo.mp hz];exact hr
noncomputable def nZ(l:List Nat):List Int:=l.map fun k:Nat=>(k:Int)
theorem dY(l:List Nat):(nZ l).length=l.length:=Lb ..
theorem D_(h:Kr.ks 40 l<=2^40):mP (nZ l)=true:=by
 unfold mP KS nZ;rw[N0,show (Int.toNat ∘ fun k:Nat=>(k:Int))=id from funext fun k=>LI k,List.map_id];exact LG h
structure Pt (l:List Nat):Prop where
 ks:Kr.ks 40 l=2^40
 le:∀ x∈l,x+1<=l.length
 one:l=[0]\/∀ x∈l,1<=x
theorem Pt.pos(h:Pt l):1<=l.length:=by
 cases l with
 |nil=>have:=h.ks;simp[Kr.ks] at this
 |cons=>simp
theorem Pt.next{l3:List Nat}{a:Nat}(h:Pt l)(ha:a<l.length)(hl:l.length<=17)(hp:l3.Perm ((l[a]+1)::(l[a]+1)::l.eraseIdx a)):Pt l3/\l3.length=l.length+1:=by
 have hpm:(l[a]::l.eraseIdx a).Perm l:=by
  rw[Om]
  conv=>rhs;rw[<- Nz a l,<- List.getElem_cons_drop ha]
  exact Pe.symm
 have hle:=l.length_eraseIdx_of_lt ha;have hx:=h.le _ (L1 ha);have h3:l3.length=l.length+1:=by
  rw[hp.length_eq,Lf,Lf,hle];lia
 have mem:∀ y∈l3,y=l[a]+1\/y∈l.eraseIdx a:=fun y hy=>by
  rcases Le.mp (hp.mem_iff.mp hy) with z|z
  ·exact .inl z
  ·rcases Le.mp z with z|z
   ·exact .inl z
   ·exact .inr z
 have mem2:∀ y∈l.eraseIdx a,y∈l:=fun y hy=>hpm.mem_iff.mp (KZ _ hy);refine⟨⟨?_,fun y hy=>?_,.inr fun y hy=>?_⟩,h3⟩
 ·have e1:=Kr.h9 (L:=40) hpm;rw[h.ks,Kr.ks] at e1;rw[Kr.h9 hp,Kr.ks,Kr.ks];have e2:2^(40-l[a])=2*2^(40-(l[a]+1)):=by rw[show 40-l[a]=(40-(l[a]+1))+1 by lia,O0];lia
  lia
 ·rw[h3];rcases mem y hy with rfl|z
  ·lia
  ·have:=h.le y (mem2 y z);lia
 ·rcases mem y hy with rfl|z
  ·lia
  ·rcases h.one with e|e
   ·subst e;have ha0:a=0:=by simpa using ha
    subst ha0;cases z
   ·exact e y (mem2 y z)
theorem FD(l:List Nat)(a:Nat):(nI (nZ l)).eraseIdx a=nI (nZ (l.eraseIdx a)):=by
 unfold nI nZ;simp only[Om,L5,PX,PY]
theorem xE(l:List Nat)(n k:Nat):fh (nI (nZ l)) n (L2.T.int (k:Int))=nI (nZ (fh l n k)):=by
 unfold fh nI nZ;simp only[L5,PX,PY,L3]
theorem Bb(l:List α)(n:Nat)(x:α):(fh l n x).length=l.length+1:=by
 unfold fh;rw[KY,Lf,L7,LS];lia
theorem oo(l:List α)(n:Nat)(x:α):(fh l n x).Perm (x::l):=by
 unfold fh;refine Pe.trans ?_;rw[Nz]
theorem wF:∀{l:List Nat} {a z:Nat} (ha:a<l.length),l[a]<=z->Kr.ks 40 (l.set a z)<=Kr.ks 40 l
 |[],_,_,ha,_=>(nomatch ha)
 |x::l,0,z,_,h=>by
  have:2^(40-z)<=2^(40-x):=O1 (by decide) (by have:x<=z:=h;lia)
  simp only[NN,Kr.ks];lia
 |x::l,a+1,z,ha,h=>by
  have:=wF (l:=l) (a:=a) (z:=z) (by simpa using ha) (by simpa using h)
  simp only[List.set_cons_succ,Kr.ks];lia
noncomputable def C7:dG:=fun args Q=>∃(d:L2.T) (m n:Nat),args=[d,.int (m:Int)]/\dH n d/\n<2^40/\2<=m/\m<=17/\∀(ls:List Int) (d':L2.T),dH (n+60) d'->ls.length=m->jj ls->mP ls=true->Q (.tr (.tup (nI ls))) [d']
abbrev k14z(P w K mg base):=ae P w K mg base aX 3 "_law_lengths" ["deck","many"] (spT K [true,false] C7)
theorem zj(T:Txt K mg)(F:HasFn K mg "_law_lengths" cB ["deck","many"])(h_law_draw:k0z P w K mg base):k14z P w K mg base:=by
 refine F.gC bA [true,false] rfl (by decide) ?_;left;obtain⟨sd,m,n,rfl,hsd,hn,hm2,hm,q⟩:=h;refine⟨_,(Y.ab (Y.set (i:=2) bA.nd rfl (by right) (Y.lst (Y.cons Y.int Y.nil)))
   (Y.ab (Y.gg LR rfl (Y.jV rfl T.cY (Y.cons (Y.op dW Y.cN (Y.vS 1) Y.int) Y.nil)) (Y.aK (i:=3) bA.nd rfl (by right)) (Y.ab (Y.set (i:=4) bA.nd rfl (by right) (Y.op (Y.au K rfl) Y.av (Y.bm K rfl PySem.F.slot_list_pop PySem.F.type_list_pop zo Y.yR (Y.vS 2) (Y.cons (Y.fn K rfl h_law_draw (hr.mono (by decide)) rfl ay (Y.cons (Y.vS 0) (Y.cons (Y.cb (Y.aH K rfl) Y.ba rfl T.cG (by decide +kernel) (Y.cons (Y.vS 2) Y.nil)) Y.nil))) Y.nil)) Y.int))
   (Y.ab (Y.expr (Y.bm K rfl PySem.F.slot_list_insert PySem.F.type_list_insert kD Y.kM (Y.vS 2) (Y.cons (Y.fn K rfl h_law_draw (hr.mono (by decide)) rfl ay (Y.cons (Y.vS 0) (Y.cons (Y.op (Y.au K rfl) Y.av (Y.cb (Y.aH K rfl) Y.ba rfl T.cG (by decide +kernel) (Y.cons (Y.vS 2) Y.nil)) Y.int) Y.nil))) (Y.cons (Y.vS 4) Y.nil))))
   (Y.az (Y.expr (Y.bm K rfl PySem.F.slot_list_insert PySem.F.type_list_insert kD Y.kM (Y.vS 2) (Y.cons (Y.fn K rfl h_law_draw (hr.mono (by decide)) rfl ay (Y.cons (Y.vS 0) (Y.cons (Y.op (Y.au K rfl) Y.av (Y.cb (Y.aH K rfl) Y.ba rfl T.cG (by decide +kernel) (Y.cons (Y.vS 2) Y.nil)) Y.int) Y.nil))) (Y.cons (Y.vS 4) Y.nil))))))))
   (Y.ab (Y.eJ (Y.bg (Y.cc K rfl (LA hu)) Y.dA (Y.fn K rfl h_law_draw (hr.mono (by decide)) rfl ay (Y.cons (Y.vS 0) (Y.cons Y.int Y.nil))) Y.int) (Y.ab (Y.set (i:=5) bA.nd rfl (by right) (Y.fn K rfl h_law_draw (hr.mono (by decide)) rfl ay (Y.cons (Y.vS 0) (Y.cons (Y.vS 1) Y.nil))))
   (Y.az (Y.asg (Y.cb (kY rfl) Y.y2 rfl T.Co (by decide +kernel) (Y.cons Y.int (Y.cons (Y.op (Y.au K rfl) Y.av (Y.op (Y.au K rfl) Y.av (Y.ix (Y.aB K rfl) Y.af (Y.vS 2) (Y.vS 5)) Y.int) (Y.fn K rfl h_law_draw (hr.mono (by decide)) rfl ay (Y.cons (Y.vS 0) (Y.cons Y.int Y.nil)))) Y.nil))) (Y.mT (Y.vS 2) (Y.vS 5))))) Y.b6)
   (Y.az (Y.ret (Y.ct (Y.cJ K rfl) Y.dz rfl T.cZ (by decide +kernel) (Y.cons (Y.vS 2) Y.nil))))))),?_⟩
 refine ao fun N hN=>?_;rfl';refine⟨by decide,?_⟩
 symm;rfl';refine⟨by lia,by lia,?_⟩
 refine bD (fun rest μ=>∃(l:List Nat) (d:L2.T) (o3 o4:Option L2.T),Pt l/\l.length+rest.length=m/\dH (n+3*l.length) d/\μ=[.pb d,.tr (.int (m:Int)),.bx (.lst (nI (nZ l))),sl o3,sl o4,.un]) ⟨[0],sd,none,none,⟨by decide,by simp,.inl rfl⟩,by simp;lia,hsd.mono (by lia),rfl⟩ ?_ ?_
 ·rintro μ ⟨l,d,o3,o4,hl,hlm,hd,rfl⟩;rw[LC,NJ] at hlm;show N _;ac_rfl;have h1:∀ x∈l,1<=x:=by
   rcases hl.one with e|e
   ·exfalso;rw[e] at hlm;simp at hlm;lia
   ·exact e
  have fin:∀(l:List Nat) (d:L2.T),l.length=m->(∀ x∈l,1<=x/\x<=20)->Kr.ks 40 l<=2^40->dH (n+60) d->Qt (.tr (.tup (nI (nZ l)))) [d]:=fun l d a b c e=>by
   refine q (nZ l) d e (by rw[dY];exact a) ⟨by rw[dY];lia,by rw[dY];lia,fun x hx=>?_⟩ (D_ c)
   obtain⟨y,hy,rfl⟩:=L6.mp hx;have:=b y hy;exact⟨by lia,by lia⟩
  refine ao fun N hN=>?_;rfl';refine⟨d,2,_,rfl,hd,by lia,by decide,by decide,fun v d1 v0 v1 hd1=>?_⟩
  by_cases c:v=0
  ·exists Li c;refine ao fun M hM=>?_;rfl';refine⟨d1,(m:Int),_,rfl,hd1,by lia,by lia,by lia,fun a d2 a0 a1 hd2=>?_⟩
   obtain⟨a,rfl⟩:∃ k:Nat,a=k:=⟨a.toNat,by lia⟩
   rfl';refine hM _ ?_;clear hM M;have ha:a<l.length:=by lia
   have ea:aY (nI (nZ l)) (a:Int)=some (.int ((l[a]:Nat):Int)):=CG (aW (by unfold nZ;rw[Lr,KW ha];rfl))
   exists ea;refine⟨d2,5,_,rfl,hd2,by lia,by decide,by decide,fun v d3 v0 v1 hd3=>?_⟩
   obtain⟨nz,enz,hnz⟩:∃ nz:Nat,(if ((l[a]:Nat):Int)+1+v<20 then ((l[a]:Nat):Int)+1+v else 20)=(nz:Int)/\l[a]<=nz/\nz<=20:=by
    have:=hl.le _ (L1 ha);by_cases c:((l[a]:Nat):Int)+1+v<20
    ·rw[Li c];exact⟨l[a]+1+v.toNat,by lia,by lia,by lia⟩
    ·rw[Lc c];exact⟨20,rfl,by lia,by lia⟩
   exists enz;have ei:ie (nI (nZ l)).length (a:Int)=some a:=by
    rw[bU,dY];unfold ie;rw[Li (by lia),Li (by lia),LI]
   rw[ei];ac_rfl;rfl';rw[show (nI (nZ l)).set a (.int (nz:Int))=nI (nZ (l.set a nz)) by unfold nI nZ;rw[NM,NM]]
   refine fin _ d3 (by rw[LV];exact hlm) (fun x hx=>?_) (Lk (wF ha hnz.1) (Qb hl.ks)) (hd3.mono (by lia))
   rcases MU hx with hx|rfl
   ·exact⟨h1 x hx,by have:=hl.le x hx;lia⟩
   ·exact⟨by have:=h1 _ (L1 ha);lia,hnz.2⟩
  ·exists Lc c;ac_rfl;rfl';exact fin l d1 hlm (fun x hx=>⟨h1 x hx,by have:=hl.le x hx;lia⟩) (Qb hl.ks) (hd1.mono (by lia))
 ·rintro t r μ M ⟨l,d,o3,o4,hl,hlm,hd,rfl⟩ k;rw[Lf] at hlm;have hp:=hl.pos;rfl';refine ao fun M2 h2=>?_;exists bU,dY;refine⟨d,(l.length:Int),_,rfl,hd,by lia,by lia,by lia,fun v d1 v0 v1 hd1=>?_⟩
  obtain⟨a,rfl⟩:∃ a:Nat,v=a:=⟨v.toNat,by lia⟩
  have ha:a<l.length:=by lia
  have hle:=l.length_eraseIdx_of_lt ha;rfl';have six:seqIndex? (a:Int) (nI (nZ l)).length=some a:=by
   rw[bU,dY];unfold seqIndex?
   simp;lia
  have enZ:(nI (nZ l))[a]?=some (.int ((l[a]:Nat):Int)):=by unfold nI nZ;rw[Lr,Lr,KW ha];rfl
  refine⟨by lia,by lia,a,_,six,enZ,?_⟩
  rw[FD];rfl';rw[show ((l[a]:Nat):Int)+1=((l[a]+1:Nat):Int) from rfl];refine h2 _ ?_;clear h2 M2;refine ao fun M2 h2=>?_;exists bU,dY;rw[hle];refine⟨d1,_,_,rfl,hd1,by lia,by lia,by lia,fun v d2 v0 v1 hd2=>?_⟩
  rfl';rw[bU,dY,xE,hle];refine⟨v0,by lia,LX (show _<=20 by lia) (by decide),h2 _ ?_⟩;clear h2 M2
  generalize hl2:fh (l.eraseIdx a) (min v.toNat (l.length-1)) (l[a]+1)=l2;have le2:l2.length=l.length:=by rw[<- hl2,Bb,hle];lia
  have pe2:l2.Perm ((l[a]+1)::l.eraseIdx a):=by rw[<- hl2];exact oo ..
  clear hl2;exists bU,dY;refine⟨d2,_,_,rfl,hd2,by lia,by lia,by lia,fun v d3 v0 v1 hd3=>?_⟩
  rfl';rw[bU,dY,xE];obtain⟨hP3,hL3⟩:=hl.next ha (by lia) ((oo l2 (min v.toNat l2.length) (l[a]+1)).trans (List.Perm.cons _ pe2))
  exact⟨v0,by lia,LX (show _<=20 by lia) (by decide),k _ ⟨_,d3,some _,some _,hP3,by lia,hd3.mono (by lia),rfl⟩⟩
noncomputable def dg(n:Int):Nat:=48+(n % 2).toNat
noncomputable def aU:Int->Nat->List Nat->List Nat
 |_,0,acc=>acc
 |n,k+1,acc=>aU (n / 2) k (dg n::acc)
theorem bO:∀(k:Nat) (n:Int) (acc:List Nat),(aU n k acc).length=k+acc.length
 |0,_,_=>by rw[aU,M9]
 |k+1,n,acc=>by rw[aU,bO k,Lf];lia
theorem D2(n:Int):dg n=48\/dg n=49:=by
 unfold dg;have:n % 2=0\/n % 2=1:=by lia
 rcases this with e|e<;>rw[e]
 ·exact .inl rfl
 ·exact .inr rfl
theorem gv:∀(k:Nat) (n:Int) (acc:List Nat),(∀ c∈acc,c=48\/c=49)->∀ c∈aU n k acc,c=48\/c=49
 |0,_,_,h=>h
 |k+1,n,acc,h=>gv k (n / 2) (dg n::acc) fun c hc=>by
  rcases Le.mp hc with rfl|hc
  ·exact D2 n
  ·exact h c hc
theorem GL(n:Int):aY (Str.ofString "01").cps.toList (n % 2)=some (dg n):=by
 have:n % 2=0\/n % 2=1:=by lia
 unfold dg;rcases this with e|e<;>rw[e]
 ·exact (by decide +kernel)
 ·exact (by decide +kernel)
theorem fM(a b:List Nat):wd a++wd b=wd (a++b):=by
 apply C8;show (a.toArray++b.toArray).toList=_;simp
theorem gG:Str.ofString ""=wd []:=by decide +kernel
noncomputable def l_:dG:=fun args Q=>∃(n:Int) (k:Nat),args=[.int n,.int (k:Int)]/\k<=40/\Q (.tr (.str (wd (aU n k [])))) []
noncomputable def aG(n:Nat):Nat:=Builtin.Int.intBits (n:Int)
noncomputable def cD(n:Nat):List Nat:=aU (n:Int) (aG n) []
theorem h8{n:Nat}(h:n<65536):aG n<17:=by
 unfold aG Builtin.Int.intBits;split
 ·decide
 ·rename_i hz;have h0:n≠0:=fun z=>hz (by rw[z];rfl)
  show (n:Int).natAbs.log2+1<17;rw[Int.natAbs_natCast];have:=(Nat.log2_lt (n:=n) (k:=16) h0).mpr (by lia)
  lia
abbrev k2z(P w K mg base):=ae P w K mg base aX 1 "_law_bits" ["number","many"] (spT K [false,false] l_)
theorem xM(T:Txt K mg)(F:HasFn K mg "_law_bits" dJ ["number","many"]):k2z P w K mg base:=by
 refine F.gC cz [false,false] rfl (by decide) ?_;left;obtain⟨n,k,rfl,hk,q⟩:=h;refine⟨_,(Y.ab (Y.set (i:=2) cz.nd rfl (by right) Y.str)
   (Y.ab (Y.gg LR rfl (Y.jV rfl T.cY (Y.cons (Y.vS 1) Y.nil)) (Y.aK (i:=3) cz.nd rfl (by right)) (Y.ab (Y.set (i:=2) cz.nd rfl (by right) (Y.op (Y.au K rfl) Y.av (Y.ix (Y.aB K rfl) Y.af Y.str (Y.op dX Y.b_ (Y.vS 0) Y.int)) (Y.vS 2)))
   (Y.az (Y.set (i:=0) cz.nd rfl (by right) (Y.op Y.jm Y.b_ (Y.vS 0) Y.int)))))
   (Y.az (Y.ret (Y.vS 2))))),?_⟩
 refine ao fun N hN=>?_;rfl';symm;rfl';refine⟨by lia,by lia,?_⟩
 rw[LI];refine bD (fun rest μ=>∃(m:Int) (acc:List Nat) (o:Option L2.T),aU m rest.length acc=aU n k []/\rest.length+acc.length=k/\μ=[.tr (.int m),.tr (.int (k:Int)),.tr (.str (wd acc)),sl o]) ⟨n,[],none,by rw[Lb,Lz],by rw[Lb,Lz];rfl,by rw[gG];rfl⟩ ?_ ?_
 ·rintro μ ⟨m,acc,o,e,_,rfl⟩;show N _;ac_rfl;rfl';rw[<- e] at q;exact q
 ·rintro t ts μ M ⟨m,acc,o,e,hl,rfl⟩ kk;rw[Lf] at e hl;rfl';refine ao fun M' hM=>?_;exists GL;rw[show (⟨#[dg m]⟩:Str)=wd [dg m] from rfl,aI,aI,fM];refine⟨by decide,by decide +kernel,Lk (show _<=50 by simp;lia) (by decide),?_⟩
  refine hM _ ?_;clear hM M';rfl';exact⟨⟨by decide,by decide⟩,kk _ ⟨m / 2,dg m::acc,some _,e,by rw[Lf];lia,rfl⟩⟩
noncomputable def aV:Nat->List Nat
 |0=>[48]
 |1=>[49,48]
 |_=>[49,49]
noncomputable def a_:Nat->Nat
 |0=>4
 |1=>8
 |_=>16
noncomputable def cu(k:Nat)(d:Int):List Nat:=aV k++aU d (a_ k) []
noncomputable def Row.wi:Row->Nat
 |.put _ _=>0
 |.two u _ _=>1+u
 |.one u _=>4+u
 |.jump _=>6
 |.zero _ _=>7
 |.halt=>8
theorem Row.lG(r:Row):r.wi<9:=by
 cases r with
 |two u a b=>exact (by decide:∀ u:_root_.Fin 3,1+(u:Nat)<9) u
 |one u b=>exact (by decide:∀ u:_root_.Fin 2,4+(u:Nat)<9) u
 |put b n=>exact (by decide:0<9)
 |jump g=>exact (by decide:6<9)
 |zero b g=>exact (by decide:7<9)
 |halt=>exact (by decide:8<9)
inductive Pk where
 |box (b:Nat)|num (n:Nat)|goal (g:Nat)
noncomputable def Pk.kd:Pk->Str
 |.box _=>"box"
 |.num _=>"number"
 |.goal _=>"goal"
noncomputable def Pk.t:Pk->L2.T
 |.box b=>.str (gi b)
 |.num n=>.int (n:Nat)
 |.goal g=>.int (g:Nat)
noncomputable def Pk.Ok:Pk->Prop
 |.box b=>b<8
 |.num n=>n<65536
 |.goal _=>True
noncomputable def Pk.ID:Pk->List (Nat×Nat)
 |.box b=>[(2,b)]
 |.num n=>[(1,aG n)]
 |.goal _=>[]
noncomputable def Row.wd:Row->Str
 |.put _ _=>"put"
 |.two u _ _=>w2 u
 |.one u _=>w1 u
 |.jump _=>"jump"
 |.zero _ _=>"zero"
 |.halt=>"halt"
noncomputable def Row.fj:Row->List Pk
 |.put b n=>[.box b,.num n]
 |.two _ a b=>[.box a,.box b]
 |.one _ b=>[.box b]
 |.jump g=>[.goal g]
 |.zero b g=>[.box b,.goal g]
 |.halt=>[]
theorem Row.Eu(r:Row):r.t=.tup (.str r.wd::r.fj.map Pk.t):=by cases r<;>rfl
theorem Row.qH{r:Row}(h:r.Ok k):∀ p∈r.fj,p.Ok:=by
 cases r with
 |put b n=>simp only[Row.fj,Le,LU,MF];exact fun p z=>z.elim (fun e=>e ▸ h.1) fun e=>e ▸ h.2
 |two u a b=>simp only[Row.fj,Le,LU,MF];exact fun p z=>z.elim (fun e=>e ▸ h.1) fun e=>e ▸ h.2
 |one u b=>simp only[Row.fj,Le,LU,MF];rintro p rfl;exact h
 |jump g=>simp only[Row.fj,Le,LU,MF];rintro p rfl;exact trivial
 |zero b g=>simp only[Row.fj,Le,LU,MF];exact fun p z=>z.elim (fun e=>e ▸ h.1) fun e=>e ▸ trivial
 |halt=>simp[Row.fj]
noncomputable def nK(r:Row):List (Nat×Nat):=(0,r.wi)::r.fj.flatMap Pk.ID
noncomputable def fo:List Str:=["put","add","sub","copy","tell","hear","jump","zero","halt"]
theorem G2:∀ k,k<9->∀ m,m<k->fo[m]?≠fo[k]?:=by decide +kernel
theorem yn(r:Row):fo[r.wi]?=some r.wd/\∀ m,m<r.wi->fo[m]?≠some r.wd:=by
 have h1:fo[r.wi]?=some r.wd:=by
  cases r with
  |two u a b=>exact (by decide +kernel:∀ u:_root_.Fin 3,fo[1+(u:Nat)]?=some (w2 u)) u
  |one u b=>exact (by decide +kernel:∀ u:_root_.Fin 2,fo[4+(u:Nat)]?=some (w1 u)) u
  |put b n=>rfl
  |jump g=>rfl
  |zero b g=>rfl
  |halt=>rfl
 exact⟨h1,fun m hm=>by rw[<- h1];exact G2 _ r.lG m hm⟩
theorem J5{b:Nat}(h:b<8):Builtin.Str.occurrences (Str.ofString "abcdefgh") (gi b) 0 (Str.ofString "abcdefgh").length 1=[b]:=by
 rcases Kt h with rfl|rfl|rfl|rfl|rfl|rfl|rfl|rfl<;>decide +kernel
theorem yK(t:L2.T)(ts:List L2.T):Y.bT (t::ts) (some 1) none=ts:=by
 unfold Y.bT;rw[HT.fO,show (some (1:Int))=some ((1:Nat):Int) from rfl,HT.gP];simp
noncomputable def df:List (Str×List Str):=[("put",["box","number"]),("add",["box","box"]),("sub",["box","box"]),("copy",["box","box"]),("tell",["box"]),("hear",["box"]),("jump",["goal"]),("zero",["box","goal"]),("halt",[])]
theorem kF(r:Row):KTD.datumAt r.wd df=some (r.fj.map Pk.kd):=by
 cases r with
 |two u a b=>exact (by decide +kernel:∀ u:_root_.Fin 3,KTD.datumAt (w2 u) df=some [("box":Str),"box"]) u
 |one u b=>exact (by decide +kernel:∀ u:_root_.Fin 2,KTD.datumAt (w1 u) df=some [("box":Str)]) u
 |put b n=>exact (by decide +kernel:KTD.datumAt ("put":Str) df=some [("box":Str),"number"])
 |jump g=>exact (by decide +kernel:KTD.datumAt ("jump":Str) df=some [("goal":Str)])
 |zero b g=>exact (by decide +kernel:KTD.datumAt ("zero":Str) df=some [("box":Str),"goal"])
 |halt=>exact (by decide +kernel:KTD.datumAt ("halt":Str) df=some ([]:List Str))
noncomputable def Fl:List Str:=["a","b","c","d","e","f","g","h"]
theorem Ey{b:Nat}(h:b<8):Fl[b]?=some (gi b)/\∀ m,m<b->Fl[m]?≠some (gi b):=(by decide +kernel:∀ b,b<8->Fl[b]?=some (gi b)/\∀ m,m<b->Fl[m]?≠some (gi b)) b h
theorem jS:∀(o:List Nat) (a:Option (List Nat)) (ws:List (List Nat)),(∀ t∈o,ln t<=40)->(∀ v,a=some v->v.length<=40)->(∀ x∈ws,x.length<=40)->∀ x∈(Cw.along Cw.fm ln o (a,ws)).2,x.length<=40
 |[],_,_,_,_,h=>h
 |t::o,a,ws,ho,ha,hw=>by
  have ht:=ho t K_;have h2:=fun t h=>ho t (KZ _ h)
  cases a with
  |none =>
   refine jS o (some (List.replicate (ln t) 48)) _ h2 (fun v e=>by cases e;rw[Ln];exact ht) fun x hx=>?_
   rcases MU hx with z|z
   ·exact hw x z
   ·rw[z,Ln];exact ht
  |some v =>
   have hv:=sF (ha v rfl) ht;refine jS o (some (Cw.fm v (ln t))) _ h2 (fun v e=>by cases e;exact hv) fun x hx=>?_
   rcases MU hx with z|z
   ·exact hw x z
   ·rw[z];exact hv
theorem x8(hL:jj ls):∀ x∈wordsOf Cw.fm ls,x.length<=40:=by
 refine jS _ _ _ (fun t ht=>?_) (fun v e=>by cases e) fun x hx=>by rw[(MJ.mp hx).2];decide
 have h:=hJ ht;have:=hL.2.2 _ (L1 h);unfold aD;rw[Lp,KW h];show ls[t].toNat<=40;lia
theorem i7(ls:List Int):(wordsOf Cw.fm ls).length=ls.length:=(Cw.fT _ _).trans (Ln ..)
structure Cd (cd:List (List (List Nat))):Prop where
 ex:∃ a b c,cd=[a,b,c]/\a.length=9/\b.length=17/\c.length=8
 le:∀ ws∈cd,∀ x∈ws,x.length<=40
noncomputable def bV(cd:List (List (List Nat)))(p:Nat×Nat):List Nat:=(cd.getD p.1 []).getD p.2 []
noncomputable def yo:Row->List Nat
 |.put _ n=>(cD n).tail
 |_=>[]
noncomputable def bE(cd:List (List (List Nat)))(r:Row):List Nat:=(nK r).flatMap (bV cd)++yo r
noncomputable def Bk(bk:List (List Int)):Prop:=∃ a b c,bk=[a,b,c]/\a.length=9/\b.length=17/\c.length=8/\∀ l∈bk,jj l/\mP l=true
noncomputable def Bt(bk:List (List Int)):L2.T:=.tup (bk.map fun l=>.tup (nI l))
noncomputable def d_(bk:List (List Int)):List (List (List Nat)):=bk.map (wordsOf Cw.fm)
theorem Bk.cd{bk:List (List Int)}(h:Bk bk):Cd (d_ bk):=by
 obtain⟨a,b,c,rfl,h1,h2,h3,h4⟩:=h;refine⟨⟨_,_,_,rfl,by rw[i7,h1],by rw[i7,h2],by rw[i7,h3]⟩,fun ws hw=>?_⟩
 obtain⟨l,hl,rfl⟩:=L6.mp hw;exact x8 (h4 l hl).1
noncomputable def y8:dG:=fun args Q=>∃ bk:List (List Int),args=[Bt bk]/\Bk bk/\Q (.fr (.lst ((d_ bk).map fun ws=>.tup (wT ws)))) []
theorem wk(T:Txt K mg)(F:HasFn K mg "codes_of" d8 ["book"])(hcalm_code_of:ae P w K mg base aX 5 "code_of" ["lengths"] (spT K [false] y9)):ae P w K mg base aX 6 "codes_of" ["book"] (spT K [false] y8):=by
 refine F.gC mZ [false] rfl (by decide) ?_;left;obtain⟨bk,rfl,hB,q⟩:=h;obtain⟨a,b,c,e,h1,h2,h3,h4⟩:=hB;refine⟨_,(Y.az (Y.ret (Y.kA (osc:=aa d8) (ON:=["book"]) (own:=["lengths"]) (N:=["lengths","book"]) ⟨rfl,by decide +kernel,rfl,by decide +kernel,by decide +kernel,by decide +kernel,by decide +kernel,by decide +kernel⟩ rfl rfl rfl rfl (Y.anyS K rfl (Y.vS 0)) (fun _ _ _ _=>(Z.aK (i:=0) (show List.Nodup (["lengths","book"]:List Str) by decide +kernel) rfl (by right))) (fun _ _ _ _=>Y.pI) (fun _ _ _ _=>(Y.fn K rfl hcalm_code_of (hr.mono (by decide)) rfl ay (Y.cons (Y.vS 0) Y.nil)))))),?_⟩
 unfold Bt;rfl';refine cO (fun rest acc μ=>∃(done todo:List (List Int)),done++todo=bk/\(rest=todo.map fun l=>L2.T.tup (nI l))/\(acc=(d_ done).map fun ws=>L2.T.tup (wT ws))/\μ=[.tr (Bt bk)]) ⟨[],bk,rfl,rfl,rfl,rfl⟩ ?_ ?_
 ·rintro acc μ ⟨done,todo,e1,e2,rfl,rfl⟩;have e3:todo=[]:=by
   cases todo with
   |nil=>rfl
   |cons=>cases e2
  subst e3;rw[L8] at e1;subst e1;refine⟨trivial,?_⟩;rfl';exact q
 ·rintro t r acc μ M ⟨done,todo,e1,e2,rfl,rfl⟩ k
  cases todo with
  |nil=>cases e2
  |cons x todo =>
   obtain⟨rfl,rfl⟩:=List.cons.inj e2;have hx:=h4 x (by rw[<- e1];simp)
   have hd:done.length<=3:=by
    have:=L0 List.length e1;rw[KY,e] at this;simp at this;lia
   refine⟨trivial,by unfold d_;rw[Lb,Lb];exact LX hd (by decide),?_⟩
   rfl';refine⟨x,rfl,hx.1,hx.2,?_⟩;rfl';refine k _ _ ⟨done++[x],todo,by rw[<- e1];simp,rfl,?_,rfl⟩
   unfold d_;rw[L5,L5];rfl
theorem Dl{r:Row}(h:r.Ok k):∀ p∈nK r,(p.1=0/\p.2<9)\/(p.1=1/\p.2<17)\/(p.1=2/\p.2<8):=by
 intro p hp;unfold nK at hp;rcases Le.mp hp with rfl|hp
 ·exact .inl ⟨rfl,r.lG⟩
 ·obtain⟨q,hq,hp⟩:=List.mem_flatMap.mp hp;have:=Row.qH h q hq
  cases q with
  |box b=>rw[Lo.mp hp];exact .inr (.inr ⟨rfl,this⟩)
  |num n=>rw[Lo.mp hp];exact .inr (.inl ⟨rfl,h8 this⟩)
  |goal n=>cases hp
theorem Cd.at{cd:List (List (List Nat))}(h:Cd cd){p:Nat×Nat}(hp:(p.1=0/\p.2<9)\/(p.1=1/\p.2<17)\/(p.1=2/\p.2<8)):cd[p.1]?=some (cd.getD p.1 [])/\(cd.getD p.1 [])[p.2]?=some (bV cd p)/\(bV cd p).length<=40:=by
 obtain⟨a,b,c,rfl,h1,h2,h3⟩:=h.ex;have key:∀(l:List (List Nat)) (i:Nat),i<l.length->l[i]?=some (l.getD i [])/\l.getD i []∈l:=fun l i hi=>by
  rw[Lp,KW hi];exact⟨rfl,L1 hi⟩
 obtain⟨x,y⟩:=p;rcases hp with ⟨rfl,hy⟩|⟨rfl,hy⟩|⟨rfl,hy⟩
 ·have:=key a y (by rw[h1];exact hy)
  exact⟨rfl,this.1,h.le a (by simp) _ this.2⟩
 ·have:=key b y (by rw[h2];exact hy)
  exact⟨rfl,this.1,h.le b (by simp) _ this.2⟩
 ·have:=key c y (by rw[h3];exact hy)
  exact⟨rfl,this.1,h.le c (by simp) _ this.2⟩
theorem zZ(r:Row):(nK r).length<=3:=by cases r<;>simp[nK,Row.fj,Pk.ID]
theorem yg{cd:List (List (List Nat))}{r:Row}(hC:Cd cd)(h:r.Ok k):((nK r).flatMap (bV cd)).length<=120/\(yo r).length<=16:=by
 refine⟨?_,?_⟩
 ·have:∀ l:List (Nat×Nat),(∀ p∈l,(bV cd p).length<=40)->(l.flatMap (bV cd)).length<=40*l.length:=fun l=>by
   induction l with
   |nil=>exact fun _=>Lj _
   |cons p l ih =>
    intro h;have h1:=h p K_;have h2:=ih fun q hq=>h q (KZ _ hq);rw[Mv,KY,Lf];lia
  have h1:=this (nK r) fun p hp=>(hC.at (Dl h p hp)).2.2;have h2:=zZ r;lia
 ·cases r with
  |put b n =>
   have:=h8 (n:=n) h.2;show (cD n).tail.length<=16;rw[Oc];unfold cD;rw[bO];simp only[LC];lia
  |_=>exact LH _
noncomputable def Cm:dG:=fun args Q=>∃(d:L2.T) (n:Nat),args=[d]/\dH n d/\n<2^38/\∀(bk:List (List Int)) (d':L2.T),dH (n+200) d'->Bk bk->Q (.tr (Bt bk)) [d']
theorem Ae(T:Txt K mg)(F:HasFn K mg "_law_book" cQ ["deck"])(h_law_draw:k0z P w K mg base)(h_law_lengths:k14z P w K mg base):ae P w K mg base aX 4 "_law_book" ["deck"] (spT K [true] Cm):=by
 refine F.gC mq [true] rfl (by decide) ?_;left;obtain⟨sd,n,rfl,hs,hn,q⟩:=h;refine⟨_,(Y.ab (Y.eJ (Y.bg (Y.cc K rfl (LA hu)) Y.dA (Y.fn K rfl h_law_draw (hr.mono (by decide)) rfl ay (Y.cons (Y.vS 0) (Y.cons Y.int Y.nil))) Y.int) (Y.az (Y.ret (Y.tup (Y.cons (Y.op (Y.mE K rfl) Y.mG (Y.tup (Y.cons Y.int Y.nil)) Y.int) (Y.cons (Y.op (Y.mE K rfl) Y.mG (Y.tup (Y.cons Y.int Y.nil)) Y.int) (Y.cons (Y.op (Y.mE K rfl) Y.mG (Y.tup (Y.cons Y.int Y.nil)) Y.int) Y.nil)))))) Y.b6)
   (Y.az (Y.ret (Y.ct (Y.cJ K rfl) Y.dz rfl T.cZ (by decide +kernel) (Y.cons (Y.kA (osc:=aa cQ) (ON:=["deck"]) (own:=["many"]) (N:=["many","deck"]) ⟨rfl,by decide +kernel,rfl,by decide +kernel,by decide +kernel,by decide +kernel,by decide +kernel,by decide +kernel⟩ rfl rfl rfl rfl (Y.anyS K rfl (Y.tup (Y.bw rfl rfl))) (fun _ _ _ _=>(Z.aK (i:=0) (show List.Nodup (["many","deck"]:List Str) by decide +kernel) rfl (by right))) (fun _ _ _ _=>Y.pI) (fun _ _ _ _=>(Y.fn K rfl h_law_lengths (hr.mono (by decide)) rfl ay (Y.cons (Y.vS 1) (Y.cons (Y.vS 0) Y.nil))))) Y.nil))))),?_⟩
 refine ao fun N hN=>?_;rfl';refine⟨sd,4,_,rfl,hs,by lia,by decide,by decide,fun v s2 v0 v1 hs2=>?_⟩
 by_cases c:v=0
 ·exists Li c;refine⟨by decide,⟨by simp,by decide,by decide⟩,by decide,⟨by simp,by decide,by decide⟩,by decide,⟨by simp,by decide,by decide⟩,by decide,q [List.replicate 9 4,List.replicate 17 5,List.replicate 8 3] s2 (hs2.mono (by lia)) ⟨_,_,_,rfl,rfl,rfl,rfl,fun l hl=>?_⟩⟩
  have rr:∀(n:Nat) (k:Int),0<n->n<=20->1<=k->k<=40->jj (List.replicate n k):=fun n k a b c d=>⟨by rw[Ln];exact a,by rw[Ln];exact b,fun x hx=>by rw[(MJ.mp hx).2];exact⟨c,d⟩⟩
  rcases Le.mp hl with rfl|hl
  ·exact⟨rr 9 4 (by decide) (by decide) (by decide) (by decide),by decide +kernel⟩
  ·rcases Le.mp hl with rfl|hl
   ·exact⟨rr 17 5 (by decide) (by decide) (by decide) (by decide),by decide +kernel⟩
   ·rw[Lo.mp hl];exact⟨rr 8 3 (by decide) (by decide) (by decide) (by decide),by decide +kernel⟩
 ·exists Lc c;ac_rfl;rfl';refine⟨by decide,?_⟩
  refine cO (fun rest acc μ=>∃(done:List (List Int)) (todo:List Nat) (d:L2.T),done.map List.length++todo=[9,17,8]/\(rest=todo.map fun k:Nat=>L2.T.int (k:Int))/\(acc=done.map fun l=>L2.T.tup (nI l))/\(∀ l∈done,jj l/\mP l=true)/\dH (n+1+60*done.length) d/\μ=[.pb d]) ⟨[],[9,17,8],s2,rfl,rfl,rfl,(fun l h=>(nomatch h)),hs2,rfl⟩ ?_ ?_
  ·rintro acc μ ⟨done,todo,d,e1,e2,rfl,hd,hs3,rfl⟩;have e3:todo=[]:=by
    cases todo with
    |nil=>rfl
    |cons=>cases e2
   subst e3;rw[L8] at e1;refine⟨trivial,?_⟩;rfl';rcases done with _|⟨a,_|⟨b,_|⟨c,_|⟨x,l⟩⟩⟩⟩
   ·exact absurd (L0 List.length e1) (by simp)
   ·exact absurd (L0 List.length e1) (by simp)
   ·exact absurd (L0 List.length e1) (by simp)
   ·simp only[L3,Nu,List.cons.injEq] at e1;exact q [a,b,c] d (hs3.mono (by simp only[Lf,LC];lia)) ⟨a,b,c,rfl,e1.1,e1.2.1,e1.2.2.1,hd⟩
   ·exact absurd (L0 List.length e1) (by simp)
  ·rintro t r acc μ M ⟨done,todo,d,e1,e2,rfl,hd,hs3,rfl⟩ k
   cases todo with
   |nil=>cases e2
   |cons x todo =>
    obtain⟨rfl,rfl⟩:=List.cons.inj e2;have el:=L0 List.length e1;rw[KY,Lb,Lf] at el;have el:done.length+(todo.length+1)=3:=el;have hx:x=9\/x=17\/x=8:=by
     have:x∈[9,17,8]:=by rw[<- e1];simp
     simpa using this
    refine⟨trivial,by rw[Lb];exact Lv (show done.length<4 by lia) (by decide),?_⟩
    rfl';refine⟨d,x,_,rfl,hs3,by lia,by lia,by lia,fun ls d' hd' l1 l2 l3=>?_⟩
    rfl';refine k _ _ ⟨done++[ls],todo,d',by rw[L5,<- e1,L3,l1];simp,rfl,by rw[L5];rfl,fun l hl=>?_,by rw[KY,LD];exact hd'.mono (by lia),rfl⟩
    rcases LY.mp hl with hl|hl
    ·exact hd l hl
    ·rw[Lo.mp hl];exact⟨l2,l3⟩
theorem yk{β:Type}{f:α->β}{o m:List β}(h:o.Perm m):∀ l:List α,l.map f=m->∃ k:List α,k.map f=o/\k.Perm l:=by
 induction h with
 |nil =>
  intro l e
  cases l with
  |nil=>exact⟨[],rfl,.nil⟩
  |cons=>cases e
 |cons x p ih =>
  intro l e
  cases l with
  |nil=>cases e
  |cons a l =>
   obtain⟨rfl,e2⟩:=List.cons.inj e;obtain⟨k,e3,p3⟩:=ih l e2;exact⟨a::k,by rw[L3,e3],p3.cons a⟩
 |swap x y l0 =>
  intro l e;rcases l with _|⟨a,_|⟨b,l⟩⟩
  ·cases e
  ·cases e
  ·obtain⟨rfl,e2⟩:=List.cons.inj e;obtain⟨rfl,e3⟩:=List.cons.inj e2;exact⟨b::a::l,by rw[<- e3];rfl,.swap ..⟩
 |trans p q ih1 ih2 =>
  intro l e;obtain⟨k,e1,p1⟩:=ih2 l e;obtain⟨k',e2,p2⟩:=ih1 k e1;exact⟨k',e2,p2.trans p1⟩
theorem BG{p:List Nat}(hp:p.Perm (List.range ls.length))(hr:p.Pairwise (SP.R fun i=>ls.getD i 0)):bp ls=p:=by
 have ez:(List.range ls.length).map (fun i=>(ls.getD i 0,i))=ls.zip (List.range ls.length):=by
  apply MG
  ·rw[Lb,Lz,ND,Lz,NI]
  ·intro i h1 h2;rw[Lb,Lz] at h1;rw[Oe,OK,List.getElem_zip];simp[h1]
 have e1:p.map (fun i=>(ls.getD i 0,i))=dR (ls.zip (List.range ls.length)):=by
  refine oX ?_ fun a=>?_
  ·exact MB.mpr (hr.imp fun h=>h.le)
  ·have fl:∀ l:List Nat,atK a (l.map fun i=>(ls.getD i 0,i))=(l.filter fun i=>decide (ls.getD i 0=a)).map fun i=>(ls.getD i 0,i):=fun l=>by
    unfold atK;rw[List.filter_map];rfl
   rw[<- ez,fl,fl];congr 1;refine Ph (le:=(· < ·)) (fun a b _ _ h g=>absurd h (Nat.lt_asymm g)) ?_ (NY.filter _) (hp.filter _);rw[List.pairwise_filter];refine hr.imp fun {i j} h hi hj=>?_;have hi:=Mf hi;have hj:=Mf hj;rcases h with h|h
   ·exfalso;have h':ls.getD i 0<ls.getD j 0:=h;lia
   ·exact h.2
 unfold bp iC;rw[<- e1,N0];exact List.map_id _
noncomputable def vp(ls:List Int)(i:Nat):Int×Int:=(ls.getD i 0,(i:Int))
theorem uO{out:List (Int×Int)}(hp:out.Perm ((List.range ls.length).map (vp ls)))(hu:Fg out):out=(bp ls).map (vp ls)/\(bp ls).Pairwise (SP.R fun i=>ls.getD i 0):=by
 obtain⟨p,rfl,pp⟩:=yk hp (List.range ls.length) rfl;have hr:p.Pairwise (SP.R fun i=>ls.getD i 0):=by
  have nd:p.Nodup:=pp.nodup_iff.mpr List.nodup_range;unfold Fg at hu;rw[MB] at hu;refine (hu.and nd).imp fun {i j} h=>?_;have h1:¬ ((vp ls j).1<(vp ls i).1\/((vp ls j).1=(vp ls i).1/\(vp ls j).2<(vp ls i).2)):=of_decide_eq_false h.1;have h1':¬ (ls.getD j 0<ls.getD i 0\/(ls.getD j 0=ls.getD i 0/\(j:Int)<(i:Int))):=h1;show ls.getD i 0<ls.getD j 0\/(ls.getD i 0=ls.getD j 0/\i<j);have:=h.2;lia
 rw[BG pp hr];exact⟨rfl,hr⟩
theorem DW(h:(bp ls).Pairwise (SP.R fun i=>ls.getD i 0)):(bp ls).Pairwise fun i j=>aD ls i<=aD ls j:=h.imp fun {i j} h=>by
 have h':ls.getD i 0<=ls.getD j 0:=h.le;unfold aD;lia
theorem vj:∀(k:Nat) (w acc:List Nat),w.length=k->(∀ c∈w,c=48\/c=49)->aU (Cw.val w:Int) k acc=w++acc:=by
 intro k
 induction k with
 |zero=>intro w acc h _;rw[Ng.mp h];rfl
 |succ k ih =>
  intro w acc h hb;obtain⟨v,c,rfl⟩:∃ v c,w=v++[c]:=by
   rcases PD w with e|⟨v,c,e⟩
   ·rw[e] at h;cases h
   ·exact⟨v,c,by rw[e,List.concat_eq_append]⟩
  have hc:=hb c (by simp)
  have ev:Cw.val (v++[c])=2*Cw.val v+(c-48):=by
   rw[Cw.fV];rcases hc with rfl|rfl
   ·simp[Cw.val];lia
   ·simp[Cw.val];lia
  rw[aU];have e1:((Cw.val (v++[c]):Nat):Int) / 2=(Cw.val v:Int):=by rw[ev];lia
  have e2:dg ((Cw.val (v++[c]):Nat):Int)=c:=by
   unfold dg;rw[ev];rcases hc with rfl|rfl
   ·have:((2*Cw.val v+(48-48):Nat):Int) % 2=0:=by lia
    rw[this];rfl
   ·have:((2*Cw.val v+(49-48):Nat):Int) % 2=1:=by lia
    rw[this];rfl
  rw[e1,e2,ih v (c::acc) (by rw[KY,LD] at h;lia) (fun x hx=>hb x (by simp[hx])),Ls]
  rfl
theorem v7(ls:List Int):Kr.ks 40 ((bp ls).map (aD ls))=KS ls:=by
 unfold KS;refine Kr.h9 ?_;have e:ls.map Int.toNat=(List.range ls.length).map (aD ls):=by
  apply MG
  ·simp
  ·intro i h1 h2;have hi:i<ls.length:=by simpa using h1
   simp[aD,hi]
 rw[e];exact (jd (by rw[Lz])).map _
structure At (ls:List Int) (done todo:List Nat) (a:Option (List Nat)) (n h:Int):Prop where
 all:done++todo=bp ls
 st:(a=none/\done=[]/\n=-1/\h=0)\/∃ w,a=some w/\n=(Cw.val w:Int)/\h=(w.length:Int)/\Cw.gE (done.map (aD ls)) w/\∀ t∈todo,w.length<=aD ls t
noncomputable def jT(a:Option (List Nat))(l:Nat):List Nat:=match a with|none=>List.replicate l 48|some v=>Cw.eC v l
theorem At.next{ls:List Int}{todo:List Nat}{a:Option (List Nat)}{n h:Int}{t:Nat}(x:At ls done (t::todo) a n h)(hL:jj ls)(ho:mP ls=true)(hu:(bp ls).Pairwise fun i j=>aD ls i<=aD ls j):
  ∃ d:Nat,(aD ls t:Int)-h=d/\d<=aD ls t/\(n+1)*2^d=(Cw.val (jT a (aD ls t)):Int)/\(jT a (aD ls t)).length=aD ls t/\(∀ c∈jT a (aD ls t),c=48\/c=49)/\At ls (done++[t]) todo (some (jT a (aD ls t))) (Cw.val (jT a (aD ls t)):Int) (aD ls t:Int):=by
 have hall:(done++[t])++todo=bp ls:=by rw[Ls];exact x.all
 have htl:aD ls t<=40:=by
  have h:=hJ (ls:=ls) (t:=t) (by rw[<- x.all];simp)
  have:=hL.2.2 _ (L1 h);unfold aD;rw[Lp,KW h];show ls[t].toNat<=40;lia
 have hk:Kr.ks 40 ((done++[t]++todo).map (aD ls))<=2^40:=by rw[hall,v7];exact Mf ho
 rw[L5,L5,Kr.cq,Kr.cq] at hk;have hle:∀ u∈todo,aD ls t<=aD ls u:=fun u hu'=>by
  rw[<- x.all] at hu;exact (L9.mp (Mk.mp hu).2.1).1 u hu'
 rcases x.st with ⟨rfl,rfl,rfl,rfl⟩|⟨w,rfl,rfl,rfl,hH,hw⟩
 ·refine⟨aD ls t,by lia,Lj _,?_,Ln ..,fun c hc=>.inl (MJ.mp hc).2,hall,.inr ⟨_,rfl,rfl,by rw[show jT none (aD ls t)=List.replicate (aD ls t) 48 from rfl,Ln],Cw.gE.first htl,fun u hu'=>by rw[show jT none (aD ls t)=List.replicate (aD ls t) 48 from rfl,Ln];exact hle u hu'⟩⟩
  rw[show jT none (aD ls t)=List.replicate (aD ls t) 48 from rfl,Cw.eF];simp
 ·have hwt:=hw t K_;have hk2:Kr.ks 40 (done.map (aD ls))+2^(40-aD ls t)<=2^40:=by
   simp only[L3,Nu,Kr.ks] at hk;lia
  have hz:=hH.zero (rest:=[]) hk2;have hN:=hH.next hwt htl hk2;refine⟨aD ls t-w.length,by lia,Nat.sub_le _ _,?_,Cw.d9 hwt,Cw.kJ hH.bits,hall,.inr ⟨_,rfl,rfl,by rw[show jT (some w) (aD ls t)=Cw.eC w (aD ls t) from rfl,Cw.d9 hwt],by rw[L5];exact hN,fun u hu'=>by rw[show jT (some w) (aD ls t)=Cw.eC w (aD ls t) from rfl,Cw.d9 hwt];exact hle u hu'⟩⟩
  rw[show jT (some w) (aD ls t)=Cw.eC w (aD ls t) from rfl,Cw.oR hH.bits hz];simp
noncomputable def vA:dG:=fun args Q=>∃ ls:List Int,args=[.tup (nI ls)]/\jj ls/\mP ls=true/\Q (.fr (.lst (wT (wordsOf Cw.fm ls)))) []
theorem kU(i:Nat)(h:i<xs.length):(pairs (nI xs)).drop i=.tup [.int (i:Nat),.int xs[i]]::(pairs (nI xs)).drop (i+1):=by
 have hl:i<(pairs (nI xs)).length:=by unfold pairs;simp[bU,h]
 rw[LL hl];congr 1;unfold pairs;simp[nI,KW h]
theorem pk(i:Nat)(h:xs.length<=i):(pairs (nI xs)).drop i=[]:=List.drop_of_length_le (by unfold pairs;simp[bU,h])
theorem yy(T:Txt K mg)(F:HasFn K mg "_law_code" cP ["lengths"])(h_law_bits:k2z P w K mg base):ae P w K mg base aX 2 "_law_code" ["lengths"] (spT K [false] vA):=by
 refine F.gC aS [false] rfl (by decide) ?_;left;obtain⟨ls,rfl,hL,ho,q⟩:=h;refine⟨_,(Y.ab (Y.set (i:=1) aS.nd rfl (by right) (Y.op (Y.bY K rfl) Y.bF (Y.lst (Y.cons Y.str Y.nil)) (Y.cb (Y.aH K rfl) Y.ba rfl T.cG (by decide +kernel) (Y.cons (Y.vS 0) Y.nil))))
   (Y.ab (Y.set (i:=2) aS.nd rfl (by right) Y.int)
   (Y.ab (Y.set (i:=3) aS.nd rfl (by right) Y.int)
   (Y.ab (Y.gg LR rfl (Y.anyS K rfl (Y.cb (Y.pN K rfl) Y.ye rfl T.jo (by decide +kernel) (Y.cons (Y.rm K rfl (osc:=aa cP) (ON:=["lengths","found","number","size","length","thing","k"]) (own:=["thing","length"]) (N:=["thing","length","lengths","found","number","size",".length",".thing","k"]) ⟨rfl,by decide +kernel,rfl,by decide +kernel,by decide +kernel,by decide +kernel,by decide +kernel,by decide +kernel⟩ rfl rfl rfl rfl (Y.enum K rfl rfl T.fB (Y.cons (Y.vS 0) Y.nil)) (fun _ _ _ _=>(Z.vh (n:=2) K rfl rfl (Z.bJ (Z.aK (i:=0) (show List.Nodup (["thing","length","lengths","found","number","size",".length",".thing","k"]:List Str) by decide +kernel) rfl (by right)) (Z.bJ (Z.aK (i:=1) (show List.Nodup (["thing","length","lengths","found","number","size",".length",".thing","k"]:List Str) by decide +kernel) rfl (by right)) Z.g_)))) (fun _ _ _ _=>Y.pI) (fun _ _ _ _=>(Y.tup (Y.cons (Y.vS 1) (Y.cons (Y.vS 0) Y.nil))))) Y.nil))) (Y.yG (n:=2) K rfl rfl (Y.bJ (Y.aK (i:=4) aS.nd rfl (by right)) (Y.bJ (Y.aK (i:=5) aS.nd rfl (by right)) Y.g_))) (Y.ab (Y.gg LR rfl (Y.jV rfl T.cY (Y.cons (Y.op dW Y.cN (Y.vS 4) (Y.vS 3)) Y.nil)) (Y.aK (i:=6) aS.nd rfl (by right)) (Y.az (Y.set (i:=2) aS.nd rfl (by right) (Y.op (Y.bY K rfl) Y.bF (Y.vS 2) Y.int))))
   (Y.ab (Y.set (i:=3) aS.nd rfl (by right) (Y.vS 4))
   (Y.ab (Y.asg (Y.fn K rfl h_law_bits (hr.mono (by decide)) rfl ay (Y.cons (Y.vS 2) (Y.cons (Y.vS 4) Y.nil))) (Y.mT (Y.vS 1) (Y.vS 5)))
   (Y.az (Y.set (i:=2) aS.nd rfl (by right) (Y.op (Y.au K rfl) Y.av (Y.vS 2) Y.int)))))))
   (Y.az (Y.ret (Y.vS 1))))))),?_⟩
 refine ao fun N hN=>?_;exists bU;have hl20:=hL.2.1;refine⟨by decide,by lia,by lia,Lk (show _<=20 by lia) (by decide),?_⟩
 have er:(List.replicate ls.length [L2.T.str (Str.ofString "")]).flatten=wT (List.replicate ls.length []):=by
  rw[gG];unfold wT;rw[List.map_replicate];generalize ls.length=n
  induction n with
  |zero=>rfl
  |succ n ih=>rw[LN,Mt,ih];rfl
 rw[LI,er];refine hN _ ?_;clear hN N er;refine ao fun N hN=>?_;rfl';symm;rfl';symm;exists bU;refine cO (fun rest acc μ=>∃ i:Nat,i<=ls.length/\rest=(pairs (nI ls)).drop i/\acc=((List.range i).map (vp ls)).map Y.sx/\μ=[.tr (.tup (nI ls)),.bx (.lst (wT (List.replicate ls.length []))),.tr (.int 0),.tr (.int 0),.un,.un,.un]) ⟨0,LH _,rfl,rfl,rfl⟩ ?_ ?_
 ·rintro acc μ ⟨i,hi,e,rfl,rfl⟩;have hi2:i=ls.length:=by
   by_cases c:i<ls.length
   ·rw[kU i c] at e;cases e
   ·lia
  subst hi2;refine⟨trivial,?_⟩;rfl';refine⟨_,rfl,by rw[Lb,Lz];lia,fun out hp hup=>?_⟩
  obtain⟨eo,hR⟩:=uO hp hup;have hup2:=DW hR;subst eo;rfl';have h40:∀ t∈bp ls,ls.getD t 0=(aD ls t:Int)/\aD ls t<=40/\t<ls.length:=fun t ht=>by
   have h:=hJ ht;have:=hL.2.2 _ (L1 h);unfold aD;rw[Lp,KW h];show ls[t]=((ls[t].toNat:Nat):Int)/\ls[t].toNat<=40/\_;exact⟨by lia,by lia,h⟩
  refine bD (fun rest μ=>∃(done todo:List Nat) (a:Option (List Nat)) (ws:List (List Nat)) (n h:Int) (o4 o5 o6:Option L2.T),rest=(todo.map (vp ls)).map Y.sx/\At ls done todo a n h/\Cw.along Cw.eC (aD ls) done (none,List.replicate ls.length [])=(a,ws)/\ws.length=ls.length/\μ=[.tr (.tup (nI ls)),.bx (.lst (wT ws)),.tr (.int (n+1)),.tr (.int h),sl o4,sl o5,sl o6]) ⟨[],bp ls,none,_,-1,0,none,none,none,rfl,⟨rfl,.inl ⟨rfl,rfl,rfl,rfl⟩⟩,rfl,Ln ..,rfl⟩ ?_ ?_
  ·rintro μ ⟨done,todo,a,ws,n,h,o4,o5,o6,e,hA,hal,_,rfl⟩;have e0:todo=[]:=by
    cases todo with
    |nil=>rfl
    |cons=>cases e
   subst e0;have ed:done=bp ls:=by have:=hA.all;rw[L8] at this;exact this
   have ew:wordsOf Cw.fm ls=ws:=by
    unfold wordsOf;rw[Cw.gI (bp ls) [] none _ hup2 (fun t ht=>(h40 t ht).2.1) (fun v z=>by cases z) (fun _=>rfl) (by rw[Mg,v7];exact Mf ho),<- ed,hal]
   show N _;ac_rfl;rfl';rw[ew] at q;exact q
  ·rintro t ts μ M ⟨done,todo,a,ws,n,h,o4,o5,o6,e,hA,hal,hwl,rfl⟩ k
   cases todo with
   |nil=>cases e
   |cons x todo =>
    obtain⟨rfl,rfl⟩:=List.cons.inj e;obtain⟨hx1,hx2,hx3⟩:=h40 x (by rw[<- hA.all];simp)
    obtain⟨d,e1,e0,e2,e3,e4,hA2⟩:=hA.next hL ho hup2;have hal2:Cw.along Cw.eC (aD ls) (done++[x]) (none,List.replicate ls.length [])=(some (jT a (aD ls x)),ws.set x (jT a (aD ls x))):=by
     rw[Cw.eR,hal]
     cases a<;>rfl
    unfold vp Y.sx;rw[hx1];generalize aD ls x=l at *;generalize hw':jT a l=w' at *;rfl';refine ao fun M2 h2=>?_;exists e1;refine⟨by lia,by lia,?_⟩
    rw[LI];refine bD (fun rest μ=>∃(j:Nat) (o6:Option L2.T),j+rest.length=d/\μ=[.tr (.tup (nI ls)),.bx (.lst (wT ws)),.tr (.int ((n+1)*2^j)),.tr (.int h),.tr (.int (l:Int)),.tr (.int (x:Int)),sl o6]) ⟨0,o6,by rw[Lb,Lz,M9],by rw[Int.pow_zero,Int.mul_one]⟩ ?_ ?_
    ·rintro μ ⟨j,o6,hj,rfl⟩;have hj2:j=d:=by simpa using hj
     subst hj2;rw[e2];show M2 _;refine h2 _ ?_;clear h2 M2;refine ao fun M2 h2=>?_;rfl';refine h2 _ ?_;clear h2 M2;refine ao fun M2 h2=>?_;rfl';refine⟨_,l,rfl,hx2,?_⟩;rw[vj l w' [] e3 e4,L8];have ixw:ie (wT ws).length (x:Int)=some x:=by
      rw[Ek (by lia) (by rw[m7,hwl];lia)];simp
     have sw:(wT ws).set x (.str (wd w'))=wT (ws.set x w'):=by unfold wT;rw[NM]
     exists ixw,sw;refine h2 _ ?_;clear h2 M2;rfl';exact k _ ⟨done++[x],todo,some w',ws.set x w',_,_,some _,some _,o6,rfl,hA2,hal2,by rw[LV,hwl],rfl⟩
    ·rintro t ts μ M3 ⟨j,o6,hj,rfl⟩ k3;rfl';refine⟨.inr (by decide),k3 _ ⟨j+1,some t,by rw[Lf] at hj;lia,?_⟩⟩
     rw[show (n+1)*2^j*2=(n+1)*2^(j+1) from by rw[Pm,<- PZ]]
     rfl
 ·rintro t r acc μ M ⟨i,hi,e,rfl,rfl⟩ k;have hi2:i<ls.length:=by
   rcases Ma i ls.length with c|c
   ·exact c
   ·rw[pk i c] at e;cases e
  rw[kU i hi2] at e;obtain⟨rfl,rfl⟩:=List.cons.inj e;clear e;refine⟨trivial,by rw[Lb,Lb,Lz];exact LX (show i<=20 by lia) (by decide),?_⟩
  rfl';refine⟨by decide,k _ _ ⟨i+1,hi2,rfl,?_,rfl⟩⟩
  rw[Oy,L5,L5];unfold vp Y.sx;simp[hi2]
noncomputable def oI:Option Nat->L2.T
 |none=>.aC
 |some g=>.int (g:Int)
noncomputable def nO(xs:List (Option Nat)):List L2.T:=xs.map oI
theorem EJ(xs:List (Option Nat)):(nO xs).length=xs.length:=Lb ..
noncomputable def ax:Row->Option Nat
 |.jump g=>some g
 |.zero _ g=>some g
 |_=>none
noncomputable def rT(rs:List Row):List L2.T:=rs.map Row.t
noncomputable def Ci:dG:=fun args Q=>∃ r:Row,args=[r.t]/\Q (.tr (oI (ax r))) []
theorem AY(T:Txt K mg)(F:HasFn K mg "goal_of" fY ["row"]):ae P w K mg base aX 1 "goal_of" ["row"] (spT K [false] Ci):=by
 refine F.gC pL [false] rfl (by decide) ?_;left;obtain⟨r,rfl,q⟩:=h;refine⟨_,(Y.az (Y.ret (Y.Fw (Y.bg (Y.ml K rfl) Y.tG Y.str (Y.Kw K rfl rfl T.je (Y.ix (Y.aB K rfl) Y.af (Y.vS 0) Y.int))) (Y.ix (Y.aB K rfl) Y.af (Y.vS 0) (Y.neg Y.int)) Y.aC))),?_⟩;rw[Row.Eu];have e1:=kF r;unfold df at e1;exists e1;refine⟨rfl,?_,?_⟩
 ·rw[Mj];intro x hx;obtain⟨z,_,rfl⟩:=L6.mp hx;rfl
 have two:(Y.fJ (L2.T.str (Str.ofString "goal")) ((r.fj.map Pk.kd).map L2.T.str)=false/\ax r=none)\/(Y.fJ (L2.T.str (Str.ofString "goal")) ((r.fj.map Pk.kd).map L2.T.str)=true/\aY (.str r.wd::r.fj.map Pk.t) (-1)=some (oI (ax r))):=by
  cases r with
  |put b n=>exact .inl ⟨show Y.fJ (L2.T.str (Str.ofString "goal")) [L2.T.str (Str.ofString "box"),L2.T.str (Str.ofString "number")]=false by decide +kernel,rfl⟩
  |two u a b=>exact .inl ⟨show Y.fJ (L2.T.str (Str.ofString "goal")) [L2.T.str (Str.ofString "box"),L2.T.str (Str.ofString "box")]=false by decide +kernel,rfl⟩
  |one u b=>exact .inl ⟨show Y.fJ (L2.T.str (Str.ofString "goal")) [L2.T.str (Str.ofString "box")]=false by decide +kernel,rfl⟩
  |jump g=>exact .inr ⟨show Y.fJ (L2.T.str (Str.ofString "goal")) [L2.T.str (Str.ofString "goal")]=true by decide +kernel,rfl⟩
  |zero b g=>exact .inr ⟨show Y.fJ (L2.T.str (Str.ofString "goal")) [L2.T.str (Str.ofString "box"),L2.T.str (Str.ofString "goal")]=true by decide +kernel,rfl⟩
  |halt=>exact .inl ⟨show Y.fJ (L2.T.str (Str.ofString "goal")) []=false by decide +kernel,rfl⟩
 rcases two with ⟨n1,n2⟩|⟨n1,n2⟩
 ·rw[n1,Lc (by decide)]
  rw[n2] at q;exact q
 ·rw[n1,Li rfl,n2];exact q
noncomputable def sW:dG:=fun args Q=>∃ rs:List Row,args=[pT rs]/\rs.length<=64/\Q (.fr (.lst (nO (rs.map ax)))) []
theorem uj(T:Txt K mg)(F:HasFn K mg "_law_goals" cA ["program"]):ae P w K mg base aX 1 "_law_goals" ["program"] (spT K [false] sW):=by
 refine F.gC kb [false] rfl (by decide) ?_;left;obtain⟨rs,rfl,h60,q⟩:=h;refine⟨_,(Y.az (Y.ret (Y.kA (osc:=aa cA) (ON:=["program"]) (own:=["row"]) (N:=["row","program"]) ⟨rfl,by decide +kernel,rfl,by decide +kernel,by decide +kernel,by decide +kernel,by decide +kernel,by decide +kernel⟩ rfl rfl rfl rfl (Y.anyS K rfl (Y.vS 0)) (fun _ _ _ _=>(Z.aK (i:=0) (show List.Nodup (["row","program"]:List Str) by decide +kernel) rfl (by right))) (fun _ _ _ _=>Y.pI) (fun _ _ _ _=>(Y.Fw (Y.bg (Y.ml K rfl) Y.tG (Y.ix (Y.aB K rfl) Y.af (Y.vS 0) Y.int) (Y.tup (Y.bw rfl rfl))) (Y.ix (Y.aB K rfl) Y.af (Y.vS 0) (Y.neg Y.int)) Y.aC))))),?_⟩
 unfold pT;rfl';refine cO (fun rest acc μ=>∃(done todo:List Row),done++todo=rs/\rest=rT todo/\acc=nO (done.map ax)/\μ=[.tr (pT rs)]) ⟨[],rs,rfl,rfl,rfl,rfl⟩ ?_ ?_
 ·rintro acc μ ⟨done,todo,e1,e2,rfl,rfl⟩;have e3:todo=[]:=O7.mp e2.symm;subst e3;rw[L8] at e1;subst e1;refine⟨trivial,?_⟩;rfl';exact q
 ·rintro t r acc μ M ⟨done,todo,e1,e2,rfl,rfl⟩ k
  cases todo with
  |nil=>cases e2
  |cons x todo =>
   obtain⟨rfl,rfl⟩:=List.cons.inj e2;have hd:done.length<=64:=by
    have:=L0 List.length e1;rw[KY] at this;lia
   refine⟨trivial,by rw[EJ,Lb];exact LX hd (by decide),?_⟩
   have fin:M (nO (done.map ax)++[oI (ax x)]) [.tr (pT rs)]:=k _ _ ⟨done++[x],todo,by rw[<- e1];simp,rfl,by rw[L5];unfold nO;rw[L5];rfl,rfl⟩
   have two:(Y.fJ (.str x.wd) [.str "jump",.str "zero"]=false/\ax x=none)\/(Y.fJ (.str x.wd) [.str "jump",.str "zero"]=true/\aY (.str x.wd::x.fj.map Pk.t) (-1)=some (oI (ax x))):=by
    cases x with
    |put b n=>exact .inl ⟨show Y.fJ (L2.T.str (Str.ofString "put")) _=false by decide +kernel,rfl⟩
    |two u a b=>exact .inl ⟨(by decide +kernel:∀ u,Y.fJ (.str (w2 u)) [.str "jump",.str "zero"]=false) u,rfl⟩
    |one u b=>exact .inl ⟨(by decide +kernel:∀ u,Y.fJ (.str (w1 u)) [.str "jump",.str "zero"]=false) u,rfl⟩
    |jump g=>exact .inr ⟨show Y.fJ (L2.T.str (Str.ofString "jump")) _=true by decide +kernel,rfl⟩
    |zero b g=>exact .inr ⟨show Y.fJ (L2.T.str (Str.ofString "zero")) _=true by decide +kernel,rfl⟩
    |halt=>exact .inl ⟨show Y.fJ (L2.T.str (Str.ofString "halt")) _=false by decide +kernel,rfl⟩
   rw[Row.Eu];rcases two with ⟨n1,n2⟩|⟨n1,n2⟩
   ·exists n1;rw[n2] at fin;exact⟨by decide,rfl,rfl,fin⟩
   ·exists n1,n2;exact⟨by decide,rfl,rfl,fin⟩
noncomputable def Kv(cd:List (List (List Nat))):L2.T:=.lst (cd.map fun ws=>.lst (wT ws))
noncomputable def lj(cd:List (List (List Nat))):Pk->List Nat
 |.box b=>bV cd (2,b)
 |.num n=>bV cd (1,aG n)++(cD n).tail
 |.goal _=>[]
noncomputable def Pk.of(w:Str):Pk->Prop
 |.box _=>True
 |.num _=>w=Str.ofString "put"
 |.goal _=>w≠Str.ofString "put"
theorem CN(r:Row):∀ p∈r.fj,p.of r.wd:=by
 cases r with
 |put b n=>intro p hp;simp only[Row.fj,Le,LU,MF] at hp;rcases hp with rfl|rfl;exact trivial;exact rfl
 |two u a b=>intro p hp;simp only[Row.fj,Le,LU,MF] at hp;rcases hp with rfl|rfl<;>exact trivial
 |one u b=>intro p hp;simp only[Row.fj,Le,LU,MF] at hp;subst hp;exact trivial
 |jump g=>intro p hp;simp only[Row.fj,Le,LU,MF] at hp;subst hp;show Str.ofString "jump"≠Str.ofString "put";decide +kernel
 |zero b g=>intro p hp;simp only[Row.fj,Le,LU,MF] at hp;rcases hp with rfl|rfl;exact trivial;show Str.ofString "zero"≠Str.ofString "put";decide +kernel
 |halt=>intro p hp;cases hp
theorem jx(cd:List (List (List Nat)))(r:Row):bE cd r=bV cd (0,r.wi)++r.fj.flatMap (lj cd):=by
 cases r<;>simp[bE,nK,Row.fj,Pk.ID,lj,yo]
theorem zN(l:List Nat):Y.fC (wd l) (some 1) none=wd l.tail:=by
 unfold Y.fC wd;congr 2;show Y.bT l (some 1) none=l.tail;unfold Y.bT;rw[HT.fO,show (some (1:Int))=some ((1:Nat):Int) from rfl,HT.gP]
 cases l with
 |nil=>rfl
 |cons x l=>simp
noncomputable def wq:dG:=fun args Q=>∃(r:Row) (k:Nat) (cd:List (List (List Nat))),args=[r.t,Kv cd]/\r.Ok k/\Cd cd/\Q (.tr (.str (wd (bE cd r)))) []
abbrev k16z(P w K mg base):=ae P w K mg base aX 2 "_law_plain" ["row","codes"] (spT K [false,false] wq)
theorem xm(T:Txt K mg)(F:HasFn K mg "_law_plain" dh ["row","codes"])(h_law_words:ae P w K mg base aX 1 "_law_words" [] (spT K [] t9))(h_law_bits:k2z P w K mg base):k16z P w K mg base:=by
 refine F.gC bC [false,false] rfl (by decide) ?_;left;obtain⟨r,k,cd,rfl,aJ,hC,q⟩:=h;refine⟨_,(Y.ab (Y.set (i:=2) bC.nd rfl (by right) (Y.ix (Y.aB K rfl) Y.af (Y.ix (Y.aB K rfl) Y.af (Y.vS 1) Y.int) (Y.Jh K rfl (Y.IM K rfl h_law_words (hr.mono (by decide)) rfl ay) (Y.ix (Y.aB K rfl) Y.af (Y.vS 0) Y.int))))
   (Y.ab (Y.gg LR rfl (Y.anyS K rfl (Y.eO K rfl (Y.vS 0) (Y.ve Y.int) Y.AU)) (Y.aK (i:=3) bC.nd rfl (by right)) (Y.az (Y.eJ (Y.iK K rfl (Y.ET (C:="str") K rfl rfl T.b7 (Y.vS 3) rfl T.xD (by decide +kernel))) (Y.az (Y.set (i:=2) bC.nd rfl (by right) (Y.op (Y.au K rfl) Y.av (Y.vS 2) (Y.ix (Y.aB K rfl) Y.af (Y.ix (Y.aB K rfl) Y.af (Y.vS 1) Y.int) (Y.sm K rfl PySem.F.slot_str_index PySem.F.type_str_index Y.xv Y.xi Y.str (Y.cons (Y.vS 3) Y.nil)))))) (Y.az (Y.eJ (Y.bg (Y.cc K rfl (LA hu)) Y.dA (Y.ix (Y.aB K rfl) Y.af (Y.vS 0) Y.int) Y.str) (Y.ab (Y.set (i:=4) bC.nd rfl (by right) (Y.bits (Y.vS 3)))
   (Y.az (Y.set (i:=2) bC.nd rfl (by right) (Y.op (Y.au K rfl) Y.av (Y.op (Y.au K rfl) Y.av (Y.vS 2) (Y.ix (Y.aB K rfl) Y.af (Y.ix (Y.aB K rfl) Y.af (Y.vS 1) Y.int) (Y.vS 4))) (Y.eO K rfl (Y.fn K rfl h_law_bits (hr.mono (by decide)) rfl ay (Y.cons (Y.vS 3) (Y.cons (Y.vS 4) Y.nil))) (Y.ve Y.int) Y.AU))))) Y.b6)))))
   (Y.az (Y.ret (Y.vS 2))))),?_⟩
 refine ao fun N hN=>?_;rw[Row.Eu];obtain⟨c0,c1,c2,rfl,l0,l1,l2⟩:=hC.ex;unfold Kv;rfl';refine⟨rfl,?_⟩;rfl';have g0:=hC.at (p:=(0,r.wi)) (.inl ⟨rfl,r.lG⟩);have b0:aY (wT c0) (r.wi:Int)=some (.str (wd (bV [c0,c1,c2] (0,r.wi)))):=aW (by unfold wT;rw[Lr,show c0[r.wi]?=_ from g0.2.1];rfl)
 refine⟨fo,r.wi,rfl,(yn r).1,(yn r).2,?_⟩;exists b0;refine hN _ ?_;clear hN N b0;refine ao fun N hN=>?_;rfl';rw[yK];rw[jx] at q;refine bD (fun rest μ=>∃(ps:List Pk) (x:List Nat) (o3 o4:Option L2.T),rest=ps.map Pk.t/\(∀ p∈ps,p.Ok/\p.of r.wd)/\x.length+60*ps.length<=200/\bV [c0,c1,c2] (0,r.wi)++r.fj.flatMap (lj [c0,c1,c2])=x++ps.flatMap (lj [c0,c1,c2])/\μ=[.tr (.tup (.str r.wd::r.fj.map Pk.t)),.tr (.lst [.lst (wT c0),.lst (wT c1),.lst (wT c2)]),.tr (.str (wd x)),sl o3,sl o4]) ⟨r.fj,_,none,none,rfl,fun p hp=>⟨Row.qH aJ p hp,CN r p hp⟩,?_,rfl,rfl⟩ ?_ ?_
 ·have h1:r.fj.length<=2:=by cases r<;>simp[Row.fj]
  have h2:=g0.2.2;lia
 ·rintro μ ⟨ps,x,o3,o4,e1,_,hx,ea,rfl⟩;have e2:ps=[]:=O7.mp e1.symm;subst e2;rw[Pn,L8] at ea;show N _;ac_rfl;rfl';rw[ea] at q;exact q
 ·rintro t rs μ M ⟨ps,x,o3,o4,e1,hp,hx,ea,rfl⟩ kk;obtain⟨p,ps',rfl,rfl,rfl⟩:=List.map_eq_cons_iff.mp e1.symm;have hp0:=hp p (K_ ..);have hp1:∀ q∈ps',q.Ok/\q.of r.wd:=fun q hq=>hp q (KZ _ hq);rw[Lf] at hx
  cases p with
  |box b =>
   have hb:b<8:=hp0.1;have g2:=hC.at (p:=(2,b)) (.inr (.inr ⟨rfl,hb⟩));have b2:aY (wT c2) (b:Int)=some (.str (wd (bV [c0,c1,c2] (2,b)))):=aW (by unfold wT;rw[Lr,show c2[b]?=_ from g2.2.1];rfl)
   show Y.gN 3 (R.tr (.str (gi b))) _ _;exists (show eB "str" "str"=true from by decide +kernel),MV
   refine⟨b,[],J5 hb,?_⟩;exists b2;rw[aI,aI,fM];refine⟨Lk (show _<=240 by have:=g2.2.2;lia) (by decide),?_⟩
   exact kk _ ⟨ps',x++bV [c0,c1,c2] (2,b),some _,o4,rfl,hp1,by rw[KY];have:=g2.2.2;lia,by rw[ea,Mv,Ls];rfl,rfl⟩
  |num n =>
   have hn:n<65536:=hp0.1;have hb:=h8 hn;have g1:=hC.at (p:=(1,aG n)) (.inr (.inl ⟨rfl,hb⟩));have b1:aY (wT c1) (aG n:Int)=some (.str (wd (bV [c0,c1,c2] (1,aG n)))):=aW (by unfold wT;rw[Lr,show c1[aG n]?=_ from g1.2.1];rfl)
   show Y.gN 3 (R.tr (.int (n:Nat))) _ _;exists (show eB "int" "str"=false from by decide +kernel),Li (show r.wd=Str.ofString "put" from hp0.2)
   refine ao fun M' hM=>?_;rfl';refine hM _ ?_;clear hM M';rw[show ((Builtin.Int.intBits (n:Int):Nat):Int)=(aG n:Int) from rfl];exists b1;have fl:(cD n).length=aG n:=by unfold cD;rw[bO];rfl
   have ft:(cD n).tail.length<=16:=by rw[Oc];lia
   have h3:=g1.2.2;refine⟨by rw[aI,aI];exact Lk (show _<=300 by lia) (by decide),(n:Int),aG n,rfl,by lia,?_⟩
   rw[show aU (n:Int) (aG n) []=cD n from rfl];rfl';rw[zN,aI,fM,aI,aI,fM];refine⟨Lk (show _<=20 by lia) (by decide),Lk (show _<=300 by rw[KY];lia) (by decide),?_⟩
   exact kk _ ⟨ps',x++bV [c0,c1,c2] (1,aG n)++(cD n).tail,some _,some _,rfl,hp1,by rw[KY,KY];lia,by rw[ea,Mv];simp[lj],rfl⟩
  |goal n =>
   show Y.gN 3 (R.tr (.int (n:Nat))) _ _;exists (show eB "int" "str"=false from by decide +kernel),Lc (show r.wd≠Str.ofString "put" from hp0.2)
   exact kk _ ⟨ps',x,some _,o4,rfl,hp1,by lia,by rw[ea,Mv];rfl,rfl⟩
noncomputable def Fe(k:Bool)(ws:List (List Nat)):L2.T:=if k=true then .dq (wT ws) else .tup (wT ws)
structure Rd (ws:List (List Nat)) (z:List Nat) (p t:Nat):Prop where
 lt:t<ws.length
 ne:ws[t]≠[]
 pre:ws[t] <+: z.drop p
 only:∀ i (h:i<t),¬ ws[i] <+: z.drop p
theorem lF(z y:List Nat)(p:Nat)(hy:y≠[]):Y.fL (wd z) (wd y) (p:Int)=decide (y <+: z.drop p):=by
 have hl:0<y.length:=O8.mpr hy;unfold Y.fL;have e0:fromIndex (wd z).length (p:Int)=p:=by unfold fromIndex;rw[Lc (by lia)];lia
 rw[e0];have e:Builtin.Str.subAt (wd z) (wd y) p=decide ((z.drop p).take y.length=y):=by
  unfold Builtin.Str.subAt wd;rw[Ni,PN,Nt,<- Pc,Array.toList_extract,OS];rw[show (⟨y.toArray⟩:Str).length=y.length from Ld ..];simp
 rw[e,Ni,LQ,Nt,Nt,Nt,List.prefix_iff_eq_take,aI,aI];refine⟨fun h=>h.2.symm,fun h=>⟨?_,h.symm⟩⟩;have:=L0 List.length h;rw[L7,LS] at this;lia
noncomputable def wY:dG:=fun args Q=>∃(k:Bool) (ws:List (List Nat)) (z:List Nat) (p t:Nat),args=[Fe k ws,.str (wd z),.int (p:Nat)]/\Rd ws z p t/\ws.length<=100/\z.length<=1000000/\Q (.tr (.int (t:Nat))) []
theorem nG{ws:List (List Nat)}(i:Nat)(h:i<ws.length):(pairs (wT ws)).drop i=.tup [.int (i:Nat),.str (wd ws[i])]::(pairs (wT ws)).drop (i+1):=by
 have hl:i<(pairs (wT ws)).length:=by unfold pairs;simp[m7,h]
 rw[LL hl];congr 1;unfold pairs;simp[wT,h]
abbrev k9z(P w K mg base):=ae P w K mg base aX 1 "thing_at" ["code","bits","place"] (spT K [false,false,false] wY)
theorem vE(T:Txt K mg)(F:HasFn K mg "thing_at" eW ["code","bits","place"]):k9z P w K mg base:=by
 refine F.gC fu [false,false,false] rfl (by decide) ?_;left;obtain⟨k,ws,z,p,t,rfl,hR,h100,hz,q⟩:=h;refine⟨_,(Y.ab (Y.gg LR rfl (Y.GR K rfl rfl T.fB (Y.cons (Y.vS 0) Y.nil)) (Y.yG (n:=2) K rfl rfl (Y.bJ (Y.aK (i:=3) fu.nd rfl (by right)) (Y.bJ (Y.aK (i:=4) fu.nd rfl (by right)) Y.g_))) (Y.az (Y.eJ (Y.tw (Y.Bg (Y.bg (Y.qk K rfl (LA hu)) Y.pB (Y.vS 4) Y.str) (Y.sS (Y.iK K rfl (Y.sm K rfl PySem.F.slot_str_startswith PySem.F.type_str_startswith Y.qj Y.pY (Y.vS 1) (Y.cons (Y.vS 4) (Y.cons (Y.vS 2) Y.nil))))))) (Y.az (Y.ret (Y.vS 3))) Y.b6)))
   (Y.az (Y.ret Y.aC))),?_⟩
 have hc:A7 (Fe k ws)=some (wT ws):=by cases k<;>rfl
 generalize Fe k ws=c at hc;refine ao fun N hN=>?_;exists hc;refine bD (fun rest μ=>∃(n:Nat) (s3 s4:Option L2.T),n<=t/\rest=(pairs (wT ws)).drop n/\μ=[.tr c,.tr (.str (wd z)),.tr (.int (p:Nat)),sl s3,sl s4]) ⟨0,none,none,LH _,rfl,rfl⟩ ?_ ?_
 ·rintro μ ⟨n,s3,s4,hn,e,rfl⟩;have:=hR.lt;rw[nG n (by lia)] at e
  cases e
 ·rintro t' ts μ M ⟨n,s3,s4,hn,e,rfl⟩ k;have:=hR.lt;rw[nG n (by lia)] at e
  obtain⟨rfl,rfl⟩:=List.cons.inj e;have hlt:n<ws.length:=by lia
  rcases Nat.lt_or_eq_of_le hn with h|h
  ·by_cases h0:ws[n]=[]
   ·have he:wd ws[n]=Str.ofString "":=by rw[h0,gG]
    exists Lc (not_not_intro he);exact k _ ⟨n+1,some _,some _,h,rfl,rfl⟩
   ·have hne:¬ wd ws[n]=Str.ofString "":=fun e=>h0 (by rw[gG] at e;exact L0 (fun s:Str=>s.cps.toList) e)
    exists Li hne,lF z ws[n] p h0,Lu (hR.only n h);exact k _ ⟨n+1,some _,some _,h,rfl,rfl⟩
  ·subst h;have hne:¬ wd ws[n]=Str.ofString "":=fun e=>hR.ne (by rw[gG] at e;exact L0 (fun s:Str=>s.cps.toList) e)
   exists Li hne,lF z ws[n] p hR.ne,LG hR.pre;exact q
noncomputable def fG:dG:=fun args Q=>∃(k:Bool) (ws:List (List Nat)) (z:List Nat) (p t:Nat) (h:Rd ws z p t),args=[Fe k ws,.str (wd z),.int (p:Nat)]/\ws.length<=100/\z.length<=1000000/\Q (.tr (.tup [.int (t:Nat),.int ((p+(ws[t]'h.lt).length:Nat):Int)])) []
abbrev k1z(P w K mg base):=ae P w K mg base aX 2 "coded_at" ["code","bits","place"] (spT K [false,false,false] fG)
theorem pX(T:Txt K mg)(F:HasFn K mg "coded_at" eL ["code","bits","place"])(hthing_at:k9z P w K mg base):k1z P w K mg base:=by
 refine F.gC iJ [false,false,false] rfl (by decide) ?_;left;obtain⟨k,ws,z,p,t,hR,rfl,h100,hz,q⟩:=h;refine⟨_,(Y.ab (Y.set (i:=3) iJ.nd rfl (by right) (Y.fn K rfl hthing_at (hr.mono (by decide)) rfl ay (Y.cons (Y.vS 0) (Y.cons (Y.vS 1) (Y.cons (Y.vS 2) Y.nil)))))
   (Y.az (Y.ret (Y.Fw (Y.bg d7 Y.dB (Y.vS 3) Y.aC) Y.aC (Y.tup (Y.cons (Y.vS 3) (Y.cons (Y.op (Y.au K rfl) Y.av (Y.vS 2) (Y.cb (Y.aH K rfl) Y.ba rfl T.cG (by decide +kernel) (Y.cons (Y.ix (Y.aB K rfl) Y.af (Y.vS 0) (Y.vS 3)) Y.nil))) Y.nil))))))),?_⟩
 refine ao fun N hN=>?_;rfl';refine⟨k,ws,z,p,t,rfl,hR,h100,hz,?_⟩;rfl';ac_rfl;have ha:aY (wT ws) (t:Int)=some (.str (wd (ws[t]'hR.lt))):=aW (by unfold wT;rw[Lr,KW hR.lt];rfl)
 have hw:(ws[t]'hR.lt).length<=1000000:=by
  have h1:=hR.pre.length_le;rw[LS] at h1;lia
 have fin:(wd (ws[t]'hR.lt)).length<=sizeLine/\2<=sizeLine/\Qt (.tr (.tup [.int (t:Nat),.int ((p:Int)+((wd (ws[t]'hR.lt)).length:Nat))])) []:=by
  rw[aI];exact⟨Lk hw (by decide),by decide,q⟩
 cases k with
 |true =>
  unfold Fe;exists MV,ha;exact fin
 |false =>
  unfold Fe;exists ha;exact fin
theorem i9:∀(k:Nat) (n:Int) (acc:List Nat),aU n k acc=aU n k []++acc
 |0,_,_=>rfl
 |k+1,n,acc=>by
  rw[aU,aU,i9 k (n / 2) (dg n::acc),i9 k (n / 2) [dg n],Ls];rfl
theorem qD(k:Nat)(n:Int):aU n (k+1) []=aU (n / 2) k []++[dg n]:=by rw[aU,i9]
theorem yX(w:List Nat)(c:Nat):Cw.val (w++[c])=2*Cw.val w+(c-48):=by
 rw[Cw.fV];simp[Cw.val];lia
theorem i6:∀(k:Nat) (n:Int),(Cw.val (aU n k []):Int)=n % 2^k
 |0,n=>by simp[aU,Cw.val,Int.emod_one]
 |k+1,n=>by
  rw[qD,yX];have ih:=i6 k (n / 2);have hd:((dg n-48:Nat):Int)=n % 2:=by unfold dg;have:=MA n (show (2:Int)≠0 by decide);lia
  have e:(2:Int)*((n / 2) % 2^k)+n % 2=n % 2^(k+1):=by
   have h1:=Ol n 2;have h2:=Ol (n / 2) (2^k);have hp:(0:Int)<2^k:=Int.pow_pos (by decide)
   have h3:=MA (n / 2) (Int.ne_of_gt hp);have h4:=Mz (n / 2) hp;have h5:=MA n (show (2:Int)≠0 by decide)
   have h6:=Mz n (show (0:Int)<2 by decide)
   rw[Pm];have key:n=(2*((n / 2) % 2^k)+n % 2)+(2^k*2)*((n / 2) / 2^k):=by
    rw[PZ,Int.mul_left_comm];generalize 2^k*(n / 2 / 2^k)=y at h2 ⊢;lia
   generalize hr:2*((n / 2) % 2^k)+n % 2=r at key ⊢;generalize (n / 2) / 2^k=y at key;rw[key,Int.add_mul_emod_self_left,NV (by lia) (by lia)]
  push_cast
  rw[ih,hd,e]
theorem nS:∀(cs:List Nat) (a:Nat),cs.foldl (fun a c=>a*2+(c-48)) a=a*2^cs.length+Cw.val cs
 |[],a=>by simp[Cw.val]
 |c::cs,a=>by
  rw[Ot,nS cs,Cw.val,Lf,O0,Nat.add_mul];rw[OO,Nat.mul_comm 2 (2^cs.length),MM]
theorem rV(cs:List Nat):ka cs=Cw.val cs:=by
 unfold ka;rw[nS,Nat.zero_mul,M9]
theorem xp:∀{cs:List Nat},(∀ c∈cs,c=48\/c=49)->Cw.val cs<2^cs.length
 |[],_=>by decide
 |c::cs,h=>by
  have ih:=xp (cs:=cs) fun x hx=>h x (KZ _ hx);rw[Cw.val,Lf,O0];rcases h c K_ with rfl|rfl<;>simp<;>lia
theorem nF(n:Nat):∀ c∈cD n,c=48\/c=49:=gv _ _ _ fun c hc=>by cases hc
theorem r9(n:Nat):(cD n).length=aG n:=by unfold cD;rw[bO];rfl
theorem j1(h:0<n):2^(aG n-1)<=n/\n<2^aG n/\0<aG n:=by
 have e:aG n=n.log2+1:=by
  unfold aG Builtin.Int.intBits;rw[Lc (by simp;lia)]
  rfl
 rw[e];exact⟨Nat.log2_self_le (by lia),Nat.lt_log2_self,Nat.succ_pos _⟩
theorem sf(h:0<n):Cw.val (cD n)=n:=by
 have h1:=i6 (aG n) (n:Int);have h2:=(j1 h).2.1;have e:(n:Int) % 2^aG n=n:=NV (by lia) (by exact_mod_cast h2)
 rw[e] at h1;unfold cD
 exact_mod_cast h1
theorem oq(h:0<n):cD n=49::(cD n).tail:=by
 obtain⟨b1,b2,b3⟩:=j1 h;have hl:=r9 n;have hv:=sf h;have hb:=nF n
 cases e:cD n with
 |nil=>rw[e] at hl;simp at hl;lia
 |cons c r =>
  rw[e] at hl hv hb;rcases hb c K_ with rfl|rfl
  ·exfalso
   have:=xp (cs:=r) fun x hx=>hb x (KZ _ hx);rw[Lf] at hl;rw[<- hl,Nat.add_sub_cancel] at b1;simp[Cw.val] at hv;lia
  ·rfl
theorem Aw(h:0<n):ka (49::(cD n).tail)=n:=by rw[<- oq h,rV,sf h]
theorem uZ(h:aG n=0):n=0:=by
 rcases Nat.eq_zero_or_pos n with e|e
 ·exact e
 ·have:=(j1 e).2.2;lia
theorem rW(z:List Nat)(a b:Nat)(h1:a<=b)(h2:b<=z.length):Y.fC (wd z) (some (a:Int)) (some (b:Int))=wd ((z.drop a).take (b-a)):=by
 unfold Y.fC wd;congr 2;show Y.bT z (some (a:Int)) (some (b:Int))=_;unfold Y.bT;rw[HT.gP,HT.gP,Nat.min_eq_left h2,Nat.min_eq_left (Lk h1 h2)]
noncomputable def vC:dG:=fun args Q=>∃(ws:List (List Nat)) (z:List Nat) (p n:Nat) (h:Rd ws z p (aG n)),args=[Fe false ws,.str (wd z),.int (p:Nat)]/\n<65536/\ws.length<=100/\z.length<=1000000/\(ws[aG n]'h.lt)++(cD n).tail <+: z.drop p/\Q (.tr (.tup [.int (n:Nat),.int ((p+(ws[aG n]'h.lt).length+(cD n).tail.length:Nat):Int)])) []
abbrev k8z(P w K mg base):=ae P w K mg base aX 3 "number_at" ["code","bits","place"] (spT K [false,false,false] vC)
theorem vK(T:Txt K mg)(F:HasFn K mg "number_at" dS ["code","bits","place"])(hcoded_at:k1z P w K mg base):k8z P w K mg base:=by
 refine F.gC eZ [false,false,false] rfl (by decide) ?_;left;obtain⟨ws,z,p,n,hR,rfl,hn,h100,hz,hp,q⟩:=h;refine⟨_,(Y.ab (Y.set (i:=3) eZ.nd rfl (by right) (Y.fn K rfl hcoded_at (hr.mono (by decide)) rfl ay (Y.cons (Y.vS 0) (Y.cons (Y.vS 1) (Y.cons (Y.vS 2) Y.nil)))))
   (Y.ab (Y.eJ (Y.tw (Y.HM (Y.bg d7 Y.dB (Y.vS 3) Y.aC) (Y.yV (Y.bg (Y.cc K rfl (LA hu)) Y.dA (Y.ix (Y.aB K rfl) Y.af (Y.vS 3) Y.int) Y.int)))) (Y.az (Y.ret (Y.vS 3))) Y.b6)
   (Y.ab (Y.set (i:=4) eZ.nd rfl (by right) (Y.op dW Y.cN (Y.op (Y.au K rfl) Y.av (Y.ix (Y.aB K rfl) Y.af (Y.vS 3) Y.int) (Y.ix (Y.aB K rfl) Y.af (Y.vS 3) Y.int)) Y.int))
   (Y.ab (Y.eJ (Y.bg Cy Y.fH (Y.vS 4) (Y.cb (Y.aH K rfl) Y.ba rfl T.cG (by decide +kernel) (Y.cons (Y.vS 1) Y.nil))) (Y.az (Y.ret Y.aC)) Y.b6)
   (Y.az (Y.ret (Y.tup (Y.cons (Y.ct kH Y.rH rfl T.qZ (by decide +kernel) (Y.cons (Y.op (Y.au K rfl) Y.av Y.str (Y.eO K rfl (Y.vS 1) (Y.ve (Y.ix (Y.aB K rfl) Y.af (Y.vS 3) Y.int)) (Y.ve (Y.vS 4)))) (Y.cons Y.int Y.nil))) (Y.cons (Y.vS 4) Y.nil))))))))),?_⟩
 refine ao fun N hN=>?_;rfl';refine⟨false,ws,z,p,aG n,hR,rfl,h100,hz,?_⟩;generalize hw:ws[aG n]'hR.lt=w at *;rfl';symm;by_cases c:aG n=0
 ·have e0:=uZ c;subst e0;exists (show ((aG 0:Nat):Int)=0 from by rw[c];rfl),MV
  exact q
 ·have ci:¬ ((aG n:Nat):Int)=0:=by lia
  exists Lc ci;ac_rfl;have hn0:0<n:=by
   rcases Nat.eq_zero_or_pos n with e|e
   ·subst e;exact absurd (by decide +kernel) c
   ·exact e
  have hfl:=r9 n;have htl:(cD n).tail.length=aG n-1:=by rw[Oc,hfl]
  have eb:((p+w.length:Nat):Int)+((aG n:Nat):Int)-1=((p+w.length+(aG n-1):Nat):Int):=by lia
  have hle:p+w.length+(aG n-1)<=z.length:=by
   have:=hp.length_le;have hw0:0<w.length:=by rw[<- hw];exact O8.mpr hR.ne
   rw[KY,LS,htl] at this;lia
  have em:(z.drop (p+w.length)).take (p+w.length+(aG n-1)-(p+w.length))=(cD n).tail:=by
   obtain⟨r,e⟩:=hp;rw[<- NP,<- e,Ls,Ny,Pq,<- htl,OC]
  refine ao fun N hN=>?_;exists eb;symm;rfl';rw[aI,Lc (by lia)]
  refine⟨Lk hz (by decide),hN _ ?_⟩;clear hN N
  rfl';rw[rW z _ _ (by lia) hle,em,aI,aI,show Str.ofString "1"=wd [49] from by decide +kernel,aI,fM]
  have hcp:(wd ([49]++(cD n).tail)).cps.toList=49::(cD n).tail:=rfl;have h17:=h8 hn;rw[hcp,Aw hn0,htl];rw[htl] at q;refine⟨Lk hz (by decide),Lk (show _<=20 by simp;lia) (by decide),by rw[aI,KY,htl];simp;lia,fun c hc=>?_,by simp,by decide,q⟩
  rw[<- oq hn0] at hc;exact nF n c hc
noncomputable def cy(k:Nat):Int:=if k=0 then 8 else if k=1 then 128 else 32768
noncomputable def qK:List (List Nat):=[aV 0,aV 1,aV 2]
theorem FE:[L2.T.str (Str.ofString "0"),.str (Str.ofString "10"),.str (Str.ofString "11")]=wT qK:=by
 rw[show Str.ofString "0"=wd [48] from by decide +kernel,show Str.ofString "10"=wd [49,48] from by decide +kernel,show Str.ofString "11"=wd [49,49] from by decide +kernel]
 rfl
theorem rQ(h:k<3):k=0\/k=1\/k=2:=by lia
theorem Dm{p:Nat}{d:Int}(hk:k<3)(h:cu k d <+: z.drop p):Rd qK z p k:=by
 obtain⟨r,e⟩:=h;rcases rQ hk with rfl|rfl|rfl
 ·exact⟨hk,by simp[qK,aV],by rw[<- e];exact⟨_,(Ls ..).symm⟩,fun i hi=>by lia⟩
 ·refine⟨hk,by simp[qK,aV],by rw[<- e];exact⟨_,(Ls ..).symm⟩,fun i hi=>?_⟩
  obtain rfl:i=0:=by lia
  rw[<- e];simp[qK,aV,cu]
 ·refine⟨hk,by simp[qK,aV],by rw[<- e];exact⟨_,(Ls ..).symm⟩,fun i hi=>?_⟩
  have:i=0\/i=1:=by lia
  rw[<- e];rcases this with rfl|rfl<;>simp[qK,aV,cu]
noncomputable def qX:dG:=fun args Q=>∃(z:List Nat) (p k:Nat) (d:Int),args=[.str (wd z),.int (p:Nat)]/\k<3/\-cy k<=d/\d<cy k/\z.length<=1000000/\cu k d <+: z.drop p/\Q (.tr (.tup [.int (((p+(cu k d).length:Nat):Int)+d),.int ((p+(cu k d).length:Nat):Int)])) []
abbrev k19z(P w K mg base):=ae P w K mg base aX 3 "goal_at" ["bits","place"] (spT K [false,false] qX)
theorem uJ(T:Txt K mg)(F:HasFn K mg "goal_at" fS ["bits","place"])(hcoded_at:k1z P w K mg base):k19z P w K mg base:=by
 refine F.gC cI [false,false] rfl (by decide) ?_;left;obtain⟨z,p,k,d,rfl,hk,hd1,hd2,hz,hp,q⟩:=h;refine⟨_,(Y.ab (Y.set (i:=2) cI.nd rfl (by right) (Y.fn K rfl hcoded_at (hr.mono (by decide)) rfl ay (Y.cons (Y.iD rfl T.AG) (Y.cons (Y.vS 0) (Y.cons (Y.vS 1) Y.nil)))))
   (Y.ab (Y.eJ (Y.bg d7 Y.dB (Y.vS 2) Y.aC) (Y.az (Y.ret Y.aC)) Y.b6)
   (Y.ab (Y.set (i:=3) cI.nd rfl (by right) (Y.ix (Y.aB K rfl) Y.af (Y.vS 2) Y.int))
   (Y.ab (Y.set (i:=4) cI.nd rfl (by right) (Y.op (Y.au K rfl) Y.av (Y.ix (Y.aB K rfl) Y.af (Y.vS 2) Y.int) (Y.ix (Y.aB K rfl) Y.af (Y.iD rfl T.ze) (Y.vS 3))))
   (Y.ab (Y.eJ (Y.bg Cy Y.fH (Y.vS 4) (Y.cb (Y.aH K rfl) Y.ba rfl T.cG (by decide +kernel) (Y.cons (Y.vS 0) Y.nil))) (Y.az (Y.ret Y.aC)) Y.b6)
   (Y.ab (Y.set (i:=5) cI.nd rfl (by right) (Y.ct kH Y.rH rfl T.qZ (by decide +kernel) (Y.cons (Y.eO K rfl (Y.vS 0) (Y.ve (Y.ix (Y.aB K rfl) Y.af (Y.vS 2) Y.int)) (Y.ve (Y.vS 4))) (Y.cons Y.int Y.nil))))
   (Y.ab (Y.eJ (Y.bg CH Y.fH (Y.vS 5) (Y.ix (Y.aB K rfl) Y.af (Y.iD rfl T.ou) (Y.vS 3))) (Y.az (Y.set (i:=5) cI.nd rfl (by right) (Y.op dW Y.cN (Y.vS 5) (Y.op (Y.bY K rfl) Y.bF Y.int (Y.ix (Y.aB K rfl) Y.af (Y.iD rfl T.ou) (Y.vS 3)))))) Y.b6)
   (Y.az (Y.ret (Y.tup (Y.cons (Y.op (Y.au K rfl) Y.av (Y.vS 4) (Y.vS 5)) (Y.cons (Y.vS 4) Y.nil)))))))))))),?_⟩
 refine ao fun N hN=>?_;rfl';rw[FE];have hR:=Dm hk hp;have eh:qK[k]'hR.lt=aV k:=by rcases rQ hk with rfl|rfl|rfl<;>rfl
 refine⟨true,qK,z,p,k,hR,rfl,by decide,hz,?_⟩
 rw[eh];rfl';symm;rfl';symm;rfl';ac_rfl;have aw:aY [L2.T.int 4,.int 8,.int 16] (k:Int)=some (.int (a_ k:Nat)):=by rcases rQ hk with rfl|rfl|rfl<;>rfl
 have ah:aY [L2.T.int 8,.int 128,.int 32768] (k:Int)=some (.int (cy k)):=by rcases rQ hk with rfl|rfl|rfl<;>rfl
 have hjl:(cu k d).length=(aV k).length+a_ k:=by unfold cu;rw[KY,bO];simp
 have hle:p+(aV k).length+a_ k<=z.length:=by
  have h1:=hp.length_le;have h2:0<(aV k).length:=by rcases rQ hk with rfl|rfl|rfl<;>decide
  rw[LS,hjl] at h1;lia
 have em:(z.drop (p+(aV k).length)).take (p+(aV k).length+a_ k-(p+(aV k).length))=aU d (a_ k) []:=by
  obtain⟨r,e⟩:=hp;unfold cu at e;have hl2:(aU d (a_ k) []).length=a_ k:=by rw[bO];rfl
  rw[<- NP,<- e,Ls,Ny,Pq]
  conv=>lhs;arg 1;rw[<- hl2]
  rw[OC]
 refine ao fun N hN=>?_;exists aw;ac_rfl;rw[show ((p+(aV k).length:Nat):Int)+(a_ k:Nat)=((p+(aV k).length+a_ k:Nat):Int) by lia]
 refine ao fun N hN=>?_;rfl';rw[aI,Lc (by lia)]
 refine⟨Lk hz (by decide),hN _ ?_⟩;clear hN N
 refine ao fun N hN=>?_;rfl';rw[rW z _ _ (by lia) hle,em,aI]
 have hcp:(wd (aU d (a_ k) [])).cps.toList=aU d (a_ k) []:=rfl;rw[hcp,rV,i6];have hl2:(aU d (a_ k) []).length=a_ k:=by rw[bO];rfl
 have h16:a_ k<=16/\0<a_ k:=by rcases rQ hk with rfl|rfl|rfl<;>decide
 have h2h:(2:Int)^a_ k=2*cy k:=by rcases rQ hk with rfl|rfl|rfl<;>decide
 refine⟨Lk hz (by decide),by rw[aI,hl2];lia,gv _ _ _ fun c hc=>(nomatch hc),fun e=>by rw[e] at hl2;simp at hl2;lia,hN _ ?_⟩;clear hN N
 rw[hjl,<- MM] at q;rw[h2h];have fin:Qt (.tr (.tup [.int (((p+(aV k).length+a_ k:Nat):Int)+d),.int ((p+(aV k).length+a_ k:Nat):Int)])) []:=q;refine ao fun N hN=>?_;by_cases c:0<=d
 ·have e:d % (2*cy k)=d:=NV c (by lia)
  rw[e];exists ah,Lc (show ¬ cy k<=d by lia)
  ac_rfl;rfl';exact⟨by decide,fin⟩
 ·have e:d % (2*cy k)=d+2*cy k:=by
   rw[<- Int.add_emod_right];exact NV (by lia) (by lia)
  rw[e];exists ah,Li (show cy k<=d+2*cy k by lia)
  rw[Int.add_sub_cancel];refine⟨.inl (by decide),hN _ ?_⟩;clear hN N
  rfl';exact⟨by decide,fin⟩
structure Pf (ws:List (List Nat)):Prop where
 ne:∀ w∈ws,w≠[]
 pre:∀(i j:Nat) (hi:i<ws.length) (hj:j<ws.length),i≠j->¬ ws[i] <+: ws[j]
theorem Pf.rd{ws:List (List Nat)}{p t:Nat}(h:Pf ws)(ht:t<ws.length)(hp:ws[t] <+: z.drop p):Rd ws z p t:=
 ⟨ht,h.ne _ (L1 ht),hp,fun i hi hpi=>by
  rcases List.prefix_or_prefix_of_prefix hpi hp with g|g
  ·exact h.pre i t (by lia) ht (by lia) g
  ·exact h.pre t i ht (by lia) (by lia) g⟩
inductive Pr where
 |box (b:Nat)|num (n:Nat)|goal (k:Nat) (d:Int)
noncomputable def Pr.kd:Pr->Str
 |.box _=>Str.ofString "box"
 |.num _=>Str.ofString "number"
 |.goal _ _=>Str.ofString "goal"
noncomputable def Pr.bits(cd:List (List (List Nat))):Pr->List Nat
 |.box b=>bV cd (2,b)
 |.num n=>bV cd (1,aG n)++(cD n).tail
 |.goal k d=>cu k d
noncomputable def Pr.t(behind:Nat):Pr->L2.T
 |.box b=>.str (gi b)
 |.num n=>.int (n:Nat)
 |.goal _ d=>.int ((behind:Int)+d)
noncomputable def Pr.Ok:Pr->Prop
 |.box b=>b<8
 |.num n=>n<65536
 |.goal k d=>k<3/\-cy k<=d/\d<cy k
noncomputable def IA(cd:List (List (List Nat))):L2.T:=.lst (cd.map fun ws=>.tup (wT ws))
noncomputable def tL:dG:=fun args Q=>∃(cd:List (List (List Nat))) (z:List Nat) (p:Nat) (x:Pr),args=[.str x.kd,IA cd,.str (wd z),.int (p:Nat)]/\Cd cd/\(∀ ws∈cd,Pf ws)/\x.Ok/\z.length<=1000000/\x.bits cd <+: z.drop p/\Q (.tr (.tup [x.t (p+(x.bits cd).length),.int ((p+(x.bits cd).length:Nat):Int)])) []
theorem Hw{b:Nat}(h:b<8):aY [L2.T.str (Str.ofString "a"),.str (Str.ofString "b"),.str (Str.ofString "c"),.str (Str.ofString "d"),.str (Str.ofString "e"),.str (Str.ofString "f"),.str (Str.ofString "g"),.str (Str.ofString "h")] (b:Int)=some (.str (gi b)):=by
 have e:∀ b,b<8->Fl[b]?=some (gi b):=fun b h=>(Ey h).1;show aY (Fl.map L2.T.str) (b:Int)=_;exact aW (by rw[Lr,e b h];rfl)
abbrev k4z(P w K mg base):=ae P w K mg base aX 4 "part_at" ["kind","codes","bits","place"] (spT K [false,false,false,false] tL)
theorem ud(T:Txt K mg)(F:HasFn K mg "part_at" fU ["kind","codes","bits","place"])(hcoded_at:k1z P w K mg base)(hnumber_at:k8z P w K mg base)(hgoal_at:k19z P w K mg base):k4z P w K mg base:=by
 refine F.gC jw [false,false,false,false] rfl (by decide) ?_;left;obtain⟨cd,z,p,x,rfl,hC,hP,hx,hz,hp,q⟩:=h;refine⟨_,(Y.ab (Y.eJ (Y.bg (Y.cc K rfl (LA hu)) Y.dA (Y.vS 0) Y.str) (Y.az (Y.ret (Y.fn K rfl hnumber_at (hr.mono (by decide)) rfl ay (Y.cons (Y.ix (Y.aB K rfl) Y.af (Y.vS 1) (Y.iD rfl T.lT)) (Y.cons (Y.vS 2) (Y.cons (Y.vS 3) Y.nil)))))) Y.b6)
   (Y.ab (Y.eJ (Y.bg (Y.cc K rfl (LA hu)) Y.dA (Y.vS 0) Y.str) (Y.az (Y.ret (Y.fn K rfl hgoal_at (hr.mono (by decide)) rfl ay (Y.cons (Y.vS 2) (Y.cons (Y.vS 3) Y.nil))))) Y.b6)
   (Y.ab (Y.set (i:=4) jw.nd rfl (by right) (Y.fn K rfl hcoded_at (hr.mono (by decide)) rfl ay (Y.cons (Y.ix (Y.aB K rfl) Y.af (Y.vS 1) (Y.iD rfl T.qw)) (Y.cons (Y.vS 2) (Y.cons (Y.vS 3) Y.nil)))))
   (Y.az (Y.ret (Y.Fw (Y.bg d7 Y.dB (Y.vS 4) Y.aC) Y.aC (Y.tup (Y.cons (Y.ix (Y.aB K rfl) Y.af (Y.iD rfl T.Aq) (Y.ix (Y.aB K rfl) Y.af (Y.vS 4) Y.int)) (Y.cons (Y.ix (Y.aB K rfl) Y.af (Y.vS 4) Y.int) Y.nil))))))))),?_⟩
 obtain⟨c0,c1,c2,rfl,l0,l1,l2⟩:=hC.ex;unfold IA;refine ao fun N hN=>?_
 cases x with
 |box b =>
  have n1:¬ (Pr.box b).kd=Str.ofString "number":=(by decide +kernel:¬ Str.ofString "box"=Str.ofString "number")
  have n2:¬ (Pr.box b).kd=Str.ofString "goal":=(by decide +kernel:¬ Str.ofString "box"=Str.ofString "goal")
  exists Lc n1;symm;exists Lc n2;symm;rfl';have hb:b<8:=hx;have g2:=hC.at (p:=(2,b)) (.inr (.inr ⟨rfl,hb⟩));have ht:b<c2.length:=by lia
  have ew:c2[b]'ht=bV [c0,c1,c2] (2,b):=Option.some.inj ((KW ht).symm.trans g2.2.1);have hp':c2[b]'ht <+: z.drop p:=by rw[ew];exact hp
  refine⟨false,c2,z,p,b,(hP c2 (by simp)).rd ht hp',rfl,by lia,hz,?_⟩
  rw[ew];rfl';ac_rfl;exists Hw hb;exact⟨by decide,q⟩
 |num n =>
  exists Li (show (Pr.num n).kd=Str.ofString "number" from rfl);have hn:n<65536:=hx;have hb:=h8 hn;have g1:=hC.at (p:=(1,aG n)) (.inr (.inl ⟨rfl,hb⟩));have ht:aG n<c1.length:=by lia
  have ew:c1[aG n]'ht=bV [c0,c1,c2] (1,aG n):=Option.some.inj ((KW ht).symm.trans g1.2.1);have hp1:c1[aG n]'ht++(cD n).tail <+: z.drop p:=by rw[ew];exact hp
  refine⟨c1,z,p,n,(hP c1 (by simp)).rd ht ((Mi _ _).trans hp1),rfl,hn,by lia,hz,hp1,?_⟩
  rw[ew];have e:p+((Pr.num n).bits [c0,c1,c2]).length=p+(bV [c0,c1,c2] (1,aG n)).length+(cD n).tail.length:=by
   show p+(bV [c0,c1,c2] (1,aG n)++(cD n).tail).length=_;rw[KY,MM]
  rw[e] at q;exact q
 |goal k d =>
  have n1:¬ (Pr.goal k d).kd=Str.ofString "number":=(by decide +kernel:¬ Str.ofString "goal"=Str.ofString "number")
  exists Lc n1;symm;exists Li (show (Pr.goal k d).kd=Str.ofString "goal" from rfl);exact⟨z,p,k,d,rfl,hx.1,hx.2.1,hx.2.2,hz,hp,q⟩
noncomputable def uH(cd:List (List (List Nat)))(ps:List Pr):List Nat:=ps.flatMap (Pr.bits cd)
noncomputable def Fm(cd:List (List (List Nat))):Nat->List Pr->List L2.T
 |_,[]=>[]
 |a,x::xs=>x.t (a+(x.bits cd).length)::Fm cd (a+(x.bits cd).length) xs
noncomputable def Row.bt(r:Row)(k:Nat)(d:Int):List Pr:=r.fj.map fun
 |.box b=>.box b
 |.num n=>.num n
 |.goal _=>.goal k d
theorem Eo(r:Row)(k:Nat)(d:Int):(r.bt k d).map Pr.kd=r.fj.map Pk.kd:=by
 cases r<;>rfl
noncomputable def b8(cd:List (List (List Nat)))(r:Row)(k:Nat)(d:Int):List Nat:=bV cd (0,r.wi)++uH cd (r.bt k d)
noncomputable def vR:dG:=fun args Q=>∃(cd:List (List (List Nat))) (z:List Nat) (p:Nat) (r:Row) (k:Nat) (d:Int),args=[IA cd,.str (wd z),.int (p:Nat)]/\Cd cd/\(∀ ws∈cd,Pf ws)/\(∀ x∈r.bt k d,x.Ok)/\z.length<=1000000/\b8 cd r k d <+: z.drop p/\Q (.tr (.tup [.tup (.str r.wd::Fm cd (p+(bV cd (0,r.wi)).length) (r.bt k d)),.int ((p+(b8 cd r k d).length:Nat):Int)])) []
abbrev k10z(P w K mg base):=ae P w K mg base aX 5 "row_at" ["codes","bits","place"] (spT K [false,false,false] vR)
theorem xj(T:Txt K mg)(F:HasFn K mg "row_at" hV ["codes","bits","place"])(hcoded_at:k1z P w K mg base)(hpart_at:k4z P w K mg base):k10z P w K mg base:=by
 refine F.gC cx [false,false,false] rfl (by decide) ?_;left;obtain⟨cd,z,p,r,k,d,rfl,hC,hP,hx,hz,hp,q⟩:=h;refine⟨_,(Y.ab (Y.eJ (Y.bg kC Y.fH (Y.vS 2) Y.int) (Y.az (Y.ret Y.aC)) Y.b6)
   (Y.ab (Y.set (i:=3) cx.nd rfl (by right) (Y.fn K rfl hcoded_at (hr.mono (by decide)) rfl ay (Y.cons (Y.ix (Y.aB K rfl) Y.af (Y.vS 0) (Y.iD rfl T.qf)) (Y.cons (Y.vS 1) (Y.cons (Y.vS 2) Y.nil)))))
   (Y.ab (Y.eJ (Y.bg d7 Y.dB (Y.vS 3) Y.aC) (Y.az (Y.ret Y.aC)) Y.b6)
   (Y.ab (Y.set (i:=4) cx.nd rfl (by right) (Y.K5 K rfl rfl rfl T.je rfl T.wL (Y.ix (Y.aB K rfl) Y.af (Y.vS 3) Y.int)))
   (Y.ab (Y.set (i:=5) cx.nd rfl (by right) (Y.lst (Y.cons (Y.vS 4) Y.nil)))
   (Y.ab (Y.set (i:=6) cx.nd rfl (by right) (Y.ix (Y.aB K rfl) Y.af (Y.vS 3) Y.int))
   (Y.ab (Y.gg LR rfl (Y.anyS K rfl (Y.Kw K rfl rfl T.je (Y.vS 4))) (Y.aK (i:=7) cx.nd rfl (by right)) (Y.ab (Y.set (i:=8) cx.nd rfl (by right) (Y.fn K rfl hpart_at (hr.mono (by decide)) rfl ay (Y.cons (Y.vS 7) (Y.cons (Y.vS 0) (Y.cons (Y.vS 1) (Y.cons (Y.vS 6) Y.nil))))))
   (Y.ab (Y.eJ (Y.bg d7 Y.dB (Y.vS 8) Y.aC) (Y.az (Y.ret Y.aC)) Y.b6)
   (Y.ab (Y.expr (Y.bm K rfl PySem.F.slot_list_append PySem.F.type_list_append e9 Y.fW (Y.vS 5) (Y.cons (Y.ix (Y.aB K rfl) Y.af (Y.vS 8) Y.int) Y.nil)))
   (Y.az (Y.set (i:=6) cx.nd rfl (by right) (Y.ix (Y.aB K rfl) Y.af (Y.vS 8) Y.int)))))))
   (Y.az (Y.ret (Y.tup (Y.cons (Y.ct (Y.cJ K rfl) Y.dz rfl T.cZ (by decide +kernel) (Y.cons (Y.vS 5) Y.nil)) (Y.cons (Y.vS 6) Y.nil)))))))))))),?_⟩
 refine ao fun N hN=>?_;exists Lc (show ¬ (p:Int)<0 by lia)
 ac_rfl;have e0:∃ c0 c1 c2,cd=[c0,c1,c2]:=by obtain⟨c0,c1,c2,e,_⟩:=hC.ex;exact⟨c0,c1,c2,e⟩
 refine ao fun N hN=>?_;have g0:=hC.at (p:=(0,r.wi)) (.inl ⟨rfl,r.lG⟩);obtain⟨c0,c1,c2,rfl,l0,l1,l2⟩:=hC.ex;have ht:r.wi<c0.length:=by have:=r.lG;lia
 have ew:c0[r.wi]'ht=bV [c0,c1,c2] (0,r.wi):=Option.some.inj ((KW ht).symm.trans g0.2.1);have hp':c0[r.wi]'ht <+: z.drop p:=by rw[ew];exact (Mi _ _).trans hp
 unfold IA;rfl';refine⟨false,c0,z,p,r.wi,(hP c0 (by simp)).rd ht hp',rfl,by lia,hz,?_⟩
 rw[ew];rfl';symm;rfl';symm;have ak:aY ([Str.ofString "put",Str.ofString "add",Str.ofString "sub",Str.ofString "copy",Str.ofString "tell",Str.ofString "hear",Str.ofString "jump",Str.ofString "zero",Str.ofString "halt"]:List Str) (r.wi:Int)=some r.wd:=aW (yn r).1;exists ak;symm;rfl';refine⟨by decide,hN _ ?_⟩;clear hN N
 refine ao fun N hN=>?_;rfl';symm;have e1:=kF r;unfold df at e1;exists e1;rw[<- Eo r k d];have hlen:(r.bt k d).length<=2:=by cases r<;>simp[Row.bt,Row.fj]
 have hpp:uH [c0,c1,c2] (r.bt k d) <+: z.drop (p+(bV [c0,c1,c2] (0,r.wi)).length):=by
  obtain⟨y,e⟩:=hp;unfold b8 at e;rw[<- NP,<- e,Ls,Ny];exact Mi _ _
 have hend:p+(bV [c0,c1,c2] (0,r.wi)).length+(uH [c0,c1,c2] (r.bt k d)).length=p+(b8 [c0,c1,c2] r k d).length:=by
  unfold b8;rw[KY,MM]
 generalize hS3:Sl.tr (L2.T.tup [L2.T.int ↑r.wi,L2.T.int ↑(p+(bV [c0,c1,c2] (0,r.wi)).length)])=S3;clear hS3 hp hp';generalize hps:r.bt k d=ps at *;generalize hp0:p+(bV [c0,c1,c2] (0,r.wi)).length=p0 at *;refine bD (fun rest μ=>∃(xs:List Pr) (acc:List L2.T) (a:Nat) (o7 o8:Option L2.T),(rest=(xs.map Pr.kd).map L2.T.str)/\(∀ x∈xs,x.Ok)/\uH [c0,c1,c2] xs <+: z.drop a/\acc++Fm [c0,c1,c2] a xs=.str r.wd::Fm [c0,c1,c2] p0 ps/\a+(uH [c0,c1,c2] xs).length=p+(b8 [c0,c1,c2] r k d).length/\acc.length+xs.length<=3/\μ=[.tr (.lst [.tup (wT c0),.tup (wT c1),.tup (wT c2)]),.tr (.str (wd z)),.tr (.int (p:Nat)),S3,.tr (.str r.wd),.bx (.lst acc),.tr (.int (a:Nat)),sl o7,sl o8]) ⟨ps,_,p0,none,none,rfl,hx,hpp,rfl,hend,by simp;lia,rfl⟩ ?_ ?_
 ·rintro μ ⟨xs,acc,a,o7,o8,e,_,_,ea,hea,_,rfl⟩;have e2:xs=[]:=by
   cases xs with
   |nil=>rfl
   |cons=>cases e
  subst e2;show N _;ac_rfl;rfl';rw[show Fm [c0,c1,c2] a []=[] from rfl,L8] at ea;rw[show uH [c0,c1,c2] []=[] from rfl,LC,NJ] at hea;rw[ea,hea];exact⟨by decide,q⟩
 ·rintro t ts μ M ⟨xs,acc,a,o7,o8,e,aJ,hpre,ea,hea,hlen2,rfl⟩ kk
  cases xs with
  |nil=>cases e
  |cons x xs =>
   obtain⟨rfl,rfl⟩:=List.cons.inj e;rw[Lf] at hlen2;rfl';refine ao fun M' hM=>?_;rfl';have hb:uH [c0,c1,c2] (x::xs)=x.bits [c0,c1,c2]++uH [c0,c1,c2] xs:=Mv;rw[hb] at hpre hea;refine⟨[c0,c1,c2],z,a,x,rfl,hC,hP,aJ x K_,hz,(Mi _ _).trans hpre,?_⟩;rfl';refine hM _ ?_;clear hM M';refine ao fun M' hM=>?_;rfl';refine hM _ ?_;clear hM M';refine ao fun M' hM=>?_;rfl';refine⟨Lv (show acc.length<4 by lia) (by decide),hM _ ?_⟩;clear hM M'
   rfl';refine kk _ ⟨xs,acc++[x.t (a+(x.bits [c0,c1,c2]).length)],a+(x.bits [c0,c1,c2]).length,some _,some _,rfl,fun y hy=>aJ y (KZ _ hy),?_,?_,?_,by rw[KY,LD];lia,rfl⟩
   ·obtain⟨y,e⟩:=hpre;rw[<- NP,<- e,Ls,Ny];exact Mi _ _
   ·rw[<- ea,Ls];rfl
   ·rw[KY] at hea;lia
theorem yp(hL:jj ls)(ho:mP ls=true):Pf (wordsOf Cw.fm ls):=by
 have hc:=canon hL (Mf ho);have hg:∀(i:Nat) (h:i<(wordsOf Cw.fm ls).length),(wordsOf Cw.fm ls)[i]=(wordsOf Cw.fm ls).getD i []:=fun i h=>by
  rw[Lp,KW h];rfl
 refine⟨fun w hw e=>?_,fun i j hi hj hne hp=>?_⟩
 ·obtain⟨i,hi,rfl⟩:=List.mem_iff_getElem.mp hw;have hi':i<ls.length:=by rw[<- hc.len];exact hi
  have h1:=hc.Js i hi';rw[<- hg i hi,e,LC] at h1;unfold aD at h1;rw[Lp,KW hi'] at h1;have h2:=hL.2.2 _ (L1 hi');have h1':0=(ls[i]).toNat:=h1;lia
 ·have hi':i<ls.length:=by rw[<- hc.len];exact hi
  have hj':j<ls.length:=by rw[<- hc.len];exact hj
  rw[hg i hi,hg j hj] at hp;have:(ls.getD i 0<ls.getD j 0\/(ls.getD i 0=ls.getD j 0/\i<j))\/(ls.getD j 0<ls.getD i 0\/(ls.getD j 0=ls.getD i 0/\j<i)):=by lia
  rcases this with h|h
  ·exact (hc.part i j hi' hj' h).not.1 hp
  ·exact (hc.part j i hj' hi' h).not.2 hp
theorem sv{bk:List (List Int)}(h:Bk bk):∀ ws∈d_ bk,Pf ws:=fun ws hw=>by
 obtain⟨l,hl,rfl⟩:=L6.mp hw;obtain⟨a,b,c,e,_,_,_,h4⟩:=h;exact yp (h4 l hl).1 (h4 l hl).2
noncomputable def KG:dG:=fun _ _=>False
theorem G8{st:Stmt}{N ps:List Str}{md:List Bool}(F:HasFn K mg x st ps)(S:ar N ps (aa st))(hmd:md.length=ps.length)(hnd:md.length<=N.length):ae P w K mg base aX (k+1) x ps (spT K md KG):=by
 refine F.gC S md hmd hnd (fun args Qt hl h f cdv A outer s H E hr=>h.elim)
noncomputable def leaf:L2.T->Prop
 |.int _=>True
 |.str _=>True
 |_=>False
noncomputable def Dp:Nat->L2.T->Prop
 |0,t=>leaf t
 |n+1,t=>leaf t\/∃ ts,t=.tup ts/\ts.length<=100/\∀ u∈ts,Dp n u
noncomputable def vX(n:Nat):dG:=fun args Q=>∃ x,args=[x,x]/\Dp n x/\Q (.tr (.bl true)) []
section
local macro_rules | `(tactic| decide) => `(tactic| exact Nat.le_refl _)
theorem iA(T:Txt K mg)(F:HasFn K mg "_law_same" cw ["found","due"])(n j:Nat){ts:dG}(h_law_same:ae P w K mg base aX j "_law_same" ["found","due"] (spT K [false,false] ts))(hts:∀ u Q,(n=0->False)->Dp (n-1) u->Q (.tr (.bl true)) []->ts [u,u] Q):ae P w K mg base aX (j+1) "_law_same" ["found","due"] (spT K [false,false] (vX n)):=by
 refine F.gC gX [false,false] rfl (by decide) ?_;left;obtain⟨x,rfl,hx,q⟩:=h;refine⟨_,(Y.ab (Y.eJ (Y.bg d7 Y.dB (Y.vS 1) Y.aC) (Y.az (Y.ret (Y.cmp d7 Y.dB (Y.vS 0) Y.aC))) Y.b6)
   (Y.ab (Y.eJ (Y.iK K rfl (Y.ET (C:="tuple") K rfl rfl T.b7 (Y.vS 1) rfl T.cZ (by decide +kernel))) (Y.ab (Y.eJ (Y.tw (Y.HM (Y.p5 (Y.iK K rfl (Y.ET (C:="tuple") K rfl rfl T.b7 (Y.vS 0) rfl T.cZ (by decide +kernel)))) (Y.yV (Y.bg (Y.qk K rfl (LA hu)) Y.pB (Y.cb (Y.aH K rfl) Y.ba rfl T.cG (by decide +kernel) (Y.cons (Y.vS 0) Y.nil)) (Y.cb (Y.aH K rfl) Y.ba rfl T.cG (by decide +kernel) (Y.cons (Y.vS 1) Y.nil)))))) (Y.az (Y.ret Y.bl)) Y.b6)
   (Y.az (Y.ret (Y.cmp (Y.cc K rfl (LA hu)) Y.dA (Y.rm K rfl (osc:=aa cw) (ON:=["found","due"]) (own:=["one","other"]) (N:=["one","other","found","due"]) ⟨rfl,by decide +kernel,rfl,by decide +kernel,by decide +kernel,by decide +kernel,by decide +kernel,by decide +kernel⟩ rfl rfl rfl rfl (Y.zip2 K rfl rfl T.yY (Y.cons (Y.vS 0) (Y.cons (Y.vS 1) Y.nil))) (fun _ _ _ _=>(Z.vh (n:=2) K rfl rfl (Z.bJ (Z.aK (i:=0) (show List.Nodup (["one","other","found","due"]:List Str) by decide +kernel) rfl (by right)) (Z.bJ (Z.aK (i:=1) (show List.Nodup (["one","other","found","due"]:List Str) by decide +kernel) rfl (by right)) Z.g_)))) (fun _ _ _ _=>(Y.IZ (Y.p5 (Y.iK K rfl (Y.fn K rfl h_law_same (hr.mono (by decide)) rfl ay (Y.cons (Y.vS 0) (Y.cons (Y.vS 1) Y.nil))))))) (fun _ _ _ _=>Y.int)) (Y.lst Y.nil))))) Y.b6)
   (Y.ab (Y.eJ (Y.iK K rfl (Y.ET (C:="str") K rfl rfl T.b7 (Y.vS 1) rfl T.xD (by decide +kernel))) (Y.az (Y.ret (Y.and (Y.ET (C:="str") K rfl rfl T.b7 (Y.vS 0) rfl T.xD (by decide +kernel)) (Y.one (Y.cmp (Y.cc K rfl (LA hu)) Y.dA (Y.vS 0) (Y.vS 1)))))) Y.b6)
   (Y.az (Y.ret (Y.and (Y.ET (C:="int") K rfl rfl T.b7 (Y.vS 0) rfl T.qZ (by decide +kernel)) (Y.and (Y.not (Y.ET (C:="bool") K rfl rfl T.b7 (Y.vS 0) rfl T.DG (by decide +kernel))) (Y.one (Y.cmp (Y.cc K rfl (LA hu)) Y.dA (Y.vS 0) (Y.vS 1)))))))))),?_⟩
 have hx2:leaf x\/∃ us,x=.tup us/\us.length<=100/\(n=0->False)/\∀ u∈us,Dp (n-1) u:=by
  cases n with
  |zero=>exact .inl hx
  |succ n =>
   rcases hx with h|⟨us,e,h1,h2⟩
   ·exact .inl h
   ·exact .inr ⟨us,e,h1,(fun z=>by cases z),h2⟩
 refine ao fun N hN=>?_;rcases hx2 with hx|⟨us,rfl,h100,hn0,hus⟩
 ·cases x<;>first|exact hx.elim|skip
  ·rename_i i;rfl';symm;exists (show eB "int" "tuple"=false from by decide +kernel)
   symm;exists (show eB "int" "str"=false from by decide +kernel)
   ac_rfl;exists (show eB "int" "int"=true from by decide +kernel),(show eB "int" "bool"=false from by decide +kernel)
   exact q
  ·rename_i z;rfl';symm;exists (show eB "str" "tuple"=false from by decide +kernel)
   symm;exists (show eB "str" "str"=true from by decide +kernel)
   exact q
 ·rfl';symm;exists (show eB "tuple" "tuple"=true from by decide +kernel)
  refine ao fun M hM=>?_;exists (show eB "tuple" "tuple"=true from by decide +kernel)
  rw[Lc (by simp)]
  refine hM _ ?_;clear hM M;rfl';refine cO (fun rest acc μ=>∃ vs:List L2.T,(∀ u∈vs,u∈us)/\rest=pG vs vs/\acc=[]/\μ=[.tr (.tup us),.tr (.tup us)]) ⟨us,fun u h=>h,rfl,rfl,rfl⟩ ?_ ?_
  ·rintro acc μ ⟨vs,_,_,rfl,rfl⟩;refine⟨trivial,?_⟩;rfl';exact⟨rfl,rfl,q⟩
  ·rintro t r acc μ M ⟨vs,hvs,e,rfl,rfl⟩ k
   cases vs with
   |nil=>cases e
   |cons v vs =>
    obtain⟨rfl,rfl⟩:=List.cons.inj e;refine⟨trivial,Lv (show 0<1 from Nat.zero_lt_one) (show 1<=sizeLine from Nat.le_of_ble_eq_true rfl),?_⟩;rfl';refine hts v _ hn0 (hus v (hvs v K_)) ?_;show (if true=false then _ else M [] [Sl.tr (L2.T.tup us),Sl.tr (L2.T.tup us)])
    rw[Lc (by simp)]
    exact k _ _ ⟨vs,fun u h=>hvs u (KZ _ h),rfl,rfl,rfl⟩
end
abbrev k12z(P w K mg base):=ae P w K mg base aX 4 "_law_same" ["found","due"] (spT K [false,false] (vX 2))
theorem zW(T:Txt K mg)(F:HasFn K mg "_law_same" cw ["found","due"]):k12z P w K mg base:=
 iA T F 2 3 (iA T F 1 2 (iA T F 0 1 (G8 F gX rfl (by decide)) fun u Q h=>(h rfl).elim) fun u Q _ h q=>⟨u,rfl,h,q⟩) fun u Q _ h q=>⟨u,rfl,h,q⟩
noncomputable def C5:dG:=fun args Q=>∃(ts:List L2.T) (g:Int),args=[.tup ts,.int g]/\ts≠[]/\ts.length<=100/\Q (.tr (.tup (ts.dropLast++[.int g]))) []
theorem nJ(ts:List α):Y.bT ts none (some (-1))=ts.dropLast:=by
 unfold Y.bT;rw[HT.fO,Nx,Pb,PL];congr 1;unfold HT.bq;simp only[show ((-1:Int)<0)=True from eq_true (by decide),MV]
 lia
abbrev k20z(P w K mg base):=ae P w K mg base aX 1 "with_goal" ["row","goal"] (spT K [false,false] C5)
theorem BN(T:Txt K mg)(F:HasFn K mg "with_goal" dQ ["row","goal"]):k20z P w K mg base:=by
 refine F.gC mD [false,false] rfl (by decide) ?_;left;obtain⟨ts,g,rfl,h0,h1,q⟩:=h;refine⟨_,(Y.az (Y.ret (Y.op (Y.au K rfl) Y.av (Y.eO K rfl (Y.vS 0) Y.AU (Y.ve (Y.neg Y.int))) (Y.tup (Y.cons (Y.vS 1) Y.nil))))),?_⟩;exists nJ;exact⟨by decide,by rw[O2];exact Lk (show _<=101 by lia) (by decide),q⟩
noncomputable def Row.to(r:Row)(g:Nat):Row:=match r with
 |.jump _=>.jump g
 |.zero b _=>.zero b g
 |r=>r
noncomputable def BV:dG:=fun args Q=>∃(r:Row) (st:Int) (ks:List Int) (us:List L2.T) (g:Nat),args=[r.t,.int st,.ig (ks.map .inl) us]/\(∀ a,ax r=some a->cR (.inl (a:Int)) (ks.map .inl) us=some (.int (g:Nat)))/\Q (.tr (r.to g).t) []
theorem En{r:Row}{a:Nat}(h:ax r=some a)(g:Nat):(r.to g).t=.tup ((r.ps.map Fj.t).dropLast++[.int (g:Nat)]):=by
 cases r<;>first|rfl|cases h
abbrev k5z(P w K mg base):=ae P w K mg base aX 2 "goal_numbered" ["row","start","numbers"] (spT K [false,false,false] BV)
theorem Bf(T:Txt K mg)(F:HasFn K mg "goal_numbered" bX ["row","start","numbers"])(hgoal_of:ae P w K mg base aX 1 "goal_of" ["row"] (spT K [false] Ci))(hwith_goal:k20z P w K mg base):k5z P w K mg base:=by
 refine F.gC eA [false,false,false] rfl (by decide) ?_;left;obtain⟨r,st,ks,us,g,rfl,hg,q⟩:=h;refine⟨_,(Y.ab (Y.set (i:=3) eA.nd rfl (by right) (Y.fn K rfl hgoal_of (hr.mono (by decide)) rfl ay (Y.cons (Y.vS 0) Y.nil)))
   (Y.ab (Y.eJ (Y.bg d7 Y.dB (Y.vS 3) Y.aC) (Y.az (Y.ret (Y.vS 0))) Y.b6)
   (Y.ab (Y.eJ (Y.bg (Y.yT hu) Y.AO (Y.vS 3) (Y.vS 2)) (Y.az Y.mf) Y.b6)
   (Y.az (Y.ret (Y.fn K rfl hwith_goal (hr.mono (by decide)) rfl ay (Y.cons (Y.vS 0) (Y.cons (Y.Je (hs:=fun _ _=>rfl) hu (Y.vS 2) (Y.vS 3)) Y.nil)))))))),?_⟩
 refine ao fun N hN=>?_;rfl';refine⟨r,rfl,?_⟩;rfl';symm
 cases e:ax r with
 |none =>
  unfold oI;rfl';have:r.to g=r:=by cases r<;>first|rfl|cases e
  rw[this] at q;exact q
 |some a =>
  have hl2:=hg a e;unfold oI;rfl';symm;exists hl2;rw[Lc (by simp)]
  ac_rfl;exists hl2;refine⟨r.ps.map Fj.t,(g:Int),rfl,?_,?_,?_⟩
  ·cases r<;>first | (intro z;cases z)|cases e
  ·rw[Lb];cases r<;>simp[Row.ps]
  ·rfl';rw[En e] at q;exact q
noncomputable def Ib:Nat->Nat
 |0=>5
 |1=>10
 |_=>18
noncomputable def addW:Option Nat->Nat->Nat
 |none,_=>0
 |some _,w=>Ib w
theorem zz(g:Option Nat)(w:Nat):addW g w<=18:=by
 unfold addW Ib;split
 ·decide
 ·split<;>decide
noncomputable def fk:Nat->List Nat->List (Option Nat)->List Nat->List Nat
 |a,s::ss,g::gs,w::ws=>a::fk (a+s+addW g w) ss gs ws
 |a,_,_,_=>[a]
theorem oZ(a:Nat)(ss:List Nat)(gs:List (Option Nat))(ws:List Nat):∃ l,fk a ss gs ws=a::l:=by
 unfold fk;split
 ·exact⟨_,rfl⟩
 ·exact⟨_,rfl⟩
theorem iQ:∀(ss:List Nat) (gs:List (Option Nat)) (ws:List Nat) (a:Nat),gs.length=ss.length->ws.length=ss.length->(fk a ss gs ws).length=ss.length+1
 |[],_,_,_,_,_=>by unfold fk;rfl
 |s::ss,[],_,_,h,_=>by cases h
 |s::ss,_::_,[],_,_,h=>by cases h
 |s::ss,g::gs,w::ws,a,h1,h2=>by
  rw[fk,Lf,iQ ss gs ws _ (Nat.succ.inj h1) (Nat.succ.inj h2)];rfl
theorem xP:∀(ss:List Nat) (gs:List (Option Nat)) (ws:List Nat) (a:Nat),(∀ s∈ss,s<=150)->∀ v∈fk a ss gs ws,a<=v/\v<=a+168*ss.length
 |[],_,_,a,_,v,h=>by
  have:v=a:=by unfold fk at h;simpa using h
  rw[this];simp
 |s::ss,[],_,a,_,v,h=>by
  have:v=a:=by unfold fk at h;simpa using h
  rw[this];simp
 |s::ss,_::_,[],a,_,v,h=>by
  have:v=a:=by unfold fk at h;simpa using h
  rw[this];simp
 |s::ss,g::gs,w::ws,a,hs,v,h=>by
  rw[fk] at h;have h1:=hs s K_;have h2:=zz g w;rw[Lf];rcases Le.mp h with rfl|h
  ·exact⟨Lj _,Nat.le_add_right _ _⟩
  ·have:=xP ss gs ws _ (fun x hx=>hs x (KZ _ hx)) v h;lia
theorem wy:∀(ss:List Nat) (gs:List (Option Nat)) (ws:List Nat) (a k:Nat) (s:Nat) (g:Option Nat) (w:Nat),ss[k]?=some s->gs[k]?=some g->ws[k]?=some w->(fk a ss gs ws).getD (k+1) 0=(fk a ss gs ws).getD k 0+s+addW g w
 |[],_,_,_,_,_,_,_,h,_,_=>by simp at h
 |s::ss,[],_,_,_,_,_,_,_,h,_=>by simp at h
 |s::ss,_::_,[],_,_,_,_,_,_,_,h=>by simp at h
 |s::ss,g::gs,w::ws,a,0,s',g',w',h1,h2,h3=>by
  simp at h1 h2 h3;subst h1;subst h2;subst h3;rw[fk];obtain⟨l,e⟩:=oZ (a+s+addW g w) ss gs ws;rw[e];rfl
 |s::ss,g::gs,w::ws,a,k+1,s',g',w',h1,h2,h3=>by
  rw[fk];have:=wy ss gs ws (a+s+addW g w) k s' g' w' (by simpa using h1) (by simpa using h2) (by simpa using h3)
  simpa using this
noncomputable def fF(sp:List Nat)(t k:Nat):Int:=(sp.getD t 0:Int)-(sp.getD (k+1) 0:Int)
noncomputable def v8(w:Nat)(d:Int):Bool:=decide (-cy w<=d) && decide (d<cy w)
noncomputable def gu(sp:List Nat)(k:Nat):Option Nat->Nat->Nat
 |none,w=>w
 |some t,w=>if v8 w (fF sp t k)=true then w else min (w+1) 2
noncomputable def dU(sp:List Nat):Nat->List (Option Nat)->List Nat->List Nat
 |k,g::gs,w::ws=>gu sp k g w::dU sp (k+1) gs ws
 |_,_,ws=>ws
noncomputable def eE(ss:List Nat)(gs:List (Option Nat))(ws:List Nat):List Nat:=dU (fk 0 ss gs ws) 0 gs ws
noncomputable def b9(ss:List Nat)(gs:List (Option Nat))(ws:List Nat):Nat->List Nat
 |0=>ws
 |m+1=>eE ss gs (b9 ss gs ws m)
noncomputable def j6(ss:List Nat)(gs:List (Option Nat))(ws:List Nat):List Nat:=b9 ss gs ws (2*ss.length+1)
theorem ny{w:Nat}{g:Option Nat}(h:w<3):w<=gu sp k g w/\gu sp k g w<3:=by
 unfold gu;split
 ·exact⟨Lj _,h⟩
 ·split<;>lia
theorem cS(sp:List Nat):∀(k:Nat) (gs:List (Option Nat)) (ws:List Nat),(dU sp k gs ws).length=ws.length
 |_,[],_=>rfl
 |_,_::_,[]=>rfl
 |k,g::gs,w::ws=>by rw[dU,Lf,Lf,cS sp (k+1) gs ws]
theorem rF(sp:List Nat):∀(k:Nat) (gs:List (Option Nat)) (ws:List Nat),(∀ w∈ws,w<3)->∀ w∈dU sp k gs ws,w<3
 |_,[],_,h=>h
 |_,_::_,[],h=>h
 |k,g::gs,w::ws,h=>fun v hv=>by
  rw[dU] at hv;rcases Le.mp hv with rfl|hv
  ·exact (ny (h w K_)).2
  ·exact rF sp (k+1) gs ws (fun x hx=>h x (KZ _ hx)) v hv
theorem step_at(sp:List Nat):∀(k:Nat) (gs:List (Option Nat)) (ws:List Nat) (i:Nat) (g:Option Nat) (w:Nat),gs[i]?=some g->ws[i]?=some w->(dU sp k gs ws)[i]?=some (gu sp (k+i) g w)
 |_,[],_,_,_,_,h,_=>by simp at h
 |_,_::_,[],_,_,_,_,h=>by simp at h
 |k,g::gs,w::ws,0,g',w',h1,h2=>by
  simp at h1 h2;subst h1;subst h2;rfl
 |k,g::gs,w::ws,i+1,g',w',h1,h2=>by
  rw[dU,NQ,step_at sp (k+1) gs ws i g' w' (by simpa using h1) (by simpa using h2)]
  rw[show k+1+i=k+(i+1) by lia]
theorem nu(sp:List Nat):∀(k:Nat) (gs:List (Option Nat)) (ws:List Nat),(∀ w∈ws,w<3)->dU sp k gs ws=ws\/ws.sum<(dU sp k gs ws).sum
 |_,[],_,_=>.inl rfl
 |_,_::_,[],_=>.inl rfl
 |k,g::gs,w::ws,h=>by
  rw[dU,P_,P_];have h1:=(ny (sp:=sp) (k:=k) (g:=g) (h w K_)).1;rcases nu sp (k+1) gs ws (fun x hx=>h x (KZ _ hx)) with e|e
  ·rw[e];by_cases z:gu sp k g w=w
   ·exact .inl (by rw[z])
   ·exact .inr (by lia)
  ·exact .inr (by lia)
theorem fZ(ss:List Nat)(gs:List (Option Nat))(ws:List Nat):∀ m,(b9 ss gs ws m).length=ws.length
 |0=>rfl
 |m+1=>(cS _ _ _ _).trans (fZ ss gs ws m)
theorem fv(h:∀ w∈ws,w<3):∀ m,∀ w∈b9 ss gs ws m,w<3
 |0=>h
 |m+1=>rF _ _ _ _ (fv h m)
theorem kE{ss:List Nat}{gs:List (Option Nat)}(h:∀ w∈ws,w<3):∀ m,eE ss gs (b9 ss gs ws m)=b9 ss gs ws m\/m<=(b9 ss gs ws m).sum
 |0=>.inr (LH _)
 |m+1=>by
  rcases kE (ss:=ss) (gs:=gs) h m with e|e
  ·refine .inl ?_;show eE ss gs (eE ss gs (b9 ss gs ws m))=eE ss gs (b9 ss gs ws m);rw[e,e]
  ·rcases nu (fk 0 ss gs (b9 ss gs ws m)) 0 gs (b9 ss gs ws m) (fv h m) with z|z
   ·refine .inl ?_;show eE ss gs (eE ss gs (b9 ss gs ws m))=eE ss gs (b9 ss gs ws m);have z':eE ss gs (b9 ss gs ws m)=b9 ss gs ws m:=z;rw[z',z']
   ·refine .inr ?_;show m+1<=(eE ss gs (b9 ss gs ws m)).sum;exact LX e z
theorem sJ:∀{ws:List Nat},(∀ w∈ws,w<3)->ws.sum<=2*ws.length
 |[],_=>Lj _
 |w::ws,h=>by
  have h1:=h w K_;have h2:=sJ fun x hx=>h x (KZ _ hx);rw[P_,Lf];lia
theorem sX(ss:List Nat)(gs:List (Option Nat))(ws:List Nat):(j6 ss gs ws).length=ws.length:=fZ ss gs ws _
theorem qF(h:∀ w∈ws,w<3):∀ w∈j6 ss gs ws,w<3:=fv h _
theorem Ao{ss:List Nat}{gs:List (Option Nat)}(hl:ws.length=ss.length)(h:∀ w∈ws,w<3):eE ss gs (j6 ss gs ws)=j6 ss gs ws:=by
 rcases kE (ss:=ss) (gs:=gs) h (2*ss.length+1) with e|e
 ·exact e
 ·have:=sJ (fv (ss:=ss) (gs:=gs) h (2*ss.length+1));rw[fZ,hl] at this;lia
theorem rj(hs:∀ s∈ss,s<=150)(i:Nat):(fk 0 ss gs ws).getD i 0<=168*ss.length:=by
 rw[Lp]
 cases c:(fk 0 ss gs ws)[i]? with
 |none=>exact LH _
 |some v=>have:=xP ss gs ws 0 hs v (LW c);show v<=_;lia
noncomputable def D4(ss:List Nat)(gs:List (Option Nat))(ws:List Nat):Prop:=∀(k t w:Nat),gs[k]?=some (some t)->ws[k]?=some w->v8 w (fF (fk 0 ss gs ws) t k)=true
theorem BF{gs:List (Option Nat)}{ws:List Nat}(hs:∀ s∈ss,s<=150)(hn:ss.length<=64)(h:∀ w∈ws,w<3)(hf:eE ss gs ws=ws):D4 ss gs ws:=fun k t w h1 h2=>by
 have e:=step_at (fk 0 ss gs ws) 0 gs ws k (some t) w h1 h2;have e':ws[k]?=some (gu (fk 0 ss gs ws) (0+k) (some t) w):=by rw[<- e];exact L0 (·[k]?) hf.symm
 rw[h2,M9] at e';have e2:=Option.some.inj e';unfold gu at e2;by_cases c:v8 w (fF (fk 0 ss gs ws) t k)=true
 ·exact c
 ·simp only[Lc c] at e2;have hw:w=2:=by have:=h w (LW h2);lia
  subst hw;have h3:=rj (gs:=gs) (ws:=ws) hs t;have h4:=rj (gs:=gs) (ws:=ws) hs (k+1);unfold v8 fF;rw[LG (show -cy 2<=_ by show -32768<=_;lia),LG (show _<cy 2 by show _<32768;lia)]
  rfl
theorem AD(hs:∀ s∈ss,s<=150)(hn:ss.length<=64)(hl:ws.length=ss.length)(h:∀ w∈ws,w<3):D4 ss gs (j6 ss gs ws):=BF hs hn (qF h) (Ao hl h)
noncomputable def nN(l:List Nat):List L2.T:=l.map fun k:Nat=>.int (k:Int)
theorem gy(l:List Nat):(nN l).length=l.length:=Lb ..
theorem j3(a b:List Nat):nN (a++b)=nN a++nN b:=L5
theorem lI{v:Nat}(h:l[k]?=some v):aY (nN l) (k:Int)=some (.int (v:Int)):=aW (by unfold nN;rw[Lr,h];rfl)
theorem sC:∀ xs:List Nat,(nN xs).all aN=true
 |[]=>rfl
 |x::xs=>by show (aN (.int _) && (nN xs).all aN)=true;rw[sC xs];rfl
theorem tI(pre:List α)(a:α):aY (pre++[a]) (-1)=some a:=by
 unfold aY ie;rw[Lc (by decide),Li (by rw[KY,LD];lia)]
 rw[show ((-1:Int)+((pre++[a]).length:Int)).toNat=pre.length by rw[KY,LD];lia]
 simp
theorem DA{w:Nat}(h:w<3):aY [L2.T.int 5,.int 10,.int 18] (w:Int)=some (.int (Ib w:Int)):=by
 rcases rQ h with rfl|rfl|rfl<;>rfl
noncomputable def qx:dG:=fun args Q=>∃(ss:List Nat) (gs:List (Option Nat)) (ws:List Nat),args=[.lst (nN ss),.lst (nO gs),.lst (nN ws)]/\gs.length=ss.length/\ws.length=ss.length/\ss.length<=64/\(∀ w∈ws,w<3)/\Q (.fr (.lst (nN (fk 0 ss gs ws)))) []
abbrev k3z(P w K mg base):=ae P w K mg base aX 1 "_law_spots" ["sizes","goals","widths"] (spT K [false,false,false] qx)
theorem yh(T:Txt K mg)(F:HasFn K mg "_law_spots" cX ["sizes","goals","widths"]):k3z P w K mg base:=by
 refine F.gC bW [false,false,false] rfl (by decide) ?_;left;obtain⟨ss,gs,ws,rfl,h1,h2,h3,h4,q⟩:=h;refine⟨_,(Y.ab (Y.set (i:=3) bW.nd rfl (by right) (Y.lst (Y.cons Y.int Y.nil)))
   (Y.ab (Y.gg LR rfl (Y.JW K rfl rfl T.yY (Y.cons (Y.vS 0) (Y.cons (Y.vS 1) (Y.cons (Y.vS 2) Y.nil)))) (Y.yG (n:=3) K rfl rfl (Y.bJ (Y.aK (i:=4) bW.nd rfl (by right)) (Y.bJ (Y.aK (i:=5) bW.nd rfl (by right)) (Y.bJ (Y.aK (i:=6) bW.nd rfl (by right)) Y.g_)))) (Y.az (Y.expr (Y.bm K rfl PySem.F.slot_list_append PySem.F.type_list_append e9 Y.fW (Y.vS 3) (Y.cons (Y.op (Y.au K rfl) Y.av (Y.op (Y.au K rfl) Y.av (Y.ix (Y.aB K rfl) Y.af (Y.vS 3) (Y.neg Y.int)) (Y.vS 4)) (Y.ix (Y.aB K rfl) Y.af (Y.lst (Y.cons Y.int (Y.cons (Y.ix (Y.aB K rfl) Y.af (Y.lst (Y.bw rfl rfl)) (Y.vS 6)) Y.nil))) (Y.ct uQ Y.Dd rfl T.qZ (by decide +kernel) (Y.cons (Y.cmp mw Y.lX (Y.vS 5) Y.aC) Y.nil)))) Y.nil)))))
   (Y.az (Y.ret (Y.vS 3))))),?_⟩
 refine ao fun N hN=>?_;rfl';refine⟨by decide,hN _ ?_⟩;clear hN N
 refine ao fun N hN=>?_;rfl';refine bD (fun rest μ=>∃(s':List Nat) (g':List (Option Nat)) (w' pre:List Nat) (a:Nat) (o4 o5 o6:Option L2.T),rest=cF (nN s') (nO g') (nN w')/\pre++fk a s' g' w'=fk 0 ss gs ws/\g'.length=s'.length/\w'.length=s'.length/\(∀ w∈w',w<3)/\pre.length+s'.length<=64/\μ=[.tr (.lst (nN ss)),.tr (.lst (nO gs)),.tr (.lst (nN ws)),.bx (.lst (nN (pre++[a]))),sl o4,sl o5,sl o6]) ⟨ss,gs,ws,[],0,none,none,none,rfl,rfl,h1,h2,h4,by simpa using h3,rfl⟩ ?_ ?_
 ·rintro μ ⟨s',g',w',pre,a,o4,o5,o6,e,ea,l1,l2,_,_,rfl⟩;have es:s'=[]:=by
   cases s' with
   |nil=>rfl
   |cons x s'=>cases g' with
    |nil=>cases l1
    |cons y g'=>cases w' with
     |nil=>cases l2
     |cons z w'=>cases e
  subst es;have e1:fk a [] g' w'=[a]:=by unfold fk;rfl
  rw[e1] at ea;show N _;ac_rfl;rfl';rw[ea];exact q
 ·rintro t ts μ M ⟨s',g',w',pre,a,o4,o5,o6,e,ea,l1,l2,l3,l4,rfl⟩ kk
  cases s' with
  |nil=>cases g'<;>cases e
  |cons x s'=>cases g' with
   |nil=>cases l1
   |cons y g'=>cases w' with
    |nil=>cases l2
    |cons z w' =>
     obtain⟨rfl,rfl⟩:=List.cons.inj e;rw[Lf] at l4;rw[fk] at ea;have ez:=DA (l3 z K_);have ea2:aY (nN (pre++[a])) (-1)=some (.int (a:Int)):=by rw[j3];exact tI _ _
     have fin:M [.tr (.lst (nN ss)),.tr (.lst (nO gs)),.tr (.lst (nN ws)),.bx (.lst (nN (pre++[a])++[.int ((a+x+addW y z:Nat):Int)])),.tr (.int (x:Int)),.tr (oI y),.tr (.int (z:Int))]:=
      kk _ ⟨s',g',w',pre++[a],a+x+addW y z,some _,some _,some _,rfl,by rw[<- ea,Ls];rfl,Nat.succ.inj l1,Nat.succ.inj l2,fun v hv=>l3 v (KZ _ hv),by rw[KY,LD];lia,by rw[j3 (pre++[a])];rfl⟩
     have hlen:(nN (pre++[a])).length<100:=by rw[gy,KY,LD];lia
     cases y with
     |none =>
      unfold oI at fin ⊢;exists ea2,ez;rw[show ((a+x+addW none z:Nat):Int)=(a:Int)+(x:Int)+0 from rfl] at fin;exact⟨by decide,by decide,MW hlen (by decide),fin⟩
     |some g =>
      unfold oI at fin ⊢;exists ea2,ez;rw[show ((a+x+addW (some g) z:Nat):Int)=(a:Int)+(x:Int)+(Ib z:Int) from rfl] at fin;exact⟨by decide,by decide,MW hlen (by decide),fin⟩
theorem Ce{l:List (Option Nat)}{v:Option Nat}(h:l[k]?=some v):aY (nO l) (k:Int)=some (oI v):=aW (by unfold nO;rw[Lr,h];rfl)
theorem A6{w:Nat}(h:w<3):aY [L2.T.int 8,.int 128,.int 32768] (w:Int)=some (.int (cy w)):=by
 rcases rQ h with rfl|rfl|rfl<;>rfl
noncomputable def eI(sp:List Nat)(gs:List (Option Nat))(ws:List Nat)(i:Nat):List Nat:=(dU sp 0 gs ws).take i++ws.drop i
theorem AN(sp:List Nat)(gs:List (Option Nat))(ws:List Nat)(i:Nat):(eI sp gs ws i).length=ws.length:=by
 unfold eI;rw[KY,L7,LS,cS];lia
theorem zM(sp:List Nat)(gs:List (Option Nat))(ws:List Nat):eI sp gs ws ws.length=dU sp 0 gs ws:=by
 unfold eI;rw[N1,L8,Mm (by rw[cS];exact Lj _)]
theorem y3{w:Nat}(h:ws[i]?=some w):(eI sp gs ws i)[i]?=some w:=by
 have hi:=(Ll.mp h).1;unfold eI;rw[Ml (by rw[L7,cS];lia),L7,cS,Mr]
 rw[show i+(i-min i ws.length)=i by lia]
 exact h
theorem mW{w:Nat}{g:Option Nat}(hg:gs[i]?=some g)(h:ws[i]?=some w):eI sp gs ws (i+1)=(eI sp gs ws i).set i (gu sp i g w):=by
 have hi:=(Ll.mp h).1;have hs:=step_at sp 0 gs ws i g w hg h;rw[M9] at hs;unfold eI;rw[Oj _ _ (by rw[L7,cS];lia),L7,cS]
 rw[show i-min i ws.length=0 by lia,LL hi,NN]
 rw[OF,hs,Ls];rfl
theorem nk{sp:List Nat}{gs:List (Option Nat)}{w:Nat}{g:Option Nat}(hg:gs[i]?=some g)(h:ws[i]?=some w)(e:gu sp i g w=w):eI sp gs ws (i+1)=eI sp gs ws i:=by
 rw[mW hg h,e];have:=y3 (sp:=sp) (gs:=gs) h;obtain⟨hi,e2⟩:=Ll.mp this;rw[<- e2];exact List.set_getElem_self hi
theorem DB(l:List Nat)(i v:Nat):(nN l).set i (.int (v:Int))=nN (l.set i v):=by
 unfold nN;rw[NM]
noncomputable def yf:dG:=fun args Q=>∃(ss:List Nat) (gs:List (Option Nat)) (ws:List Nat),args=[.lst (nN ss),.lst (nO gs),.lst (nN ws)]/\gs.length=ss.length/\ws.length=ss.length/\ss.length<=64/\(∀ s∈ss,s<=150)/\(∀ t,some t∈gs->t<=ss.length)/\(∀ w∈ws,w<3)/\Q (.fr (.lst (nN (j6 ss gs ws)))) []
abbrev k7z(P w K mg base):=ae P w K mg base aX 2 "_law_least" ["sizes","goals","widths"] (spT K [false,false,false] yf)
theorem vM(T:Txt K mg)(F:HasFn K mg "_law_least" cW ["sizes","goals","widths"])(h_law_spots:k3z P w K mg base):k7z P w K mg base:=by
 refine F.gC bj [false,false,false] rfl (by decide) ?_;left;obtain⟨ss,gs,ws,rfl,h1,h2,h3,h4,h5,h6,q⟩:=h;refine⟨_,(Y.ab (Y.set (i:=2) bj.nd rfl (by right) (Y.ct (Y.qQ K rfl rfl) Y.Bz rfl T.wL (by decide +kernel) (Y.cons (Y.vS 2) Y.nil)))
   (Y.ab (Y.gg LR rfl (Y.jV rfl T.cY (Y.cons (Y.op (Y.au K rfl) Y.av (Y.op (Y.bY K rfl) Y.bF Y.int (Y.cb (Y.aH K rfl) Y.ba rfl T.cG (by decide +kernel) (Y.cons (Y.vS 0) Y.nil))) Y.int) Y.nil)) (Y.aK (i:=3) bj.nd rfl (by right)) (Y.ab (Y.vg (i:=4) bj.nd rfl (by right) (Y.fn K rfl h_law_spots (hr.mono (by decide)) rfl ay (Y.cons (Y.vS 0) (Y.cons (Y.vS 1) (Y.cons (Y.vS 2) Y.nil)))))
   (Y.az (Y.gg LR rfl (Y.jV rfl T.cY (Y.cons (Y.cb (Y.aH K rfl) Y.ba rfl T.cG (by decide +kernel) (Y.cons (Y.vS 0) Y.nil)) Y.nil)) (Y.aK (i:=5) bj.nd rfl (by right)) (Y.az (Y.eJ (Y.bg mw Y.lX (Y.ix (Y.aB K rfl) Y.af (Y.vS 1) (Y.vS 5)) Y.aC) (Y.ab (Y.set (i:=6) bj.nd rfl (by right) (Y.ix (Y.aB K rfl) Y.af (Y.lst (Y.bw rfl rfl)) (Y.ix (Y.aB K rfl) Y.af (Y.vS 2) (Y.vS 5))))
   (Y.ab (Y.set (i:=7) bj.nd rfl (by right) (Y.op dW Y.cN (Y.ix (Y.aB K rfl) Y.af (Y.vS 4) (Y.ix (Y.aB K rfl) Y.af (Y.vS 1) (Y.vS 5))) (Y.ix (Y.aB K rfl) Y.af (Y.vS 4) (Y.op (Y.au K rfl) Y.av (Y.vS 5) Y.int))))
   (Y.az (Y.eJ (Y.p5 (Y.qr H_ Y.fH kC Y.fH (Y.op dW Y.cN Y.int (Y.vS 6)) (Y.vS 7) (Y.vS 6))) (Y.az (Y.asg (Y.cb (kY rfl) Y.y2 rfl T.Co (by decide +kernel) (Y.cons (Y.op (Y.au K rfl) Y.av (Y.ix (Y.aB K rfl) Y.af (Y.vS 2) (Y.vS 5)) Y.int) (Y.cons Y.int Y.nil))) (Y.mT (Y.vS 2) (Y.vS 5)))) Y.b6)))) Y.b6))))))
   (Y.az (Y.ret (Y.vS 2))))),?_⟩
 refine ao fun N hN=>?_;rfl';symm;exists gy;refine⟨.inl ⟨by decide,by decide⟩,by lia,by lia,?_⟩
 rw[show (2*(ss.length:Int)+1).toNat=2*ss.length+1 by lia]
 refine bD (fun rest μ=>∃(m:Nat) (o3 o4 o5 o6 o7:Option L2.T),rest.length+m=2*ss.length+1/\μ=[.tr (.lst (nN ss)),.tr (.lst (nO gs)),.bx (.lst (nN (b9 ss gs ws m))),sl o3,sl o4,sl o5,sl o6,sl o7]) ⟨0,none,none,none,none,none,by rw[Lb,Lz],rfl⟩ ?_ ?_
 ·rintro μ ⟨m,o3,o4,o5,o6,o7,e,rfl⟩;rw[LC,M9] at e;subst e;show N _;ac_rfl;rfl';exact q
 ·rintro t ts μ M ⟨m,o3,o4,o5,o6,o7,e,rfl⟩ kk;rw[Lf] at e;have wl:=fZ ss gs ws m;have wt:=fv (ss:=ss) (gs:=gs) h6 m;rw[h2] at wl;have fin:∀(o3 o4 o5 o6 o7:Option L2.T),M [.tr (.lst (nN ss)),.tr (.lst (nO gs)),.bx (.lst (nN (eE ss gs (b9 ss gs ws m)))),sl o3,sl o4,sl o5,sl o6,sl o7]:=fun o3 o4 o5 o6 o7=>kk _ ⟨m+1,o3,o4,o5,o6,o7,by lia,rfl⟩
  clear kk;generalize b9 ss gs ws m=wm at *;rfl';refine ao fun M' hM=>?_;rfl';refine⟨ss,gs,wm,rfl,h1,wl,h3,wt,?_⟩;refine⟨.inr ⟨sC _,rfl⟩,?_⟩;rfl';refine hM _ ?_;clear hM M';have GC:∀(o3 o5 o6 o7:Option L2.T),M [.tr (.lst (nN ss)),.tr (.lst (nO gs)),.bx (.lst (nN (dU (fk 0 ss gs wm) 0 gs wm))),sl o3,.tr (.lst (nN (fk 0 ss gs wm))),sl o5,sl o6,sl o7]:=fun o3 o5 o6 o7=>fin o3 (some _) o5 o6 o7;have sl':=iQ ss gs wm 0 h1 wl;generalize fk 0 ss gs wm=sp at *;clear fin;exists gy;refine⟨by lia,by lia,?_⟩
  rw[LI,MS];refine bD (fun rest μ=>∃(i:Nat) (o5 o6 o7:Option L2.T),(rest=(List.range' i (ss.length-i)).map fun k:Nat=>L2.T.int (0+(k:Int)))/\i<=ss.length/\μ=[.tr (.lst (nN ss)),.tr (.lst (nO gs)),.bx (.lst (nN (eI sp gs wm i))),.tr t,.tr (.lst (nN sp)),sl o5,sl o6,sl o7]) ⟨0,o5,o6,o7,rfl,LH _,rfl⟩ ?_ ?_
  ·rintro μ ⟨i,o5,o6,o7,e1,hi,rfl⟩;have e2:i=ss.length:=by
    have:=L0 List.length e1;rw[Lb,Nn,LC] at this;lia
   subst e2;rw[<- wl,zM];exact GC (some t) o5 o6 o7
  ·rintro t' ts' μ M1 ⟨i,o5,o6,o7,e1,hi,rfl⟩ kk;have hlt:i<ss.length:=by
    have:=L0 List.length e1;rw[Lb,Nn,Lf] at this;lia
   rw[show ss.length-i=(ss.length-(i+1))+1 by lia,MZ,L3] at e1
   obtain⟨rfl,rfl⟩:=List.cons.inj e1;rw[show (0:Int)+((i:Nat):Int)=(i:Int) from Int.zero_add _];have eg:=KW (show i<gs.length by lia)
   have ew:=KW (show i<wm.length by lia)
   have lw:=wt _ (L1 (show i<wm.length by lia))
   generalize gs[i]'_=g at eg;generalize wm[i]'_=w0 at ew lw;have ag:=Ce eg;have aw:=lI (y3 (sp:=sp) (gs:=gs) ew);have ah:=A6 lw;have tT:∀(o6 o7:Option L2.T),M1 [.tr (.lst (nN ss)),.tr (.lst (nO gs)),.bx (.lst (nN (eI sp gs wm (i+1)))),.tr t,.tr (.lst (nN sp)),.tr (.int (i:Int)),sl o6,sl o7]:=fun o6 o7=>kk _ ⟨i+1,some _,o6,o7,rfl,by lia,rfl⟩
   clear kk
   cases g with
   |none =>
    unfold oI at ag;exists ag;rw[nk eg ew rfl] at tT;exact tT o6 o7
   |some g =>
    unfold oI at ag;have hg:=h5 g (LW eg);have as1:aY (nN sp) (g:Int)=some (.int (sp.getD g 0:Int)):=lI (by rw[Lp,KW (show g<sp.length by lia)];rfl)
    have as2:aY (nN sp) ((i:Int)+1)=some (.int (sp.getD (i+1) 0:Int)):=by
     rw[show (i:Int)+1=((i+1:Nat):Int) from rfl];exact lI (by rw[Lp,KW (show i+1<sp.length by lia)];rfl)
    exists ag;refine ao fun M' hM=>?_;exists aw,ah;refine⟨by decide,hM _ ?_⟩;clear hM M'
    refine ao fun M' hM=>?_;exists ag,as1,as2;refine hM _ ?_;clear hM M';have ex:ie (nN (eI sp gs wm i)).length (i:Int)=some i:=by
     rw[gy,AN];unfold ie;rw[Li (by lia),Li (by lia),LI]
    have bad:v8 w0 (fF sp g i)=false->M1 [.tr (.lst (nN ss)),.tr (.lst (nO gs)),.bx (.lst ((nN (eI sp gs wm i)).set i (L2.T.int (if 2<(w0:Int)+1 then 2 else (w0:Int)+1)))),.tr t,.tr (.lst (nN sp)),.tr (.int (i:Int)),.tr (.int (cy w0)),.tr (.int ((sp.getD g 0:Int)-(sp.getD (i+1) 0:Int)))]:=fun c=>by
     have e3:eI sp gs wm (i+1)=(eI sp gs wm i).set i (min (w0+1) 2):=by
      rw[mW eg ew];show (eI sp gs wm i).set i (if v8 w0 (fF sp g i)=true then w0 else min (w0+1) 2)=_
      rw[c,Lc (by decide)]
     have e4:(if 2<(w0:Int)+1 then 2 else (w0:Int)+1)=((min (w0+1) 2:Nat):Int):=by split<;>lia
     rw[e4,DB,<- e3];exact tT (some _) (some _)
    exists aw,ex;by_cases c1:0-cy w0<=(sp.getD g 0:Int)-(sp.getD (i+1) 0:Int)
    ·rw[LG c1];by_cases c2:(sp.getD g 0:Int)-(sp.getD (i+1) 0:Int)<cy w0
     ·simp only[c2,not_true,M7];have e3:eI sp gs wm (i+1)=eI sp gs wm i:=nk eg ew (by
       show (if v8 w0 (fF sp g i)=true then w0 else min (w0+1) 2)=w0
       rw[Li];unfold v8 fF;rw[LG (by lia),LG c2];rfl)
      rw[e3] at tT;exact tT (some _) (some _)
     ·simp only[c2,not_false_iff,MV];refine bad ?_;unfold v8 fF;rw[Lu c2,Bool.and_false]
    ·rw[Lu c1];refine bad ?_;unfold v8 fF;rw[Lu (by lia),O9]
theorem fw{cd:List (List (List Nat))}(hC:Cd cd){r:Row}(hr:r.Ok k):(bE cd r).length<=136:=by
 have:=yg hC hr;unfold bE;rw[KY];lia
noncomputable def gq(cd:List (List (List Nat)))(rs:List Row):List Nat:=rs.map fun r=>(bE cd r).length
noncomputable def qu(sp:List Nat)(k w:Nat):Option Nat->List Nat
 |none=>[]
 |some t=>cu w (fF sp t k)
noncomputable def r_(cd:List (List (List Nat)))(sp:List Nat):Nat->List Row->List Nat->List Nat
 |k,r::rs,w::ws=>bE cd r++qu sp k w (ax r)++r_ cd sp (k+1) rs ws
 |_,_,_=>[]
theorem kW:∀(k:Nat) (n:Int) (acc:List Nat),aU (n % 2^k) k acc=aU n k acc
 |0,_,_=>rfl
 |k+1,n,acc=>by
  have e1:(n % 2^(k+1)) % 2=n % 2:=Int.emod_emod_of_dvd n ⟨2^k,by rw[Pm];lia⟩
  have e2:(n % 2^(k+1)) / 2=(n / 2) % 2^k:=by
   rw[Pm,Int.mul_comm];have h:=Ol n (2*2^k);have h2:n / (2*2^k)=n / 2 / 2^k:=(Int.ediv_ediv_of_nonneg (by decide)).symm
   rw[Int.emod_def,Int.emod_def,h2];rw[show n-2*2^k*(n / 2 / 2^k)=n+2*(-(2^k*(n / 2 / 2^k))) by rw[Int.mul_neg,PZ];lia]
   rw[Int.add_mul_ediv_left _ _ (by decide)]
   lia
  show aU ((n % 2^(k+1)) / 2) k (dg (n % 2^(k+1))::acc)=aU (n / 2) k (dg n::acc);rw[e2,kW k (n / 2)];unfold dg;rw[e1]
noncomputable def tE(bk:List (List Int))(rs:List Row)(ws:List Nat):List Nat:=
 r_ (d_ bk) (fk 0 (gq (d_ bk) rs) (rs.map ax) (j6 (gq (d_ bk) rs) (rs.map ax) ws)) 0 rs (j6 (gq (d_ bk) rs) (rs.map ax) ws)
noncomputable def rB(bk:List (List Int))(rs:List Row)(ws:List Nat):List Nat:=(fk 0 (gq (d_ bk) rs) (rs.map ax) (j6 (gq (d_ bk) rs) (rs.map ax) ws)).dropLast
noncomputable def sY:dG:=fun args Q=>∃(bk:List (List Int)) (rs:List Row) (ws:List Nat),args=[pT rs,Bt bk,.lst (nN ws)]/\Bk bk/\ws.length=rs.length/\rs.length<=64/\(∀ r∈rs,r.Ok rs.length)/\(∀ w∈ws,w<3)/\Q (.tr (.tup [.str (wd (tE bk rs ws)),.tup (nN (rB bk rs ws))])) []
theorem mN{r:Row}{t:Nat}(h:r.Ok n)(e:ax r=some t):t<=n:=by
 cases r with
 |jump g=>cases e;exact h
 |zero b g=>cases e;exact h.2
 |put=>cases e
 |two=>cases e
 |one=>cases e
 |halt=>cases e
abbrev k6z(P w K mg base):=ae P w K mg base aX 3 "_law_packed" ["program","book","widths"] (spT K [false,false,false] sY)
theorem u_(T:Txt K mg)(F:HasFn K mg "_law_packed" bo ["program","book","widths"])(h_law_code:ae P w K mg base aX 2 "_law_code" ["lengths"] (spT K [false] vA))(h_law_plain:k16z P w K mg base)(h_law_goals:ae P w K mg base aX 1 "_law_goals" ["program"] (spT K [false] sW))(h_law_least:k7z P w K mg base)(h_law_spots:k3z P w K mg base)(h_law_bits:k2z P w K mg base):k6z P w K mg base:=by
 refine F.gC aA [false,false,false] rfl (by decide) ?_;left;obtain⟨bk,rs,ws,rfl,hB,h1,h2,h3,h4,q⟩:=h;refine⟨_,(Y.ab (Y.asg (Y.kA (osc:=aa bo) (ON:=["program","book","widths","codes","plain","goals","sizes","spots","bits","k","span","far"]) (own:=["lengths"]) (N:=["lengths","program","book","widths","codes","plain","goals","sizes","spots","bits","k","span","far"]) ⟨rfl,by decide +kernel,rfl,by decide +kernel,by decide +kernel,by decide +kernel,by decide +kernel,by decide +kernel⟩ rfl rfl rfl rfl (Y.anyS K rfl (Y.vS 1)) (fun _ _ _ _=>(Z.aK (i:=0) (show List.Nodup (["lengths","program","book","widths","codes","plain","goals","sizes","spots","bits","k","span","far"]:List Str) by decide +kernel) rfl (by right))) (fun _ _ _ _=>Y.pI) (fun _ _ _ _=>(Y.fn K rfl h_law_code (hr.mono (by decide)) rfl ay (Y.cons (Y.vS 0) Y.nil)))) (Y.D0 (i:=3) aA.nd rfl (by right)))
   (Y.ab (Y.qd (j:=4) aA.nd rfl (by right) (osc:=aa bo) (ON:=["program","book","widths","codes","plain","goals","sizes","spots","bits","k","span","far"]) (own:=["row"]) (N:=["row","program","book","widths","codes","plain","goals","sizes","spots","bits","k","span","far"]) ⟨rfl,by decide +kernel,rfl,by decide +kernel,by decide +kernel,by decide +kernel,by decide +kernel,by decide +kernel⟩ rfl rfl rfl rfl (Y.anyS K rfl (Y.vS 0)) (fun _ _ _ _=>(Z.aK (i:=0) (show List.Nodup (["row","program","book","widths","codes","plain","goals","sizes","spots","bits","k","span","far"]:List Str) by decide +kernel) rfl (by right))) (fun _ _ _ _=>Y.pI) (fun _ _ _ _=>(Y.fn K rfl h_law_plain (hr.mono (by decide)) rfl ay (Y.cons (Y.vS 0) (Y.cons (Y.vS 4) Y.nil)))))
   (Y.ab (Y.vg (i:=5) aA.nd rfl (by right) (Y.fn K rfl h_law_goals (hr.mono (by decide)) rfl ay (Y.cons (Y.vS 0) Y.nil)))
   (Y.ab (Y.qd (j:=6) aA.nd rfl (by right) (osc:=aa bo) (ON:=["program","book","widths","codes","plain","goals","sizes","spots","bits","k","span","far"]) (own:=["text"]) (N:=["text","program","book","widths","codes","plain","goals","sizes","spots","bits","k","span","far"]) ⟨rfl,by decide +kernel,rfl,by decide +kernel,by decide +kernel,by decide +kernel,by decide +kernel,by decide +kernel⟩ rfl rfl rfl rfl (Y.anyS K rfl (Y.vS 4)) (fun _ _ _ _=>(Z.aK (i:=0) (show List.Nodup (["text","program","book","widths","codes","plain","goals","sizes","spots","bits","k","span","far"]:List Str) by decide +kernel) rfl (by right))) (fun _ _ _ _=>Y.pI) (fun _ _ _ _=>(Y.cb (Y.aH K rfl) Y.ba rfl T.cG (by decide +kernel) (Y.cons (Y.vS 0) Y.nil))))
   (Y.ab (Y.vg (i:=2) aA.nd rfl (by right) (Y.fn K rfl h_law_least (hr.mono (by decide)) rfl ay (Y.cons (Y.vS 6) (Y.cons (Y.vS 5) (Y.cons (Y.vS 2) Y.nil)))))
   (Y.ab (Y.vg (i:=7) aA.nd rfl (by right) (Y.fn K rfl h_law_spots (hr.mono (by decide)) rfl ay (Y.cons (Y.vS 6) (Y.cons (Y.vS 5) (Y.cons (Y.vS 2) Y.nil)))))
   (Y.ab (Y.set (i:=8) aA.nd rfl (by right) Y.str)
   (Y.ab (Y.gg LR rfl (Y.jV rfl T.cY (Y.cons (Y.cb (Y.aH K rfl) Y.ba rfl T.cG (by decide +kernel) (Y.cons (Y.vS 0) Y.nil)) Y.nil)) (Y.aK (i:=9) aA.nd rfl (by right)) (Y.ab (Y.set (i:=8) aA.nd rfl (by right) (Y.op (Y.au K rfl) Y.av (Y.vS 8) (Y.ix (Y.aB K rfl) Y.af (Y.vS 4) (Y.vS 9))))
   (Y.az (Y.eJ (Y.bg mw Y.lX (Y.ix (Y.aB K rfl) Y.af (Y.vS 5) (Y.vS 9)) Y.aC) (Y.ab (Y.set (i:=10) aA.nd rfl (by right) (Y.ix (Y.aB K rfl) Y.af (Y.lst (Y.bw rfl rfl)) (Y.ix (Y.aB K rfl) Y.af (Y.vS 2) (Y.vS 9))))
   (Y.ab (Y.set (i:=11) aA.nd rfl (by right) (Y.op dX Y.b_ (Y.op dW Y.cN (Y.ix (Y.aB K rfl) Y.af (Y.vS 7) (Y.ix (Y.aB K rfl) Y.af (Y.vS 5) (Y.vS 9))) (Y.ix (Y.aB K rfl) Y.af (Y.vS 7) (Y.op (Y.au K rfl) Y.av (Y.vS 9) Y.int))) (Y.vS 10)))
   (Y.az (Y.set (i:=8) aA.nd rfl (by right) (Y.op (Y.au K rfl) Y.av (Y.op (Y.au K rfl) Y.av (Y.vS 8) (Y.ix (Y.aB K rfl) Y.af (Y.lst (Y.bw rfl rfl)) (Y.ix (Y.aB K rfl) Y.af (Y.vS 2) (Y.vS 9)))) (Y.fn K rfl h_law_bits (hr.mono (by decide)) rfl ay (Y.cons (Y.vS 11) (Y.cons (Y.ix (Y.aB K rfl) Y.af (Y.lst (Y.bw rfl rfl)) (Y.ix (Y.aB K rfl) Y.af (Y.vS 2) (Y.vS 9))) Y.nil)))))))) Y.b6))))
   (Y.az (Y.ret (Y.tup (Y.cons (Y.vS 8) (Y.cons (Y.ct (Y.cJ K rfl) Y.dz rfl T.cZ (by decide +kernel) (Y.cons (Y.eO K rfl (Y.vS 7) Y.AU (Y.ve (Y.neg Y.int))) Y.nil)) Y.nil))))))))))))),?_⟩
 refine ao fun N hN=>?_;unfold Bt;rfl';refine gZ (fun l=>L2.T.tup (nI l)) (fun l=>.lst (wT (wordsOf Cw.fm l))) bk (by obtain⟨a,b,c,e,_⟩:=hB;rw[e];show 3<=1000;decide) (fun l hl' acc M hM=>?_) ?_
 ·rfl';obtain⟨a,b,c,e,_,_,_,h4'⟩:=hB;refine⟨l,rfl,(h4' l hl').1,(h4' l hl').2,?_⟩;rfl';exact hM
 rfl';have hC:=hB.cd;rw[show (bk.map fun l=>L2.T.lst (wT (wordsOf Cw.fm l)))=(d_ bk).map fun ws=>L2.T.lst (wT ws) by unfold d_;rw[N0];rfl]
 unfold tE rB at q;generalize d_ bk=cd at *;symm;unfold pT;rfl';refine gZ Row.t (fun r=>.str (wd (bE cd r))) rs (by lia) (fun r hr' acc M hM=>?_) ?_
 ·rfl';refine⟨r,rs.length,cd,rfl,h3 r hr',hC,?_⟩;rfl';exact hM
 rfl';symm;rfl';refine⟨rs,rfl,h2,?_⟩;rfl';symm;rfl';refine gZ (fun r=>.str (wd (bE cd r))) (fun r=>.int ((bE cd r).length:Int)) rs (by lia) (fun r hr' acc M hM=>?_) ?_
 ·exists aI;exact⟨Lk (fw hC (h3 r hr')) (by decide),hM⟩
 rfl';ac_rfl;rw[show (rs.map fun r=>L2.T.int ((bE cd r).length:Int))=nN (gq cd rs) by unfold nN gq;rw[N0];rfl]
 have sl1:(gq cd rs).length=rs.length:=Lb ..;have gl1:(rs.map ax).length=rs.length:=Lb ..;have sb:∀ s∈gq cd rs,s<=150:=fun s hs=>by
  obtain⟨r,hr',rfl⟩:=L6.mp hs;have:=fw hC (h3 r hr');lia
 have gb:∀ t,some t∈rs.map ax->t<=(gq cd rs).length:=fun t ht=>by
  obtain⟨r,hr',e⟩:=L6.mp ht;rw[sl1];exact mN (h3 r hr') e
 refine ao fun N hN=>?_;rfl';refine⟨gq cd rs,rs.map ax,ws,rfl,by rw[gl1,sl1],by rw[h1,sl1],by rw[sl1];exact h2,sb,gb,h4,?_⟩
 rfl';ac_rfl;have wl:=sX (gq cd rs) (rs.map ax) ws;have wt:=qF (ss:=gq cd rs) (gs:=rs.map ax) h4;rw[h1] at wl;generalize j6 (gq cd rs) (rs.map ax) ws=w' at *;refine ao fun N hN=>?_;rfl';refine⟨gq cd rs,rs.map ax,w',rfl,by rw[gl1,sl1],by rw[wl,sl1],by rw[sl1];exact h2,wt,?_⟩
 rfl';ac_rfl;have spl:=iQ (gq cd rs) (rs.map ax) w' 0 (by rw[gl1,sl1]) (by rw[wl,sl1])
 rw[sl1] at spl;have spb:=fun i=>rj (gs:=rs.map ax) (ws:=w') sb i;generalize fk 0 (gq cd rs) (rs.map ax) w'=sp at *;refine ao fun N hN=>?_;rfl';symm;exists Lb;refine⟨by lia,by lia,?_⟩
 rw[LI,MS,gG];refine bD (fun rest μ=>∃(i:Nat) (x:List Nat) (o9 o10 o11:Option L2.T),(rest=(List.range' i (rs.length-i)).map fun k:Nat=>L2.T.int (0+(k:Int)))/\i<=rs.length/\x++r_ cd sp i (rs.drop i) (w'.drop i)=r_ cd sp 0 rs w'/\x.length<=200*i/\μ=[.tr (.tup (rs.map Row.t)),.tr (.tup (bk.map fun l=>.tup (nI l))),.tr (.lst (nN w')),.tr (.lst (cd.map fun ws=>.lst (wT ws))),.tr (.lst (rs.map fun r=>.str (wd (bE cd r)))),.tr (.lst (nO (rs.map ax))),.tr (.lst (nN (gq cd rs))),.tr (.lst (nN sp)),.tr (.str (wd x)),sl o9,sl o10,sl o11]) ⟨0,[],none,none,none,rfl,LH _,rfl,LH _,rfl⟩ ?_ ?_
 ·rintro μ ⟨i,x,o9,o10,o11,e1,hi,ex,_,rfl⟩;have e2:i=rs.length:=by
   have:=L0 List.length e1;rw[Lb,Nn,LC] at this;lia
  subst e2;rw[N1] at ex;have ex':x=r_ cd sp 0 rs w':=by rw[<- ex];unfold r_;exact (L8 x).symm
  show N _;ac_rfl;exists nJ;rw[ex',show (nN sp).dropLast=nN sp.dropLast from List.map_dropLast.symm];exact⟨by decide,q⟩
 ·rintro t ts μ M ⟨i,x,o9,o10,o11,e1,hi,ex,hx,rfl⟩ kk;have hlt:i<rs.length:=by
   have:=L0 List.length e1;rw[Lb,Nn,Lf] at this;lia
  rw[show rs.length-i=(rs.length-(i+1))+1 by lia,MZ,L3] at e1
  obtain⟨rfl,rfl⟩:=List.cons.inj e1;rw[show (0:Int)+((i:Nat):Int)=(i:Int) from Int.zero_add _];have er:=KW hlt;have ew:=KW (show i<w'.length by lia)
  have lw:=wt _ (L1 (show i<w'.length by lia))
  have okr:=h3 _ (L1 hlt);rw[LL hlt,LL (show i<w'.length by lia),r_] at ex
  generalize rs[i]'_=r at *;generalize w'[i]'_=w0 at *;have ap:aY (rs.map fun r=>L2.T.str (wd (bE cd r))) (i:Int)=some (.str (wd (bE cd r))):=aW (by rw[Lr,er];rfl)
  have ag:aY (nO (rs.map ax)) (i:Int)=some (oI (ax r)):=Ce (by rw[Lr,er];rfl)
  have aw:=lI ew;have h136:=fw hC okr;have fin:∀(o10 o11:Option L2.T),(qu sp i w0 (ax r)).length<=18->M [.tr (.tup (rs.map Row.t)),.tr (.tup (bk.map fun l=>.tup (nI l))),.tr (.lst (nN w')),.tr (.lst (cd.map fun ws=>.lst (wT ws))),.tr (.lst (rs.map fun r=>.str (wd (bE cd r)))),.tr (.lst (nO (rs.map ax))),.tr (.lst (nN (gq cd rs))),.tr (.lst (nN sp)),.tr (.str (wd (x++bE cd r++qu sp i w0 (ax r)))),.tr (.int (i:Int)),sl o10,sl o11]:=fun o10 o11 hj=>kk _ ⟨i+1,x++bE cd r++qu sp i w0 (ax r),some _,o10,o11,rfl,by lia,by rw[<- ex];simp,by rw[KY,KY];lia,rfl⟩
  clear kk ex;rfl';refine ao fun M' hM=>?_;exists ap;rw[fM,aI,aI];refine⟨Lk (show _<=20000 by lia) (by decide),hM _ ?_⟩;clear hM M'
  cases eg:ax r with
  |none =>
   rw[eg] at ag fin;unfold oI at ag;exists ag;have:=fin o10 o11 (LH _);rw[show qu sp i w0 none=[] from rfl,L8] at this;exact this
  |some g =>
   rw[eg] at ag fin;unfold oI at ag;have hg:g<=rs.length:=mN okr eg;have as1:aY (nN sp) (g:Int)=some (.int (sp.getD g 0:Int)):=lI (by rw[Lp,KW (show g<sp.length by lia)];rfl)
   have as2:aY (nN sp) ((i:Int)+1)=some (.int (sp.getD (i+1) 0:Int)):=by
    rw[show (i:Int)+1=((i+1:Nat):Int) from rfl];exact lI (by rw[Lp,KW (show i+1<sp.length by lia)];rfl)
   have p1:aY [L2.T.int 16,.int 256,.int 65536] (w0:Int)=some (.int (2^a_ w0)):=by rcases rQ lw with rfl|rfl|rfl<;>rfl
   have p2:aY [L2.T.str (Str.ofString "0"),.str (Str.ofString "10"),.str (Str.ofString "11")] (w0:Int)=some (.str (wd (aV w0))):=by
    rcases rQ lw with rfl|rfl|rfl
    ·exact L0 (fun z=>some (L2.T.str z)) (by decide +kernel)
    ·exact L0 (fun z=>some (L2.T.str z)) (by decide +kernel)
    ·exact L0 (fun z=>some (L2.T.str z)) (by decide +kernel)
   have p3:aY [L2.T.int 4,.int 8,.int 16] (w0:Int)=some (.int (a_ w0:Int)):=by rcases rQ lw with rfl|rfl|rfl<;>rfl
   have p4:0<a_ w0/\a_ w0<=16/\(aV w0).length<=2:=by rcases rQ lw with rfl|rfl|rfl<;>decide
   exists ag;refine ao fun M' hM=>?_;exists aw,p1;refine⟨by decide,hM _ ?_⟩;clear hM M'
   refine ao fun M' hM=>?_;exists ag,as1,as2;refine⟨Int.pow_pos (by decide),hM _ ?_⟩;clear hM M'
   exists aw,p2,p3;rw[fM,aI,aI];have hxl:(x++bE cd r).length<=13000:=by rw[KY];lia
   have ll:(aU (fF sp g i) (a_ w0) []).length=a_ w0:=by rw[bO];rfl
   refine⟨by decide,Lk (show _<=20000 by lia) (by decide),by decide,_,a_ w0,rfl,by lia,?_⟩
   rw[kW];rfl';rw[fM,aI,aI];have hfin:=fin (some (.int (2^a_ w0))) (some (.int (((sp.getD g 0:Int)-(sp.getD (i+1) 0:Int)) % 2^a_ w0))) (by show (cu w0 (fF sp g i)).length<=18;unfold cu;rw[KY,ll];lia)
   rw[show x++bE cd r++qu sp i w0 (some g)=x++bE cd r++aV w0++aU ((sp.getD g 0:Int)-(sp.getD (i+1) 0:Int)) (a_ w0) [] by show x++bE cd r++(aV w0++aU (fF sp g i) (a_ w0) [])=_;rw[Ls (x++bE cd r)];rfl] at hfin
   refine⟨Lk (show _<=20000 by rw[KY];unfold fF at ll;lia) (by decide),hfin⟩
theorem yU{w:Nat}(h:w<3)(d:Int):(cu w d).length=Ib w:=by
 unfold cu;rw[KY,bO];rcases rQ h with rfl|rfl|rfl<;>rfl
theorem kO(cd:List (List (List Nat)))(r:Row)(w:Nat)(d:Int):b8 cd r w d=bE cd r++(match ax r with|none=>[]|some _=>cu w d):=by
 rw[jx];unfold b8 uH
 cases r<;>simp[Row.bt,Row.fj,Pr.bits,lj,ax]
noncomputable def kh(sp:List Nat)(r:Row):Row:=r.to (match ax r with|none=>0|some t=>sp.getD t 0)
theorem Dk(cd:List (List (List Nat)))(r:Row)(w p:Nat)(d:Int)(g:Nat)(h:∀ t,ax r=some t->((p+(b8 cd r w d).length:Nat):Int)+d=(g:Int)):L2.T.tup (.str r.wd::Fm cd (p+(bV cd (0,r.wi)).length) (r.bt w d))=(r.to g).t:=by
 cases r with
 |put b n=>rfl
 |two u a b=>rfl
 |one u b=>rfl
 |halt=>rfl
 |jump t =>
  have h:=h t rfl;unfold b8 at h;rw[KY] at h;show L2.T.tup [.str _,.int _]=L2.T.tup [.str _,.int _];congr 4;rw[<- h];show ((p+_+(cu w d).length:Nat):Int)+d=((p+(_+(uH cd [.goal w d]).length):Nat):Int)+d;unfold uH;rw[Mv,Pn,L8,MM];rfl
 |zero b t =>
  have h:=h t rfl;unfold b8 at h;rw[KY] at h;show L2.T.tup [.str _,.str _,.int _]=L2.T.tup [.str _,.str _,.int _];congr 5;rw[<- h];show ((p+_+(bV cd (2,b)).length+(cu w d).length:Nat):Int)+d=((p+(_+(uH cd [.box b,.goal w d]).length):Nat):Int)+d;unfold uH;rw[Mv,Mv,Pn,L8,KY];show ((p+_+(bV cd (2,b)).length+(cu w d).length:Nat):Int)+d=((p+(_+((bV cd (2,b)).length+(cu w d).length)):Nat):Int)+d;congr 2;lia
structure Laid (cd:List (List (List Nat))) (rs:List Row) (ws sp z:List Nat):Prop where
 gJ:Cd cd
 pf:∀ w∈cd,Pf w
 len:ws.length=rs.length
 le:rs.length<=64
 ok:∀ r∈rs,r.Ok rs.length
 lt:∀ w∈ws,w<3
 uU:sp=fk 0 (gq cd rs) (rs.map ax) ws
 fit:D4 (gq cd rs) (rs.map ax) ws
 hz:z=r_ cd sp 0 rs ws
section
variable {cd:List (List (List Nat))} {rs:List Row} {ws sp z:List Nat}
theorem Laid.sl(L:Laid cd rs ws sp z):sp.length=rs.length+1:=by
 rw[L.uU,iQ _ _ _ _ (by unfold gq;rw[Lb,Lb]) (by unfold gq;rw[Lb];exact L.len)]
 unfold gq;rw[Lb]
noncomputable def zu(sp:List Nat)(k:Nat)(r:Row):Int:=match ax r with|none=>0|some t=>fF sp t k
theorem Laid.row(L:Laid cd rs ws sp z)(hk:k<rs.length):∃ w,ws[k]?=some w/\w<3/\sp.getD (k+1) 0=sp.getD k 0+(b8 cd rs[k] w (zu sp k rs[k])).length/\r_ cd sp k (rs.drop k) (ws.drop k)=b8 cd rs[k] w (zu sp k rs[k])++r_ cd sp (k+1) (rs.drop (k+1)) (ws.drop (k+1))/\∀ x∈rs[k].bt w (zu sp k rs[k]),x.Ok:=by
 have hw:k<ws.length:=by rw[L.len];exact hk
 have ew:=KW hw;have lw:=L.lt _ (L1 hw);have er:=KW hk;have okr:=L.ok _ (L1 hk);refine⟨ws[k],ew,lw,?_,?_,?_⟩
 ·have:=wy (gq cd rs) (rs.map ax) ws 0 k (bE cd rs[k]).length (ax rs[k]) ws[k] (by unfold gq;rw[Lr,er];rfl) (by rw[Lr,er];rfl) ew
  rw[<- L.uU] at this;rw[this,kO,KY,MM];congr 2
  cases e:ax rs[k] with
  |none=>rfl
  |some t=>exact (yU lw _).symm
 ·rw[LL hk,LL hw,r_,kO];congr 2;unfold qu zu
  cases e:ax rs[k] with
  |none=>rfl
  |some t=>rfl
 ·intro x hx;unfold Row.bt at hx;obtain⟨p,hp,rfl⟩:=L6.mp hx;have:=Row.qH okr p hp
  cases p with
  |box b=>exact this
  |num n=>exact this
  |goal n =>
   have:∃ t,ax rs[k]=some t:=by
    cases c:rs[k] with
    |jump t=>exact⟨t,rfl⟩
    |zero b t=>exact⟨t,rfl⟩
    |put=>rw[c] at hp;simp[Row.fj] at hp
    |two=>rw[c] at hp;simp[Row.fj] at hp
    |one=>rw[c] at hp;simp[Row.fj] at hp
    |halt=>rw[c] at hp;simp[Row.fj] at hp
   obtain⟨t,et⟩:=this;have hf:=L.fit k t ws[k] (by rw[Lr,er];exact L0 some et) ew
   rw[<- L.uU] at hf;unfold v8 at hf;rw[LQ] at hf;unfold zu;rw[et];exact⟨lw,Mf hf.1,Mf hf.2⟩
theorem Laid.at(L:Laid cd rs ws sp z):∀ k,k<=rs.length->z.drop (sp.getD k 0)=r_ cd sp k (rs.drop k) (ws.drop k)/\sp.getD k 0<=z.length
 |0,_=>by
  have e:sp.getD 0 0=0:=by
   rw[L.uU];obtain⟨l,e⟩:=oZ 0 (gq cd rs) (rs.map ax) ws;rw[e];rfl
  rw[e,Nx];exact⟨L.hz,LH _⟩
 |k+1,hk=>by
  obtain⟨h1,h2⟩:=L.at k (by lia)
  obtain⟨w,_,_,e1,e2,_⟩:=L.row (show k<rs.length by lia)
  rw[e2] at h1;have hl:=L0 List.length h1;rw[LS,KY] at hl;refine⟨?_,by lia⟩
  rw[e1,<- NP,h1,Ny]
theorem Laid.pos(L:Laid cd rs ws sp z){w:Nat}{d:Int}(hk:k<rs.length):0<(b8 cd rs[k] w d).length:=by
 have g0:=L.gJ.at (p:=(0,rs[k].wi)) (.inl ⟨rfl,rs[k].lG⟩);obtain⟨c0,c1,c2,e,l0,l1,l2⟩:=L.gJ.ex;have hne:bV cd (0,rs[k].wi)≠[]:=by
  refine (L.pf c0 (by rw[e];simp)).ne _ ?_
  have:=g0.2.1;rw[e] at this ⊢;exact LW this
 unfold b8;rw[KY];have:=O8.mpr hne;lia
theorem Laid.up(L:Laid cd rs ws sp z)(hk:k<rs.length):sp.getD k 0<sp.getD (k+1) 0:=by
 obtain⟨w,_,_,e1,_⟩:=L.row hk;have:=L.pos (w:=w) (d:=zu sp k rs[k]) hk;lia
theorem Laid.mono(L:Laid cd rs ws sp z):∀(i d:Nat),i+d+1<=rs.length->sp.getD i 0<sp.getD (i+d+1) 0
 |i,0,h=>L.up (by lia)
 |i,d+1,h=>MW (L.mono i d (by lia)) (L.up (show i+d+1<rs.length by lia))
theorem Laid.nd(L:Laid cd rs ws sp z):(sp.map fun k:Nat=>(k:Int)).Nodup:=by
 unfold List.Nodup;rw[MB,MT];intro i j hi hj hij e;have sl:=L.sl;have:=L.mono i (j-i-1) (by lia)
 rw[show i+(j-i-1)+1=j by lia] at this
 rw[Lp,Lp,KW hi,KW hj] at this;simp only[Option.getD_some] at this;lia
theorem Laid.last(L:Laid cd rs ws sp z):z.length=sp.getD rs.length 0:=by
 obtain⟨h1,h2⟩:=L.at rs.length (Lj _);rw[N1] at h1;have hl:=L0 List.length h1;rw[LS,show (r_ cd sp rs.length [] (ws.drop rs.length)).length=0 by unfold r_;rfl] at hl
 lia
theorem Laid.KR(L:Laid cd rs ws sp z):z.length<=20000:=by
 rw[L.last,L.uU];have:=rj (ss:=gq cd rs) (gs:=rs.map ax) (ws:=ws) (fun s hs=>by
  obtain⟨r,hr,rfl⟩:=L6.mp hs;have:=fw L.gJ (L.ok r hr)
  lia) rs.length
 have l:(gq cd rs).length=rs.length:=Lb ..;have:=L.le;lia
end
theorem sL{f:α->L2.T}:∀{ks:List Int} {xs:List α} {i:Nat} {k:Int} {x:α},ks.Nodup->ks[i]?=some k->xs[i]?=some x->cR (.inl k:Key) (ks.map .inl) (xs.map f)=some (f x)
 |[],_,_,_,_,_,h,_=>by simp at h
 |_::_,[],_,_,_,_,_,h=>by simp at h
 |k::ks,x::xs,0,k',x',_,h1,h2=>by
  simp at h1 h2;subst h1;subst h2;show (if _ then _ else _)=_
  rw[Li rfl]
 |k::ks,x::xs,i+1,k',x',hn,h1,h2=>by
  have hm:k'∈ks:=LW (by simpa using h1)
  obtain⟨n1,n2⟩:=LP.mp hn;show (if (Sum.inl k:Key)=Sum.inl k' then _ else _)=_
  rw[Lc (fun e=>n1 (by rw[Sum.inl.inj e];exact hm))]
  exact sL n2 (by simpa using h1) (by simpa using h2)
theorem rX(a:α->Int)(b:α->L2.T):∀ l:List α,Iu (l.map a) (l.map b)=l.map fun x=>.tup [.int (a x),b x]
 |[]=>rfl
 |x::l=>L0 (_::·) (rX a b l)
theorem nj{β:Type}(a:α->L2.T)(b:β->L2.T):∀(l:List α) (m:List β),pG (l.map a) (m.map b)=(l.zip m).map fun p=>.tup [a p.1,b p.2]
 |[],_=>rfl
 |_::_,[]=>rfl
 |x::l,y::m=>L0 (_::·) (nj a b l m)
theorem wA(sp:List Nat):pairs (nN sp)=(List.range sp.length).map fun i:Nat=>.tup [.int (i:Int),.int (sp.getD i 0:Int)]:=by
 unfold pairs;rw[gy];refine List.map_congr_left fun i hi=>?_;have hi':i<sp.length:=Mx.mp hi;unfold nN;rw[Lr,Lp,KW hi'];rfl
theorem n4(sp:List Nat):((List.range sp.length).map fun i:Nat=>(sp.getD i 0:Int))=sp.map fun k:Nat=>(k:Int):=by
 refine MG (by simp) fun i h1 h2=>?_
 have hi':i<sp.length:=by simpa using h2
 rw[Oe,Oe,OK,Lp,KW hi'];rfl
theorem wQ(sp:List Nat){r:Row}{t g:Nat}(h:ax r=some t):(kh sp r).to t=r/\ax (kh sp r)=some (sp.getD t 0):=by
 cases r<;>cases h<;>exact⟨rfl,rfl⟩
theorem xb(sp:List Nat){r:Row}(h:ax r=none):(kh sp r).to 0=r/\ax (kh sp r)=none:=by
 cases r<;>first|exact⟨rfl,rfl⟩|cases h
noncomputable def y4:dG:=fun args Q=>∃(bk:List (List Int)) (rs:List Row) (ws sp z:List Nat),args=[.str (wd z),Bt bk]/\Bk bk/\Laid (d_ bk) rs ws sp z/\Q (.tr (pT rs)) []
abbrev k17z(P w K mg base):=ae P w K mg base aX 7 "read_rows" ["bits","book"] (spT K [false,false] y4)
theorem vY(T:Txt K mg)(F:HasFn K mg "read_rows" cg ["bits","book"])(hcodes_of:ae P w K mg base aX 6 "codes_of" ["book"] (spT K [false] y8))(hrow_at:k10z P w K mg base)(hgoal_numbered:k5z P w K mg base):k17z P w K mg base:=by
 refine F.gC bQ [false,false] rfl (by decide) ?_;left;obtain⟨bk,rs,ws,sp,z,rfl,hB,L,q⟩:=h;refine⟨_,(Y.ab (Y.vg (i:=2) bQ.nd rfl (by right) (Y.fn K rfl hcodes_of (hr.mono (by decide)) rfl ay (Y.cons (Y.vS 1) Y.nil)))
   (Y.ab (Y.set (i:=3) bQ.nd rfl (by right) (Y.lst Y.nil))
   (Y.ab (Y.set (i:=4) bQ.nd rfl (by right) (Y.lst (Y.cons Y.int Y.nil)))
   (Y.ab (Y.m5 LR (Y.bg kC Y.fH (Y.ix (Y.aB K rfl) Y.af (Y.vS 4) (Y.neg Y.int)) (Y.cb (Y.aH K rfl) Y.ba rfl T.cG (by decide +kernel) (Y.cons (Y.vS 0) Y.nil))) (Y.ab (Y.set (i:=5) bQ.nd rfl (by right) (Y.fn K rfl hrow_at (hr.mono (by decide)) rfl ay (Y.cons (Y.vS 2) (Y.cons (Y.vS 0) (Y.cons (Y.ix (Y.aB K rfl) Y.af (Y.vS 4) (Y.neg Y.int)) Y.nil)))))
   (Y.ab (Y.eJ (Y.bg d7 Y.dB (Y.vS 5) Y.aC) (Y.az Y.mf) Y.b6)
   (Y.ab (Y.expr (Y.bm K rfl PySem.F.slot_list_append PySem.F.type_list_append e9 Y.fW (Y.vS 3) (Y.cons (Y.ix (Y.aB K rfl) Y.af (Y.vS 5) Y.int) Y.nil)))
   (Y.az (Y.expr (Y.bm K rfl PySem.F.slot_list_append PySem.F.type_list_append e9 Y.fW (Y.vS 4) (Y.cons (Y.ix (Y.aB K rfl) Y.af (Y.vS 5) Y.int) Y.nil))))))))
   (Y.ab (Y.gK 3 (Y.gK 4 (Y.vg (i:=6) bQ.nd rfl (by right) (Y.ct (Y.qO K rfl) Y.x_ rfl T.Ex (by decide +kernel) (Y.cons (Y.rm K rfl (osc:=aa cg) (ON:=["bits","book","codes","rows","starts","found","numbers"]) (own:=["number","start"]) (N:=["number","start","bits","book","codes","rows","starts","found","numbers"]) ⟨rfl,by decide +kernel,rfl,by decide +kernel,by decide +kernel,by decide +kernel,by decide +kernel,by decide +kernel⟩ rfl rfl rfl rfl (Y.Gx K rfl rfl T.fB (Y.cons (Y.vS 4) Y.nil)) (fun _ _ _ _=>(Z.vh (n:=2) K rfl rfl (Z.bJ (Z.aK (i:=0) (show List.Nodup (["number","start","bits","book","codes","rows","starts","found","numbers"]:List Str) by decide +kernel) rfl (by right)) (Z.bJ (Z.aK (i:=1) (show List.Nodup (["number","start","bits","book","codes","rows","starts","found","numbers"]:List Str) by decide +kernel) rfl (by right)) Z.g_)))) (fun _ _ _ _=>Y.pI) (fun _ _ _ _=>(Y.tup (Y.cons (Y.vS 1) (Y.cons (Y.vS 0) Y.nil))))) Y.nil)))))
   (Y.az (Y.ret (Y.ct (Y.cJ K rfl) Y.dz rfl T.cZ (by decide +kernel) (Y.cons (Y.rm K rfl (osc:=aa cg) (ON:=["bits","book","codes","rows","starts","found","numbers"]) (own:=["row","start"]) (N:=["row","start","bits","book","codes","rows","starts","found","numbers"]) ⟨rfl,by decide +kernel,rfl,by decide +kernel,by decide +kernel,by decide +kernel,by decide +kernel,by decide +kernel⟩ rfl rfl rfl rfl (Y.zip2 K rfl rfl T.yY (Y.cons (Y.vS 3) (Y.cons (Y.vS 4) Y.nil))) (fun _ _ _ _=>(Z.vh (n:=2) K rfl rfl (Z.bJ (Z.aK (i:=0) (show List.Nodup (["row","start","bits","book","codes","rows","starts","found","numbers"]:List Str) by decide +kernel) rfl (by right)) (Z.bJ (Z.aK (i:=1) (show List.Nodup (["row","start","bits","book","codes","rows","starts","found","numbers"]:List Str) by decide +kernel) rfl (by right)) Z.g_)))) (fun _ _ _ _=>Y.pI) (fun _ _ _ _=>(Y.fn K rfl hgoal_numbered (hr.mono (by decide)) rfl ay (Y.cons (Y.vS 0) (Y.cons (Y.vS 1) (Y.cons (Y.vS 8) Y.nil)))))) Y.nil))))))))),?_⟩
 have hzl:=L.KR;have sl1:=L.sl;refine ao fun N hN=>?_;rfl';refine⟨bk,rfl,hB,?_⟩;rfl';ac_rfl;generalize d_ bk=cd at *;refine ao fun N hN=>?_;rfl';symm;rfl';refine⟨by decide,hN _ ?_⟩;clear hN N
 refine ao fun N hN=>?_;refine⟨fun m μ=>∃(k:Nat) (o5:Option L2.T),k<=rs.length/\m=rs.length-k/\μ=[.tr (.str (wd z)),.tr (Bt bk),.tr (.lst (cd.map fun ws=>.tup (wT ws))),.bx (.lst ((rs.take k).map fun r=>(kh sp r).t)),.bx (.lst (nN (sp.take (k+1)))),sl o5,.un],⟨_,0,none,LH _,rfl,?_⟩,?_⟩
 ·have e0:=L.at 0 (LH _);have:sp.take 1=[0]:=by
   rw[L.uU];obtain⟨l,e⟩:=oZ 0 (gq cd rs) (rs.map ax) ws;rw[e];rfl
  rw[this];rfl
 rintro m μ ⟨k,o5,hk,rfl,rfl⟩;have es:aY (nN (sp.take (k+1))) (-1)=some (.int (sp.getD k 0:Int)):=by
  rw[show sp.take (k+1)=sp.take k++[sp.getD k 0] by rw[OF,KW (show k<sp.length by lia),Lp,KW (show k<sp.length by lia)];rfl,j3]
  exact tI _ _
 rcases Ma k rs.length with hlt|hge
 ·obtain⟨w0,_,lw,e1,e2,aJ⟩:=L.row hlt;have c:(sp.getD k 0:Int)<(z.length:Int):=by
   have h1:=(L.at k (by lia)).1
   rw[e2] at h1;have h2:=L0 List.length h1;rw[LS,KY] at h2;have:=L.pos (w:=w0) (d:=zu sp k rs[k]) hlt;lia
  exists es,aI,Li c;refine⟨Lk hzl (by decide),?_⟩
  refine ao fun M hM=>?_;exists es;refine⟨cd,z,sp.getD k 0,rs[k],w0,zu sp k rs[k],rfl,L.gJ,L.pf,aJ,by lia,?_,?_⟩
  ·rw[(L.at k (by lia)).1,e2];exact Mi _ _
  rw[Dk cd rs[k] w0 (sp.getD k 0) (zu sp k rs[k]) (match ax rs[k] with|none=>0|some t=>sp.getD t 0) (fun t et=>by
   rw[<- e1];unfold zu;rw[et];unfold fF;show _+(_-_)=((sp.getD t 0:Nat):Int)
   lia),<- e1]
  rw[show rs[k].to (match ax rs[k] with|none=>0|some t=>sp.getD t 0)=kh sp rs[k] from rfl]
  rfl';refine hM _ ?_;clear hM M;refine ao fun M hM=>?_;rfl';refine hM _ ?_;clear hM M;refine ao fun M hM=>?_;exists Lb;refine⟨LX (show _<=64 by rw[L7];have:=L.le;lia) (by decide),hM _ ?_⟩;clear hM M
  exists gy;refine⟨LX (show _<=65 by rw[L7];have:=L.le;lia) (by decide),rs.length-(k+1),by lia,k+1,some (.tup [(kh sp rs[k]).t,.int (sp.getD (k+1) 0:Int)]),hlt,rfl,?_⟩
  rw[show rs.take (k+1)=rs.take k++[rs[k]] by rw[OF,KW hlt];rfl,L5]
  rw[show sp.take (k+1+1)=sp.take (k+1)++[sp.getD (k+1) 0] by rw[OF (i:=k+1),KW (show k+1<sp.length by lia),Lp,KW (show k+1<sp.length by lia)];rfl,j3 (sp.take (k+1))]
  rfl
 ·have hkn:k=rs.length:=by lia
  subst hkn;have c:¬ (sp.getD rs.length 0:Int)<(z.length:Int):=by rw[L.last];lia
  exists es,aI,Lc c;refine⟨Lk hzl (by decide),hN _ ?_⟩;clear hN N
  rw[Od,Mm (show sp.length<=rs.length+1 by lia)]
  refine ao fun N hN=>?_;rfl';rw[wA];have s66:sp.length<=65:=by have:=L.le;lia
  have e2:∀{α:Type} (a b:α),[a,b].length<=sizeLine:=fun a b=>show 2<=sizeLine by decide
  refine gZ (fun i:Nat=>L2.T.tup [.int (i:Int),.int (sp.getD i 0:Int)]) (fun i:Nat=>.tup [.int (sp.getD i 0:Int),.int (i:Int)]) (List.range sp.length) (by rw[Lz];lia) (fun i hi acc M hM=>?_) ?_
  ·rfl';exact⟨by decide,hM⟩
  rfl';refine⟨(List.range sp.length).map fun i:Nat=>(sp.getD i 0:Int),(List.range sp.length).map fun i:Nat=>.int (i:Int),(rX _ _ _).symm,by rw[Lb,Lb],?_,by rw[Lb,Lz];lia,?_⟩
  ·rw[n4];exact L.nd
  rfl';ac_rfl;rfl';rw[show nN sp=sp.map fun k:Nat=>L2.T.int (k:Int) from rfl,nj];refine gZ (fun p:Row×Nat=>L2.T.tup [(kh sp p.1).t,.int (p.2:Int)]) (fun p:Row×Nat=>p.1.t) (rs.zip sp) (by rw[ND];have:=L.le;lia) (fun p hp acc M hM=>?_) ?_
  ·have hr':=L.ok p.1 (Oq hp).1;rfl'
   cases e:ax p.1 with
   |none =>
    refine⟨kh sp p.1,(p.2:Int),_,_,0,rfl,(fun a ha=>by rw[(xb sp e).2] at ha;cases ha),?_⟩
    rw[(xb sp e).1];rfl';exact hM
   |some t =>
    have ht:t<sp.length:=by have:=mN hr' e;lia
    refine⟨kh sp p.1,(p.2:Int),_,_,t,rfl,fun a ha=>?_,?_⟩
    ·rw[(wQ (g:=0) sp e).2] at ha;cases ha;exact sL (i:=t) (by rw[n4];exact L.nd) (by rw[Lr,Md ht];rfl) (by rw[Md ht])
    ·rw[(wQ (g:=0) sp e).1];rfl';exact hM
  rw[show ((rs.zip sp).map fun p:Row×Nat=>p.1.t)=rs.map Row.t by rw[<- Pj (l₁:=rs) (l₂:=sp) (by lia),N0,Pj (by lia)];rfl]
  rfl';exact q
theorem og{bk:List (List Int)}{rs:List Row}(hB:Bk bk)(h1:ws.length=rs.length)(h2:rs.length<=64)(h3:∀ r∈rs,r.Ok rs.length)(h4:∀ w∈ws,w<3):∃ w' sp,Laid (d_ bk) rs w' sp (tE bk rs ws):=by
 have sl1:(gq (d_ bk) rs).length=rs.length:=Lb ..;refine⟨j6 (gq (d_ bk) rs) (rs.map ax) ws,_,hB.cd,sv hB,by rw[sX];exact h1,h2,h3,qF h4,rfl,?_,rfl⟩
 refine AD (fun s hs=>?_) (by rw[sl1];exact h2) (by rw[sl1];exact h1) h4
 obtain⟨r,hr,rfl⟩:=L6.mp hs;have:=fw hB.cd (h3 r hr);lia
theorem xw{bk:List (List Int)}(hB:Bk bk):Laid (d_ bk) [] [] [0] []:=⟨hB.cd,sv hB,rfl,LH _,fun r h=>(nomatch h),fun r h=>(nomatch h),rfl,fun k t w h=>by simp at h,rfl⟩
theorem zD{rs:List Row}(h:rs.length<=64):Dp 2 (pT rs):=by
 refine .inr ⟨_,rfl,by rw[Lb];lia,fun u hu=>?_⟩
 obtain⟨r,_,rfl⟩:=L6.mp hu;refine .inr ⟨_,rfl,?_,fun v hv=>?_⟩
 ·cases r<;>simp[Row.ps]
 ·obtain⟨x,_,rfl⟩:=L6.mp hv
  cases x<;>exact trivial
theorem C_(T:Txt K mg)(F:CK K "law" "law" f9 f fd)(h_law_deck:ae P w K mg base aX 1 "_law_deck" ["script"] (spT K [false] CC))(h_law_book:ae P w K mg base aX 4 "_law_book" ["deck"] (spT K [true] Cm))(h_law_program:k13z P w K mg base)(h_law_draw:k0z P w K mg base)(h_law_packed:k6z P w K mg base)(hread_rows:k17z P w K mg base)(h_law_same:k12z P w K mg base):dZ P w K mg base aX 8 f fd ["script"] (lD K):=by
 refine CV (A0 F f7 [false] rfl (by decide) (fun args Qt hl h cdv A outer s H E hr=>?_))
 have hu:=aZ hr;obtain⟨ns,rfl,hn,q⟩:=h;refine⟨_,(Y.ab (Y.set (i:=1) f7.nd rfl (by right) (Y.fn K rfl h_law_deck (hr.mono (by decide)) rfl ay (Y.cons (Y.vS 0) Y.nil)))
   (Y.ab (Y.gg LR rfl (Y.jV rfl T.cY (Y.cons Y.int Y.nil)) (Y.aK (i:=2) f7.nd rfl (by right)) (Y.ab (Y.set (i:=3) f7.nd rfl (by right) (Y.fn K rfl h_law_book (hr.mono (by decide)) rfl ay (Y.cons (Y.vS 1) Y.nil)))
   (Y.ab (Y.set (i:=4) f7.nd rfl (by right) (Y.fn K rfl h_law_program (hr.mono (by decide)) rfl ay (Y.cons (Y.vS 1) (Y.cons (Y.ix (Y.aB K rfl) Y.af (Y.lst (Y.bw rfl rfl)) (Y.fn K rfl h_law_draw (hr.mono (by decide)) rfl ay (Y.cons (Y.vS 1) (Y.cons Y.int Y.nil)))) Y.nil))))
   (Y.ab (Y.set (i:=5) f7.nd rfl (by right) (Y.ix (Y.aB K rfl) Y.af (Y.lst (Y.bw rfl rfl)) (Y.fn K rfl h_law_draw (hr.mono (by decide)) rfl ay (Y.cons (Y.vS 1) (Y.cons Y.int Y.nil)))))
   (Y.ab (Y.qd (j:=6) f7.nd rfl (by right) (osc:=aa f9) (ON:=["script","deck","turn","book","program","wide","widths","bits"]) (own:=["row"]) (N:=["row","script","deck","turn","book","program","wide","widths","bits"]) ⟨rfl,by decide +kernel,rfl,by decide +kernel,by decide +kernel,by decide +kernel,by decide +kernel,by decide +kernel⟩ rfl rfl rfl rfl (Y.anyS K rfl (Y.vS 4)) (fun _ _ _ _=>(Z.aK (i:=0) (show List.Nodup (["row","script","deck","turn","book","program","wide","widths","bits"]:List Str) by decide +kernel) rfl (by right))) (fun _ _ _ _=>Y.pI) (fun _ _ _ _=>(Y.fn K rfl h_law_draw (hr.mono (by decide)) rfl ay (Y.cons (Y.vS 2) (Y.cons (Y.vS 6) Y.nil)))))
   (Y.ab (Y.set (i:=7) f7.nd rfl (by right) (Y.ix (Y.aB K rfl) Y.af (Y.fn K rfl h_law_packed (hr.mono (by decide)) rfl ay (Y.cons (Y.vS 4) (Y.cons (Y.vS 3) (Y.cons (Y.vS 6) Y.nil)))) Y.int))
   (Y.az (Y.eJ (Y.tw (Y.HM (Y.p5 (Y.iK K rfl (Y.fn K rfl h_law_same (hr.mono (by decide)) rfl ay (Y.cons (Y.fn K rfl hread_rows (hr.mono (by decide)) rfl ay (Y.cons (Y.vS 7) (Y.cons (Y.vS 3) Y.nil))) (Y.cons (Y.vS 4) Y.nil))))) (Y.yV (Y.bg (Y.qk K rfl (LA hu)) Y.pB (Y.fn K rfl hread_rows (hr.mono (by decide)) rfl ay (Y.cons Y.str (Y.cons (Y.vS 3) Y.nil))) (Y.tup Y.nil))))) (Y.az (Y.ret Y.bl)) Y.b6))))))))
   (Y.az (Y.ret Y.bl)))),?_⟩
 refine ao fun N hN=>?_;show Y.kg _ _ _ (startM [false] [.e7 (nI ns)] _);rfl';refine⟨ns,rfl,fun d hd=>?_⟩;rfl';symm;rfl';refine⟨by decide,by decide,?_⟩
 refine bD (fun rest μ=>∃(d:L2.T) (n:Nat) (s2 s3 s4 s5 s6 s7:Option L2.T),rest.length+n=2/\dH (2000*n) d/\μ=[.tr (.e7 (nI ns)),.bx d,sl s2,sl s3,sl s4,sl s5,sl s6,sl s7]) ⟨d,0,none,none,none,none,none,none,rfl,hd,rfl⟩ ?_ ?_
 ·rintro μ ⟨d,n,s2,s3,s4,s5,s6,s7,_,_,rfl⟩;show N _;ac_rfl;rfl';exact q
 ·rintro t ts μ M ⟨d,n,s2,s3,s4,s5,s6,s7,e,hd,rfl⟩ k;rw[Lf] at e;rfl';refine ao fun M' hM=>?_;rfl';refine⟨d,_,rfl,hd,by lia,fun bk d1 hd1 hB=>?_⟩
  rfl';refine hM _ ?_;clear hM M';refine ao fun M' hM=>?_;rfl';refine⟨by decide,d1,4,_,rfl,hd1,by lia,by decide,by decide,fun v d2 v0 v1 hd2=>?_⟩
  obtain⟨m4,e4,hm4⟩:∃ m:Nat,aY [L2.T.int 6,.int 14,.int 14,.int 60] v=some (.int (m:Int))/\m<=64:=by
   obtain⟨i,rfl⟩:∃ i:Nat,v=i:=⟨v.toNat,by lia⟩
   have hi:i=0\/i=1\/i=2\/i=3:=by lia
   rcases hi with rfl|rfl|rfl|rfl
   ·exact⟨6,rfl,by decide⟩
   ·exact⟨14,rfl,by decide⟩
   ·exact⟨14,rfl,by decide⟩
   ·exact⟨60,rfl,by decide⟩
  exists e4;refine⟨d2,m4,_,rfl,hd2,by lia,hm4,fun rs d3 hrs aJ hd3=>?_⟩
  rfl';refine hM _ ?_;clear hM M';refine ao fun M' hM=>?_;rfl';refine⟨by decide,d3,2,_,rfl,hd3,by lia,by decide,by decide,fun v d4 v0 v1 hd4=>?_⟩
  obtain⟨wi,ew,w0,w1⟩:∃ m:Int,aY [L2.T.int 1,.int 3] v=some (.int m)/\0<m/\m<=3:=by
   obtain⟨i,rfl⟩:∃ i:Nat,v=i:=⟨v.toNat,by lia⟩
   have hi:i=0\/i=1:=by lia
   rcases hi with rfl|rfl
   ·exact⟨1,rfl,by decide,by decide⟩
   ·exact⟨3,rfl,by decide,by decide⟩
  exists ew;refine hM _ ?_;clear hM M';refine ao fun M' hM=>?_;unfold pT;rfl';have h64:rs.length<=64:=by lia
  refine cO (fun rest acc μ=>∃(ws:List Nat) (d5:L2.T),acc=nN ws/\ws.length+rest.length=rs.length/\(∀ w∈ws,w<3)/\dH (2000*n+1202+ws.length) d5/\μ=[.tr (.e7 (nI ns)),.bx d5,.tr t,.tr (Bt bk),.tr (.tup (rs.map Row.t)),.tr (.int wi),sl s6,sl s7]) ⟨[],d4,rfl,by rw[Lb,LC,M9],fun r h=>(nomatch h),hd4.mono (by simp),rfl⟩ ?_ ?_
  case refine_2 =>
   rintro t' r acc μ M2 ⟨ws,d5,rfl,l1,l2,hd5,rfl⟩ kk;rw[Lf] at l1;refine⟨trivial,by rw[gy];exact Lv (show ws.length<65 by lia) (by decide),?_⟩
   rfl';refine⟨d5,wi,_,rfl,hd5,by lia,w0,by lia,fun v d6 v0 v1 hd6=>?_⟩
   obtain⟨vn,rfl⟩:∃ i:Nat,v=i:=⟨v.toNat,by lia⟩
   rfl';refine kk _ _ ⟨ws++[vn],d6,by rw[j3];rfl,by rw[KY,LD];lia,fun z hz=>?_,by rw[KY,LD];exact hd6.mono (by lia),rfl⟩
   rcases LY.mp hz with hz|hz
   ·exact l2 z hz
   ·rw[Lo.mp hz];lia
  rintro acc μ ⟨ws,d5,rfl,l1,l2,hd5,rfl⟩;rw[LC,NJ] at l1;refine⟨trivial,?_⟩;rfl';refine hM _ ?_;clear hM M';refine ao fun M' hM=>?_;rfl';refine⟨bk,rs,ws,rfl,hB,l1,h64,aJ,l2,?_⟩;rfl';refine hM _ ?_;clear hM M';obtain⟨w',sp,L⟩:=og hB l1 h64 aJ l2;generalize tE bk rs ws=z at *;rfl';refine⟨bk,rs,w',sp,z,rfl,hB,L,?_⟩;rfl';refine⟨pT rs,rfl,zD h64,?_⟩;rfl';rw[gG];refine⟨bk,[],[],[0],[],rfl,hB,xw hB,?_⟩;unfold pT;rfl';refine⟨rfl,rfl,?_⟩;rw[Lc (by decide)]
  exact k _ ⟨d5,n+1,some _,some _,some _,some _,some _,some _,by lia,hd5.mono (by lia),rfl⟩
theorem DK(T:Txt K mg)(f_can_be:HasFn K mg "can_be" h_ ["lengths"])(f_code_of:HasFn K mg "code_of" cm ["lengths"])(f_word_behind:HasFn K mg "word_behind" cK ["ahead","length"])(f_thing_at:HasFn K mg "thing_at" eW ["code","bits","place"])(f_goal_of:HasFn K mg "goal_of" fY ["row"])(f_with_goal:HasFn K mg "with_goal" dQ ["row","goal"])(f_codes_of:HasFn K mg "codes_of" d8 ["book"])(f_read_rows:HasFn K mg "read_rows" cg ["bits","book"])(f_goal_numbered:HasFn K mg "goal_numbered" bX ["row","start","numbers"])(f_row_at:HasFn K mg "row_at" hV ["codes","bits","place"])(f_coded_at:HasFn K mg "coded_at" eL ["code","bits","place"])(f_part_at:HasFn K mg "part_at" fU ["kind","codes","bits","place"])(f_number_at:HasFn K mg "number_at" dS ["code","bits","place"])(f_goal_at:HasFn K mg "goal_at" fS ["bits","place"])(l_deck:HasFn K mg "_law_deck" cT ["script"])(l_mix:HasFn K mg "_law_mix" eU ["number","turn"])(l_draw:HasFn K mg "_law_draw" dO ["deck","most"])(l_words:HasFn K mg "_law_words" c_ [])(l_bits:HasFn K mg "_law_bits" dJ ["number","many"])(l_code:HasFn K mg "_law_code" cP ["lengths"])(l_lengths:HasFn K mg "_law_lengths" cB ["deck","many"])(l_book:HasFn K mg "_law_book" cQ ["deck"])(l_number:HasFn K mg "_law_number" cM ["deck"])(l_row:HasFn K mg "_law_row" eQ ["deck","goals"])(l_program:HasFn K mg "_law_program" bI ["deck","most"])(l_goals:HasFn K mg "_law_goals" cA ["program"])(l_plain:HasFn K mg "_law_plain" dh ["row","codes"])(l_spots:HasFn K mg "_law_spots" cX ["sizes","goals","widths"])(l_least:HasFn K mg "_law_least" cW ["sizes","goals","widths"])(l_packed:HasFn K mg "_law_packed" bo ["program","book","widths"])(l_same:HasFn K mg "_law_same" cw ["found","due"])(F:CK K "law" "law" f9 f fd):dZ P w K mg base aX 8 f fd ["script"] (lD K):=by
 have dr:=BA (P:=P) (w:=w) (base:=base) T l_draw (Eh T l_mix);have lb:=xM (P:=P) (w:=w) (base:=base) T l_bits;have sp:=yh (P:=P) (w:=w) (base:=base) T l_spots;have co:=zF (P:=P) (w:=w) (base:=base) T f_code_of (DF T f_can_be) (ur T f_word_behind);have ca:=pX (P:=P) (w:=w) (base:=base) T f_coded_at (vE T f_thing_at);have rd:=vY (P:=P) (w:=w) (base:=base) T f_read_rows (wk T f_codes_of (co.mono (by decide))) (xj T f_row_at ca (ud T f_part_at ca (vK T f_number_at ca) (uJ T f_goal_at ca))) (Bf T f_goal_numbered (AY T f_goal_of) (BN T f_with_goal))
 exact C_ T F (Ac T l_deck) (Ae T l_book dr (zj T l_lengths dr)) (pJ T l_program dr (E7 T l_row dr (uk T l_number dr))) dr (u_ T l_packed (yy T l_code lb) (xm T l_plain (u3 T l_words) lb) (uj T l_goals) (vM T l_least sp) sp lb) rd (zW T l_same)
local macro_rules | `(tactic| walk_at "b1") => `(tactic| (intro _ _ _ _ _ _ us hl; obtain ⟨_, e⟩ := L2.Y.vx hl; subst e; rfl))
theorem gz{st:Stmt}{ps:List Str}{oc:Value}{od an:Option Addr}{osl:Array (Option Value)}{kV doc pm cdv ct:Value}(X:K.In h)(G:h.Ns mainGlobals mg)(a:PySem.W.nsIn K mainGlobals x=some (some (.ref f)))
  (l:K.lookup f=some ⟨oc,od,.func (PySem.W.fnOf x x (dc st) (bP st) (aa st) .none kV doc pm an cdv ct),osl⟩) (c:PySem.W.codeIn K cdv x=true) (k:PySem.W.keepIn K (.ref f)=true)
  (hb:∀(kV doc pm:Value) (an:Option Addr) (cdv ct:Value) (us:List Value),us.length=ps.length->bindArgs (PySem.W.fnOf x x (dc st) (bP st) (aa st) .none kV doc pm an cdv ct) ⟨us,[]⟩=pure (ps.zip us)):HasFn K mg x st ps:=
 ⟨f,_,qz l c k,(qz l c k).binds hb,PySem.W.mg_of X G a⟩
theorem all_mk{l:PySem.W.OpenLaw}{w:World}{fa:Addr}(X:K.In h)(G:h.Ns mainGlobals mg)(hfa:mg "law"=some (.ref fa))
  {f1 f31:Addr} {od1 an1 od31 an31:Option Addr} {sl1 sl31:Array (Option Value)} {oc1 kV1 dc1 pm1 cd1 ct1 oc31 kV31 dc31 pm31 cd31 ct31:Value}
  {q0:Addr} {qd0:Option Addr} {qn0:Nat} {qs0:Array (Option Value)} {w0_0 w0_1 w0_2 w0_3 w0_4 w0_5 w0_6 w0_7:Tok}
  {q1:Addr} {qd1:Option Addr} {qn1:Nat} {qs1:Array (Option Value)} {w1_0 w1_1 w1_2:Tok}
  {q2:Addr} {qd2:Option Addr} {qn2:Nat} {qs2:Array (Option Value)} {w2_0 w2_1 w2_2:Tok}
  {w3_0:Tok}
  {w4_0:Tok}
  {w5_0:Tok}
  {q6:Addr} {qd6:Option Addr} {qn6:Nat} {qs6:Array (Option Value)} {w6_0 w6_1 w6_2:Tok}
  {dd0:Addr} {dh0_ep:Nat} {dh0_0 dh0_1 dh0_2 dh0_3 dh0_4 dh0_5 dh0_6 dh0_7 dh0_8:Int} {dp0_0 dp0_1 dp0_2 dp0_3 dp0_4 dp0_5 dp0_6 dp0_7 dp0_8:Addr} {do0_0 do0_1 do0_2 do0_3 do0_4 do0_5 do0_6 do0_7 do0_8:Option Addr} {dn0_0 dn0_1 dn0_2 dn0_3 dn0_4 dn0_5 dn0_6 dn0_7 dn0_8:Nat} {ds0_0 ds0_1 ds0_2 ds0_3 ds0_4 ds0_5 ds0_6 ds0_7 ds0_8:Array (Option Value)} {dt0_0 dt0_1 dt0_2 dt0_3 dt0_4 dt0_5 dt0_6 dt0_7 dt0_8 dw0_0_0 dw0_0_1 dw0_1_0 dw0_1_1 dw0_2_0 dw0_2_1 dw0_3_0 dw0_3_1 dw0_4_0 dw0_5_0 dw0_6_0 dw0_7_0 dw0_7_1:Tok}
      
  (F0:HasFn K mg "can_be" h_ ["lengths"])
  (a1:PySem.W.nsIn K mainGlobals "code_of"=some (some (.ref f1))) (l1:K.lookup f1=some ⟨oc1,od1,.func (PySem.W.fnOf "code_of" "code_of" (dc cm) (bP cm) (aa cm) .none kV1 dc1 pm1 an1 cd1 ct1),sl1⟩) (c1:PySem.W.codeIn K cd1 "code_of"=true) (k1:PySem.W.keepIn K (.ref f1)=true)
  (F2:HasFn K mg "word_behind" cK ["ahead","length"])
  (F3:HasFn K mg "thing_at" eW ["code","bits","place"])
  (F4:HasFn K mg "goal_of" fY ["row"])
  (F5:HasFn K mg "with_goal" dQ ["row","goal"])
  (F6:HasFn K mg "codes_of" d8 ["book"])
  (F7:HasFn K mg "read_rows" cg ["bits","book"])
  (F8:HasFn K mg "goal_numbered" bX ["row","start","numbers"])
  (F9:HasFn K mg "row_at" hV ["codes","bits","place"])
  (F10:HasFn K mg "coded_at" eL ["code","bits","place"])
  (F11:HasFn K mg "part_at" fU ["kind","codes","bits","place"])
  (F12:HasFn K mg "number_at" dS ["code","bits","place"])
  (F13:HasFn K mg "goal_at" fS ["bits","place"])
  (F14:HasFn K mg "_law_deck" cT ["script"])
  (F15:HasFn K mg "_law_mix" eU ["number","turn"])
  (F16:HasFn K mg "_law_draw" dO ["deck","most"])
  (F17:HasFn K mg "_law_words" c_ [])
  (F18:HasFn K mg "_law_bits" dJ ["number","many"])
  (F19:HasFn K mg "_law_code" cP ["lengths"])
  (F20:HasFn K mg "_law_lengths" cB ["deck","many"])
  (F21:HasFn K mg "_law_book" cQ ["deck"])
  (F22:HasFn K mg "_law_number" cM ["deck"])
  (F23:HasFn K mg "_law_row" eQ ["deck","goals"])
  (F24:HasFn K mg "_law_program" bI ["deck","most"])
  (F25:HasFn K mg "_law_goals" cA ["program"])
  (F26:HasFn K mg "_law_plain" dh ["row","codes"])
  (F27:HasFn K mg "_law_spots" cX ["sizes","goals","widths"])
  (F28:HasFn K mg "_law_least" cW ["sizes","goals","widths"])
  (F29:HasFn K mg "_law_packed" bo ["program","book","widths"])
  (F30:HasFn K mg "_law_same" cw ["found","due"])
  (a31:PySem.W.nsIn K mainGlobals "law"=some (some (.ref f31))) (l31:K.lookup f31=some ⟨oc31,od31,.func (PySem.W.fnOf "law" "law" (dc f9) (bP f9) (aa f9) .none kV31 dc31 pm31 an31 cd31 ct31),sl31⟩) (c31:PySem.W.codeIn K cd31 "law"=true) (k31:PySem.W.keepIn K (.ref f31)=true)
  (z0:PySem.W.nsIn K mainGlobals "abs"=some none)
  (z1:PySem.W.nsIn K mainGlobals "bool"=some none)
  (z2:PySem.W.nsIn K mainGlobals "dict"=some none)
  (z3:PySem.W.nsIn K mainGlobals "enumerate"=some none)
  (z4:PySem.W.nsIn K mainGlobals "int"=some none)
  (z5:PySem.W.nsIn K mainGlobals "isinstance"=some none)
  (z6:PySem.W.nsIn K mainGlobals "len"=some none)
  (z7:PySem.W.nsIn K mainGlobals "list"=some none)
  (z8:PySem.W.nsIn K mainGlobals "min"=some none)
  (z9:PySem.W.nsIn K mainGlobals "range"=some none)
  (z10:PySem.W.nsIn K mainGlobals "sorted"=some none)
  (z11:PySem.W.nsIn K mainGlobals "str"=some none)
  (z12:PySem.W.nsIn K mainGlobals "sum"=some none)
  (z13:PySem.W.nsIn K mainGlobals "tuple"=some none)
  (z14:PySem.W.nsIn K mainGlobals "zip"=some none)
  (g0:PySem.W.nsIn K mainGlobals "BOXES"=some (some (.ref q0))) (m0:K.lookup q0=some ⟨.type "tuple",qd0,.seq #[.str "a" w0_0,.str "b" w0_1,.str "c" w0_2,.str "d" w0_3,.str "e" w0_4,.str "f" w0_5,.str "g" w0_6,.str "h" w0_7] qn0,qs0⟩)
  (g1:PySem.W.nsIn K mainGlobals "HALVES"=some (some (.ref q1))) (m1:K.lookup q1=some ⟨.type "tuple",qd1,.seq #[.int 8 w1_0,.int 128 w1_1,.int 32768 w1_2] qn1,qs1⟩)
  (g2:PySem.W.nsIn K mainGlobals "HEADS"=some (some (.ref q2))) (m2:K.lookup q2=some ⟨.type "tuple",qd2,.seq #[.str "0" w2_0,.str "10" w2_1,.str "11" w2_2] qn2,qs2⟩)
  (g3:PySem.W.nsIn K mainGlobals "OF_BOXES"=some (some (.int 2 w3_0)))
  (g4:PySem.W.nsIn K mainGlobals "OF_CLASSES"=some (some (.int 1 w4_0)))
  (g5:PySem.W.nsIn K mainGlobals "OF_WORDS"=some (some (.int 0 w5_0)))
  (g6:PySem.W.nsIn K mainGlobals "WIDTHS"=some (some (.ref q6))) (m6:K.lookup q6=some ⟨.type "tuple",qd6,.seq #[.int 4 w6_0,.int 8 w6_1,.int 16 w6_2] qn6,qs6⟩)
  (dg0:PySem.W.nsIn K mainGlobals "SHAPES"=some (some (.ref dd0))) (dz0:(dd0 == sysModules)=false) (dl0:K.lookup dd0=some ⟨.type "dict",none,.dict #[⟨dh0_0,.str "put" dt0_0,.ref dp0_0⟩,⟨dh0_1,.str "add" dt0_1,.ref dp0_1⟩,⟨dh0_2,.str "sub" dt0_2,.ref dp0_2⟩,⟨dh0_3,.str "copy" dt0_3,.ref dp0_3⟩,⟨dh0_4,.str "tell" dt0_4,.ref dp0_4⟩,⟨dh0_5,.str "hear" dt0_5,.ref dp0_5⟩,⟨dh0_6,.str "jump" dt0_6,.ref dp0_6⟩,⟨dh0_7,.str "zero" dt0_7,.ref dp0_7⟩,⟨dh0_8,.str "halt" dt0_8,.ref dp0_8⟩] dh0_ep,#[]⟩)
  (dm0_0:K.lookup dp0_0=some ⟨.type "tuple",do0_0,.seq #[.str "box" dw0_0_0,.str "number" dw0_0_1] dn0_0,ds0_0⟩)
  (dm0_1:K.lookup dp0_1=some ⟨.type "tuple",do0_1,.seq #[.str "box" dw0_1_0,.str "box" dw0_1_1] dn0_1,ds0_1⟩)
  (dm0_2:K.lookup dp0_2=some ⟨.type "tuple",do0_2,.seq #[.str "box" dw0_2_0,.str "box" dw0_2_1] dn0_2,ds0_2⟩)
  (dm0_3:K.lookup dp0_3=some ⟨.type "tuple",do0_3,.seq #[.str "box" dw0_3_0,.str "box" dw0_3_1] dn0_3,ds0_3⟩)
  (dm0_4:K.lookup dp0_4=some ⟨.type "tuple",do0_4,.seq #[.str "box" dw0_4_0] dn0_4,ds0_4⟩)
  (dm0_5:K.lookup dp0_5=some ⟨.type "tuple",do0_5,.seq #[.str "box" dw0_5_0] dn0_5,ds0_5⟩)
  (dm0_6:K.lookup dp0_6=some ⟨.type "tuple",do0_6,.seq #[.str "goal" dw0_6_0] dn0_6,ds0_6⟩)
  (dm0_7:K.lookup dp0_7=some ⟨.type "tuple",do0_7,.seq #[.str "box" dw0_7_0,.str "goal" dw0_7_1] dn0_7,ds0_7⟩)
  (dm0_8:K.lookup dp0_8=some ⟨.type "tuple",do0_8,.seq #[] dn0_8,ds0_8⟩)
  (le_code_of:cd1=.ref lc_code_of) (lk_code_of:K.lookup lc_code_of=some ⟨lO_code_of,lD_code_of,.fields lv_code_of,lS_code_of⟩) (lw_code_of:lv_code_of[11]?=some (.ref lp_code_of))
  : ∃ fd:FuncData,(∀(s:Shared) (v:Value),BindsTo s fd ⟨[v],[]⟩ [("script",v)])/\∀ base:Heap,K.In base->base.Ns mainGlobals mg->dZ l.prog w K mg base aX 30 fa fd ["script"] (lD K):=by
 have e:=hfa.symm.trans (PySem.W.mg_of X G a31);cases e
 have T:Txt K mg:=⟨PySem.W.mg_none_of X G z0,PySem.W.mg_none_of X G z1,PySem.W.mg_none_of X G z2,PySem.W.mg_none_of X G z3,PySem.W.mg_none_of X G z4,PySem.W.mg_none_of X G z5,PySem.W.mg_none_of X G z6,PySem.W.mg_none_of X G z7,PySem.W.mg_none_of X G z8,PySem.W.mg_none_of X G z9,PySem.W.mg_none_of X G z10,PySem.W.mg_none_of X G z11,PySem.W.mg_none_of X G z12,PySem.W.mg_none_of X G z13,PySem.W.mg_none_of X G z14,⟨.ref q0,_,PySem.W.mg_of X G g0,rfl,fun H B=>.dq (vs:=[.str "a",.str "b",.str "c",.str "d",.str "e",.str "f",.str "g",.str "h"]) ⟨_,_,_,m0,rfl,rfl,(by show 8<=sizeLine;decide),(.cons ⟨w0_0,rfl⟩ (.cons ⟨w0_1,rfl⟩ (.cons ⟨w0_2,rfl⟩ (.cons ⟨w0_3,rfl⟩ (.cons ⟨w0_4,rfl⟩ (.cons ⟨w0_5,rfl⟩ (.cons ⟨w0_6,rfl⟩ (.cons ⟨w0_7,rfl⟩ .nil))))))))⟩ (.cons (.str _) (.cons (.str _) (.cons (.str _) (.cons (.str _) (.cons (.str _) (.cons (.str _) (.cons (.str _) (.cons (.str _) .nil))))))))⟩,⟨.ref q1,_,PySem.W.mg_of X G g1,rfl,fun H B=>.dq (vs:=[.int 8,.int 128,.int 32768]) ⟨_,_,_,m1,rfl,rfl,(by show 3<=sizeLine;decide),(.cons ⟨w1_0,rfl⟩ (.cons ⟨w1_1,rfl⟩ (.cons ⟨w1_2,rfl⟩ .nil)))⟩ (.cons (.int _) (.cons (.int _) (.cons (.int _) .nil)))⟩,⟨.ref q2,_,PySem.W.mg_of X G g2,rfl,fun H B=>.dq (vs:=[.str "0",.str "10",.str "11"]) ⟨_,_,_,m2,rfl,rfl,(by show 3<=sizeLine;decide),(.cons ⟨w2_0,rfl⟩ (.cons ⟨w2_1,rfl⟩ (.cons ⟨w2_2,rfl⟩ .nil)))⟩ (.cons (.str _) (.cons (.str _) (.cons (.str _) .nil)))⟩,⟨.int 2,_,PySem.W.mg_of X G g3,⟨_,rfl⟩,fun H B=>.int _⟩,⟨.int 1,_,PySem.W.mg_of X G g4,⟨_,rfl⟩,fun H B=>.int _⟩,⟨.int 0,_,PySem.W.mg_of X G g5,⟨_,rfl⟩,fun H B=>.int _⟩,⟨.ref q6,_,PySem.W.mg_of X G g6,rfl,fun H B=>.dq (vs:=[.int 4,.int 8,.int 16]) ⟨_,_,_,m6,rfl,rfl,(by show 3<=sizeLine;decide),(.cons ⟨w6_0,rfl⟩ (.cons ⟨w6_1,rfl⟩ (.cons ⟨w6_2,rfl⟩ .nil)))⟩ (.cons (.int _) (.cons (.int _) (.cons (.int _) .nil)))⟩,⟨dd0,PySem.W.mg_of X G dg0,dz0,_,_,_,dl0,⟨rfl,rfl,rfl⟩,rfl,(.cons rfl ⟨dp0_0,rfl,⟨_,_,_,dm0_0,rfl,rfl,(by show 2<=sizeLine;decide),(.cons ⟨dw0_0_0,rfl⟩ (.cons ⟨dw0_0_1,rfl⟩ .nil))⟩⟩ (.cons rfl ⟨dp0_1,rfl,⟨_,_,_,dm0_1,rfl,rfl,(by show 2<=sizeLine;decide),(.cons ⟨dw0_1_0,rfl⟩ (.cons ⟨dw0_1_1,rfl⟩ .nil))⟩⟩ (.cons rfl ⟨dp0_2,rfl,⟨_,_,_,dm0_2,rfl,rfl,(by show 2<=sizeLine;decide),(.cons ⟨dw0_2_0,rfl⟩ (.cons ⟨dw0_2_1,rfl⟩ .nil))⟩⟩ (.cons rfl ⟨dp0_3,rfl,⟨_,_,_,dm0_3,rfl,rfl,(by show 2<=sizeLine;decide),(.cons ⟨dw0_3_0,rfl⟩ (.cons ⟨dw0_3_1,rfl⟩ .nil))⟩⟩ (.cons rfl ⟨dp0_4,rfl,⟨_,_,_,dm0_4,rfl,rfl,(by show 1<=sizeLine;decide),(.cons ⟨dw0_4_0,rfl⟩ .nil)⟩⟩ (.cons rfl ⟨dp0_5,rfl,⟨_,_,_,dm0_5,rfl,rfl,(by show 1<=sizeLine;decide),(.cons ⟨dw0_5_0,rfl⟩ .nil)⟩⟩ (.cons rfl ⟨dp0_6,rfl,⟨_,_,_,dm0_6,rfl,rfl,(by show 1<=sizeLine;decide),(.cons ⟨dw0_6_0,rfl⟩ .nil)⟩⟩ (.cons rfl ⟨dp0_7,rfl,⟨_,_,_,dm0_7,rfl,rfl,(by show 2<=sizeLine;decide),(.cons ⟨dw0_7_0,rfl⟩ (.cons ⟨dw0_7_1,rfl⟩ .nil))⟩⟩ (.cons rfl ⟨dp0_8,rfl,⟨_,_,_,dm0_8,rfl,rfl,(by show 0<=sizeLine;decide),.nil⟩⟩ .nil)))))))))⟩,rE.mk' X G (m_ a1 l1 le_code_of lk_code_of lw_code_of)⟩
 have F1:HasFn K mg "code_of" cm ["lengths"]:=gz X G a1 l1 c1 k1 (by walk_at "b1")
 exact⟨PySem.W.fnOf "law" "law" (dc f9) (bP f9) (aa f9) .none kV31 dc31 pm31 an31 cd31 ct31,fun s v=>.of_eq rfl,fun base _ _=>(DK T F0 F1 F2 F3 F4 F5 F6 F7 F8 F9 F10 F11 F12 F13 F14 F15 F16 F17 F18 F19 F20 F21 F22 F23 F24 F25 F26 F27 F28 F29 F30 (qz (st:=f9) l31 c31 k31)).mono (by decide)⟩
theorem walk{l:PySem.W.OpenLaw}{loose:List Str}{XP:(Str->Option Value)->Heap->Prop}{YP:World->Heap->Prop}{d:DefRec}{K:Params->Qf}(hn:l.most=some 63)(hdf:d.params.defaults=[])
  (hY:∀(w:World) (h:Heap),YP w h->(K w.params).In h)
  (F:∀(w:World) (mg:Str->Option Value) (fa:Addr) (h:Heap),(K w.params).In h->h.Ns mainGlobals mg->mg d.name=some (.ref fa)->∃ fd:FuncData,(∀(s:Shared) (u:Value),BindsTo s fd ⟨[u],[]⟩ [("script",u)])/\∀ base:Heap,(K w.params).In base->base.Ns mainGlobals mg->dZ l.prog w (K w.params) mg base aX 30 fa fd ["script"] (lD (K w.params))) (hL:∀(w:World) (h:Heap),(K w.params).In h->hX q (K w.params)) :
  PySem.W.WalkO q loose XP YP l.row.toRowW d [] (fun f vs=>PySem.call f vs):=
 L2.AR (n:=63) (k:=30) (x:="script") (CX:=fun _=>aX) (sp:=fun w=>lD (K w.params)) hn (by decide) hdf ⟨rfl,by decide,by decide,rfl⟩ hY F (fun _ _ a ns hl _ hS=>⟨a,ns,rfl,hS,hl,fun _=>rfl⟩) (fun _ _ _ _ _ z=>z) hL
theorem DC(_:K.In h){la_code_of:Addr}{lo_code_of:Value}{ld_code_of:Option Addr}{lfd_code_of:FuncData}{ls_code_of:Array (Option Value)}(nt:PySem.W.noTabs K=true)
  (ma_by_worth:PySem.W.nsIn K mainGlobals "by_worth"=some none)
  (ma_by_weight:PySem.W.nsIn K mainGlobals "by_weight"=some none)
  (ma_code_of:PySem.W.nsIn K mainGlobals "code_of"=some (some (.ref la_code_of))) (ml_code_of:K.lookup la_code_of=some ⟨lo_code_of,ld_code_of,.func lfd_code_of,ls_code_of⟩) (mc_code_of:lfd_code_of.code=.ref lc_code_of) (mk_code_of:K.lookup lc_code_of=some ⟨lO_code_of,lD_code_of,.fields lv_code_of,lS_code_of⟩) (mw_code_of:lv_code_of[11]?=some (.ref lp_code_of)) (mr_code_of:((recsOf q).find? (fun e=>e.name ==("code_of":Str))).isSome=true)
  : hX q K:=hX.of nt (jn ma_by_worth) (jn ma_by_weight) (m_ ma_code_of ml_code_of mc_code_of mk_code_of mw_code_of) (by first|exact mn|simp) (.inl rfl) (.inl rfl) (.inr mr_code_of)
end
end G
open PySem PySem.W PyProof.Rows
local macro_rules | `(tactic| walk_at "b0") => `(tactic| (intro _ _ _ _ _ _ us hl; match us, hl with | [], _ => rfl))
local macro_rules | `(tactic| walk_at "b1") => `(tactic| (intro _ _ _ _ _ _ us hl; obtain ⟨_, e⟩ := L2.Y.vx hl; subst e; rfl))
local macro_rules | `(tactic| walk_at "b2") => `(tactic| (intro _ _ _ _ _ _ us hl; obtain ⟨_, _, e⟩ := L2.Y.Ak hl; subst e; rfl))
local macro_rules | `(tactic| walk_at "b3") => `(tactic| (intro _ _ _ _ _ _ us hl; obtain ⟨_, _, _, e⟩ := L2.Y.HU hl; subst e; rfl))
local macro_rules | `(tactic| walk_at "b4") => `(tactic| (intro _ _ _ _ _ _ us hl; obtain ⟨_, _, _, _, e⟩ := L2.Y.JX hl; subst e; rfl))
set_option maxRecDepth 100000 in
set_option maxHeartbeats 0 in
theorem PySem.Challenge.cw_shortrows_k30_rows_read_holds : PySem.Challenge.rw_shortrows_k30_rows_read.Holds := by
 w_on;o_law;k_head;(case hw=>w_witness2)
 k_fill
 refine G.walk (l:=PySem.Challenge.rw_shortrows_k30_rows_read) rfl rfl (fun w h Y=>by first|exact PySem.W.kIn_of Y|exact PySem.W.km_in_of Y) ?F ?L
 case F =>
  intro w mg fa h KX GN hmg
  refine' G.all_mk KX GN hmg (G.gz KX GN ?a0 ?l0 ?c0 ?k0 (by walk_at "b1")) ?a1 ?l1 ?c1 ?k1 (G.gz KX GN ?a2 ?l2 ?c2 ?k2 (by walk_at "b2")) (G.gz KX GN ?a3 ?l3 ?c3 ?k3 (by walk_at "b3")) (G.gz KX GN ?a4 ?l4 ?c4 ?k4 (by walk_at "b1")) (G.gz KX GN ?a5 ?l5 ?c5 ?k5 (by walk_at "b2")) (G.gz KX GN ?a6 ?l6 ?c6 ?k6 (by walk_at "b1")) (G.gz KX GN ?a7 ?l7 ?c7 ?k7 (by walk_at "b2")) (G.gz KX GN ?a8 ?l8 ?c8 ?k8 (by walk_at "b3")) (G.gz KX GN ?a9 ?l9 ?c9 ?k9 (by walk_at "b3")) (G.gz KX GN ?a10 ?l10 ?c10 ?k10 (by walk_at "b3")) (G.gz KX GN ?a11 ?l11 ?c11 ?k11 (by walk_at "b4")) (G.gz KX GN ?a12 ?l12 ?c12 ?k12 (by walk_at "b3")) (G.gz KX GN ?a13 ?l13 ?c13 ?k13 (by walk_at "b2")) (G.gz KX GN ?a14 ?l14 ?c14 ?k14 (by walk_at "b1")) (G.gz KX GN ?a15 ?l15 ?c15 ?k15 (by walk_at "b2")) (G.gz KX GN ?a16 ?l16 ?c16 ?k16 (by walk_at "b2")) (G.gz KX GN ?a17 ?l17 ?c17 ?k17 (by walk_at "b0")) (G.gz KX GN ?a18 ?l18 ?c18 ?k18 (by walk_at "b2")) (G.gz KX GN ?a19 ?l19 ?c19 ?k19 (by walk_at "b1")) (G.gz KX GN ?a20 ?l20 ?c20 ?k20 (by walk_at "b2")) (G.gz KX GN ?a21 ?l21 ?c21 ?k21 (by walk_at "b1")) (G.gz KX GN ?a22 ?l22 ?c22 ?k22 (by walk_at "b1")) (G.gz KX GN ?a23 ?l23 ?c23 ?k23 (by walk_at "b2")) (G.gz KX GN ?a24 ?l24 ?c24 ?k24 (by walk_at "b2")) (G.gz KX GN ?a25 ?l25 ?c25 ?k25 (by walk_at "b1")) (G.gz KX GN ?a26 ?l26 ?c26 ?k26 (by walk_at "b2")) (G.gz KX GN ?a27 ?l27 ?c27 ?k27 (by walk_at "b3")) (G.gz KX GN ?a28 ?l28 ?c28 ?k28 (by walk_at "b3")) (G.gz KX GN ?a29 ?l29 ?c29 ?k29 (by walk_at "b3")) (G.gz KX GN ?a30 ?l30 ?c30 ?k30 (by walk_at "b2")) ?a31 ?l31 ?c31 ?k31 ?z0 ?z1 ?z2 ?z3 ?z4 ?z5 ?z6 ?z7 ?z8 ?z9 ?z10 ?z11 ?z12 ?z13 ?z14 ?gq0 ?mq0 ?gq1 ?mq1 ?gq2 ?mq2 ?gq3 ?gq4 ?gq5 ?gq6 ?mq6 ?dg0 ?dz0 ?dl0 ?dm0_0 ?dm0_1 ?dm0_2 ?dm0_3 ?dm0_4 ?dm0_5 ?dm0_6 ?dm0_7 ?dm0_8 ?le_code_of ?lk_code_of ?lw_code_of
  (case a0|l0|c0|k0|a1|l1|c1|k1|a2|l2|c2|k2|a3|l3|c3|k3|a4|l4|c4|k4|a5|l5|c5|k5|a6|l6|c6|k6|a7|l7|c7|k7|a8|l8|c8|k8|a9|l9|c9|k9|a10|l10|c10|k10|a11|l11|c11|k11|a12|l12|c12|k12|a13|l13|c13|k13|a14|l14|c14|k14|a15|l15|c15|k15|a16|l16|c16|k16|a17|l17|c17|k17|a18|l18|c18|k18|a19|l19|c19|k19|a20|l20|c20|k20|a21|l21|c21|k21|a22|l22|c22|k22|a23|l23|c23|k23|a24|l24|c24|k24|a25|l25|c25|k25|a26|l26|c26|k26|a27|l27|c27|k27|a28|l28|c28|k28|a29|l29|c29|k29|a30|l30|c30|k30|a31|l31|c31|k31=>k_is)
  (case z0=>k_is)
  (case z1=>k_is)
  (case z2=>k_is)
  (case z3=>k_is)
  (case z4=>k_is)
  (case z5=>k_is)
  (case z6=>k_is)
  (case z7=>k_is)
  (case z8=>k_is)
  (case z9=>k_is)
  (case z10=>k_is)
  (case z11=>k_is)
  (case z12=>k_is)
  (case z13=>k_is)
  (case z14=>k_is)
  (case gq0=>k_is)
  (case mq0=>k_is)
  (case gq1=>k_is)
  (case mq1=>k_is)
  (case gq2=>k_is)
  (case mq2=>k_is)
  (case gq3=>k_is)
  (case gq4=>k_is)
  (case gq5=>k_is)
  (case gq6=>k_is)
  (case mq6=>k_is)
  (case dg0=>k_is)
  (case dl0=>k_is)
  (case dm0_0=>k_is)
  (case dm0_1=>k_is)
  (case dm0_2=>k_is)
  (case dm0_3=>k_is)
  (case dm0_4=>k_is)
  (case dm0_5=>k_is)
  (case dm0_6=>k_is)
  (case dm0_7=>k_is)
  (case dm0_8=>k_is)
  (case dz0=>rfl)
  (case le_code_of=>exact rfl)
  (case lk_code_of=>k_is)
  (case lw_code_of=>exact rfl)
 case L =>
  intro w h KX
  refine' G.DC KX (by kernel_rfl) ?ma_by_worth ?ma_by_weight ?ma_code_of ?ml_code_of ?mc_code_of ?mk_code_of ?mw_code_of ?mr_code_of
  (case ma_by_worth=>k_is)
  (case ma_by_weight=>k_is)
  (case ma_code_of=>k_is)
  (case ml_code_of=>k_is)
  (case mc_code_of=>exact rfl)
  (case mk_code_of=>k_is)
  (case mw_code_of=>exact rfl)
  (case mr_code_of=>exact rfl)
end
