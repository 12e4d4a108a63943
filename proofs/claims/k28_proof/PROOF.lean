import PyProof.Rows.All
import Wide.All
import OpenK.AllK
import Wide.FinOn
import Lean
import PyProof.EqAt
import PyProof.EqKinds
import PyProof.TupleCall
import KE.KSortKey
import KE.KLam
import PySem.Challenge.RW_shortrows_k28_whole_rows_in_the_bits
namespace PySem.W.Fast
noncomputable def tw4020771914195051662:=0
noncomputable def tw4534208479649419238:=0
noncomputable def tw14191740589337704294:=0
noncomputable def tw13398524150746318911:=0
noncomputable def tw2578027771020022253:=0
noncomputable def tw15875360150304716389:=0
noncomputable def tw8737223871992392788:=0
noncomputable def tw6595654981206138594:=0
noncomputable def tw247410627499769076:=0
noncomputable def tw9878165666320512897:=0
noncomputable def tw15367496663908868672:=0
noncomputable def tw18020198325724056617:=0
noncomputable def tw7355013753540888729:=0
noncomputable def tw11872401728478556920:=0
noncomputable def tw7222505102637585063:=0
noncomputable def tw552113135327360075:=0
noncomputable def tw5794754764448333477:=0
noncomputable def tw5650961812125047092:=0
noncomputable def tw14483465646690476852:=0
noncomputable def tw14476183704963523685:=0
noncomputable def tw18016688312405170560:=0
noncomputable def tw9253245253143073898:=0
noncomputable def tw17391401686193039051:=0
noncomputable def tw17984696706907626073:=0
noncomputable def tw8153893450205441696:=0
noncomputable def tw14679757666333607507:=0
noncomputable def tw2488077589048308647:=0
noncomputable def tw13862219466274573491:=0
noncomputable def tw2119458071649642345:=0
noncomputable def tw14385542709556062664:=0
noncomputable def tw9457777174905057024:=0
noncomputable def tw7715792005887861526:=0
noncomputable def tw12032664619690410414:=0
noncomputable def tw12233014302837417150:=0
noncomputable def tw16639860229232421492:=0
noncomputable def tw13737974595934830869:=0
noncomputable def tw17305246135050637596:=0
noncomputable def tw12133020135205008510:=0
noncomputable def tw2260780632710865810:=0
noncomputable def tw2388249604604106225:=0
noncomputable def tw15000941508077523384:=0
noncomputable def tw15298842921960519547:=0
noncomputable def tw16318128471120833929:=0
noncomputable def tw6624135753312744085:=0
noncomputable def tw4696889343177781601:=0
noncomputable def tw639898659387536630:=0
noncomputable def tw2150640757442386189:=0
noncomputable def tw1960679422866410118:=0
noncomputable def tw696667641299047741:=0
noncomputable def tw7222988747508118864:=0
noncomputable def tw18241128962625299195:=0
noncomputable def tw13695326178300803146:=0
noncomputable def tw10197419438021541877:=0
noncomputable def tw10788835287196690256:=0
noncomputable def tw10626021684298274362:=0
noncomputable def tw13286363974316844376:=0
noncomputable def tw871314247969033569:=0
noncomputable def tw4008981656126631337:=0
noncomputable def tw7975701565959819167:=0
noncomputable def tw6528033962195172768:=0
noncomputable def tw322026443502768367:=0
noncomputable def tw5819051856350738461:=0
noncomputable def tw6880572561699608744:=0
noncomputable def tw11756082380593988325:=0
noncomputable def tw2129263389938924608:=0
noncomputable def tw2434867158801535060:=0
noncomputable def tw17371583612210394347:=0
noncomputable def tw12048957352971270794:=0
noncomputable def tw8731454779393364712:=0
noncomputable def tw3743251680630640271:=0
noncomputable def tw911845782484643908:=0
noncomputable def tw10234715895212244195:=0
noncomputable def tw8925920126362616541:=0
noncomputable def tw11114246317837020959:=0
noncomputable def tw9570139611089549743:=0
noncomputable def tw15288357690823111348:=0
noncomputable def tw3408662349351320858:=0
noncomputable def tw17190853122185525164:=0
noncomputable def tw3149211222462484920:=0
noncomputable def tw9839287512061152551:=0
noncomputable def tw11568142194166073395:=0
noncomputable def tw14111123421176178485:=0
noncomputable def tw137709483845651052:=0
noncomputable def tw4045141023782551083:=0
noncomputable def tw4878416459572375050:=0
noncomputable def tw3324163081025532130:=0
noncomputable def tw10336704582661628019:=0
noncomputable def tw114346886010331296:=0
noncomputable def tw7518712408230513242:=0
noncomputable def tw7094267337636896219:=0
noncomputable def tw1093971357981859821:=0
noncomputable def tw3065457946387448566:=0
noncomputable def tw10931291335966603166:=0
noncomputable def tw1321704240828781689:=0
noncomputable def tw15495738538850829474:=0
noncomputable def tw15711862515154884200:=0
noncomputable def tw12850781044460434452:=0
noncomputable def tw3700967293637598011:=0
noncomputable def tw3313709040056798976:=0
noncomputable def tw2676549853089426658:=0
noncomputable def tw14242224522201188441:=0
noncomputable def tw13838627990648244599:=0
noncomputable def tw16096077738814958011:=0
noncomputable def tw7109687738685507505:=0
noncomputable def tw3824839721324193152:=0
noncomputable def tw1937234455713223938:=0
noncomputable def tw16593460844438331429:=0
noncomputable def tw6030311664892461323:=0
noncomputable def tw1032817952962793655:=0
noncomputable def tw7810977263484871127:=0
noncomputable def tw14452658638934498707:=0
noncomputable def tw10189688325301863668:=0
noncomputable def tw1118980566218958939:=0
noncomputable def tw10109548713188940024:=0
noncomputable def tw5531643805521838320:=0
noncomputable def tw9332631550965523720:=0
noncomputable def tw5745150461107064019:=0
noncomputable def tw17265093188918382020:=0
noncomputable def tw1261180464802154081:=0
noncomputable def tw1114982171855209145:=0
noncomputable def tw15828394149481469507:=0
noncomputable def tw2750414084918763612:=0
noncomputable def tw9711701837262072908:=0
noncomputable def tw14034456679234076510:=0
noncomputable def tw11810851650907922374:=0
noncomputable def tw2204768500321861431:=0
noncomputable def tw168602347181721013:=0
noncomputable def tw7069722024003486777:=0
noncomputable def tw3984411649398463967:=0
noncomputable def tw91980906157417730:=0
noncomputable def tw10339690303140118:=0
noncomputable def tw10271559587869927265:=0
noncomputable def tw8697730099341006318:=0
noncomputable def tw8240504516897595207:=0
noncomputable def tw2710386473465886354:=0
noncomputable def tw7684981687442969006:=0
noncomputable def tw12709070711822600377:=0
noncomputable def tw3530867219315085504:=0
noncomputable def tw956376879149863974:=0
noncomputable def tw16914030804648572659:=0
noncomputable def tw17609004971480175464:=0
noncomputable def tw15717244044254063113:=0
noncomputable def tw12618786545417868471:=0
noncomputable def tw7048485460205714609:=0
noncomputable def tw17896747485619193962:=0
noncomputable def tw14387387285680726496:=0
noncomputable def tw1838688675131183725:=0
noncomputable def tw1399315452936355952:=0
noncomputable def tw2820865548956127210:=0
noncomputable def tw4586700383694761:=0
noncomputable def tw12370984686068817947:=0
noncomputable def tw8837626939444925048:=0
noncomputable def tw5408805799700524257:=0
noncomputable def tw286000237184145735:=0
noncomputable def tw5999682945965305710:=0
noncomputable def tw6850311294336699262:=0
noncomputable def tw4936265960336998662:=0
noncomputable def tw6846808885349151677:=0
noncomputable def tw3100674884185996797:=0
noncomputable def tw12080367022232344622:=0
noncomputable def tw13018863533463590670:=0
noncomputable def tw3743626292228106736:=0
noncomputable def tw10953417407818224425:=0
noncomputable def tw6250739104750450859:=0
noncomputable def tw13789001694161716071:=0
noncomputable def tw11689521981685675937:=0
noncomputable def tw4454445643526266482:=0
noncomputable def tw12595016820177108375:=0
noncomputable def tw14089280099929755628:=0
noncomputable def tw6728277275500148721:=0
noncomputable def tw1671272338828708256:=0
noncomputable def tw9032418448697068063:=0
noncomputable def tw17338635404275772658:=0
noncomputable def tw11443536315602709943:=0
noncomputable def tw12548879783695875374:=0
noncomputable def tw7927002599605493659:=0
noncomputable def tw14712221831188013274:=0
noncomputable def tw3290713971336405814:=0
noncomputable def tw3284755163968507155:=0
noncomputable def tw9767187424282879106:=0
noncomputable def tw9176039236250568334:=0
noncomputable def tw3617401522586576325:=0
noncomputable def tw493649722181607064:=0
noncomputable def tw17240185283179636389:=0
noncomputable def tw6209294792547511151:=0
noncomputable def tw9203582729399423276:=0
noncomputable def tw4148110931891887470:=0
noncomputable def tw17043889663607001333:=0
noncomputable def tw9000668865367709055:=0
noncomputable def tw17279500539165921661:=0
noncomputable def tw1879315746876547668:=0
noncomputable def tw8351390653840752180:=0
noncomputable def tw6380761917567060929:=0
noncomputable def tw4271776012447642006:=0
noncomputable def tw15597613575892079870:=0
noncomputable def tw5188243862854306066:=0
noncomputable def tw3006280541097971869:=0
noncomputable def tw13184235554233024020:=0
noncomputable def tw13389583681894939807:=0
noncomputable def tw4922006773864877682:=0
noncomputable def tw3007946375510985427:=0
noncomputable def tw10805735169813880494:=0
noncomputable def tw5476087296255913563:=0
noncomputable def tw12201808752547014533:=0
noncomputable def tw13382211576211697777:=0
noncomputable def tw14427056473815750260:=0
noncomputable def tw5851851631028042272:=0
noncomputable def tw17170927018919525932:=0
noncomputable def tw3028876134856299667:=0
noncomputable def tw3272703796334321030:=0
noncomputable def tw3763493735885260962:=0
noncomputable def tw4647373688535209746:=0
noncomputable def tw16906555797662480729:=0
noncomputable def tw13403565420156193571:=0
noncomputable def tw11588445039237063566:=0
noncomputable def tw454530651597785841:=0
noncomputable def tw1912539818627396361:=0
noncomputable def tw12569451362625970834:=0
noncomputable def tw11455387873053478414:=0
noncomputable def tw17249358244116836689:=0
end PySem.W.Fast
set_option Elab.async false
set_option linter.all false
set_option maxRecDepth 100000
set_option maxHeartbeats 4000000
noncomputable section
set_option compiler.extract_closed false
theorem ℜz0(_:True:=by rfl):True:=⟨⟩
def ℜ0:Lean.Syntax:=ℜz0._auto_1
theorem ℜz1(_:True:=by decide):True:=⟨⟩
def ℜ1:Lean.Syntax:=ℜz1._auto_1
theorem ℜz2(_:True:=by first|exact .inl rfl|exact .inr rfl|assumption):True:=⟨⟩
def ℜ2:Lean.Syntax:=ℜz2._auto_1
theorem ℜz3(_:True:=by intro _;rfl):True:=⟨⟩
def ℜ3:Lean.Syntax:=ℜz3._auto_1
theorem ℜz4(_:True:=by first|exact Or.inl rfl|exact Or.inr (Or.inl rfl)|exact Or.inr (Or.inr rfl)):True:=⟨⟩
def ℜ4:Lean.Syntax:=ℜz4._auto_1
theorem ℜz5(_:True:=by with_unfolding_all rfl):True:=⟨⟩
def ℜ5:Lean.Syntax:=ℜz5._auto_1
theorem ℜz6(_:True:=by decide +kernel):True:=⟨⟩
def ℜ6:Lean.Syntax:=ℜz6._auto_1
namespace L2
open PySem PySem.Spec PyProof.Rows
variable{us:List Value}{x:Str}{u:Value}{a b:Addr}{o:Obj}{base h:Heap}{items:Array Value}{P:Program}{w:World}{g':Array GenState}{ch fp:List Addr}{c e tg:Expr}{N:List Str}{i j k:Nat}{M:Model}{A:Around}{E Q:Value->Shared->Prop}{s s':Shared}{pins:List (Addr×Obj)}{f:Value->Value->Sem Value}{es:List Expr}{body:List Stmt}{mA mg:Str->Option Value}{fd:FuncData}{kindOf:Str->Option NameKind}{scope:Scope}
noncomputable def JU:=@PySem.wpAny_bind
noncomputable def JV:=@List.getElem?_eq_getElem
noncomputable def JW:=@PySem.Heap.get?_push_of_some
noncomputable def JX:=@List.length_append
noncomputable def JY:=@List.length_map
noncomputable def JZ:=@if_neg
noncomputable def J_:=@List.size_toArray
noncomputable def Ka:=@Bool.false_ne_true
noncomputable def Kb:=@PySem.wpAny_pure
noncomputable def Kc:=@Nat.le_refl
noncomputable def Kd:=@List.getD_eq_getElem?_getD
noncomputable def Ke:=@if_pos
noncomputable def Kf:=@List.getElem?_eq_some_iff
noncomputable def Kg:=@List.getElem?_map
noncomputable def Kh:=@List.mem_cons_of_mem
noncomputable def Ki:=@List.mem_cons
noncomputable def Kj:=@List.length_cons
noncomputable def Kk:=@List.mem_cons_self
noncomputable def Kl:=@List.length_replicate
noncomputable def Km:=@PySem.Heap.get?_push_size
noncomputable def Kn:=@PySem.Heap.lt_size
noncomputable def Ko:=@List.mem_singleton
noncomputable def Kq:=@Nat.le_trans
noncomputable def Ks:=@Nat.lt_of_succ_lt
noncomputable def Kt:=@List.map_append
noncomputable def Ku:=@List.append_assoc
noncomputable def Kv:=@decide_eq_false
noncomputable def Kw:=@List.append_nil
noncomputable def Kx:=@Nat.lt_of_le_of_lt
noncomputable def Ky:=@List.length_range
noncomputable def Kz:=@Nat.lt_of_lt_of_le
noncomputable def K0:=@List.getElem?_eq_none_iff
noncomputable def K1:=@Nat.ne_of_lt
noncomputable def K2:=@List.mem_append_right
noncomputable def K3:=@List.getElem_mem
noncomputable def K4:=@congrArg
noncomputable def K5:=@Array.getElem?_toList
noncomputable def K6:=@Int.toNat_natCast
noncomputable def K7:=@List.pairwise_cons
noncomputable def K8:=@List.length_nil
noncomputable def K9:=@PySem.PassesOwn.never
noncomputable def KA:=@List.mem_map
noncomputable def KC:=@Array.length_toList
noncomputable def KD:=@List.map_cons
noncomputable def KG:=@List.replicate_succ
noncomputable def KH:=@List.getElem?_set_self
noncomputable def KI:=@Bool.and_eq_true
noncomputable def KJ:=@Array.getElem?_eq_some_iff
noncomputable def KL:=@List.length_singleton
noncomputable def KN:=@Nat.zero_le
noncomputable def KO:=@List.length_take
noncomputable def KP:=@PySem.wpAny_holding
noncomputable def KQ:=@List.nodup_cons
noncomputable def KR:=@Nat.lt_or_ge
noncomputable def KU:=@List.getElem?_set_ne
noncomputable def KW:=@List.mem_of_getElem?
noncomputable def KY:=@decide_eq_true
noncomputable def KZ:=@List.mem_append
noncomputable def K_:=@List.length_set
noncomputable def Ld:=@List.not_mem_nil
noncomputable def Le:=@PySem.wpAny_callSpecial?_slot
noncomputable def Lf:=@List.all_cons
noncomputable def Lg:=@PySem.wpAny_mono
noncomputable def Lh:=@PySem.wpAny_call_entry
noncomputable def Li:=@PySem.wpAny_field
noncomputable def Lj:=@List.range'_succ
noncomputable def Lk:=@List.flatten_cons
noncomputable def Ll:=@PySem.wpAny_newObj_type
noncomputable def Lm:=@List.getElem?_toArray
noncomputable def Ln:=@List.all_eq_true
noncomputable def Lo:=@List.pairwise_append
noncomputable def Lp:=@beq_eq_false_iff_ne
noncomputable def Lq:=@List.map_eq_nil_iff
noncomputable def Lr:=@Bool.false_eq_true
noncomputable def Ls:=@List.lookup_cons
noncomputable def Lu:=@List.length_range'
noncomputable def Lv:=@List.mem_replicate
noncomputable def Lw:=@List.range_eq_range'
noncomputable def Ly:=@PyProof.Rows.callWith_type1
noncomputable def Lz:=@PySem.Heap.SameBut.update
noncomputable def L0:=@List.getElem?_range
noncomputable def L1:=@List.getElem?_append_right
noncomputable def L3:=@PySem.call_meets
noncomputable def L4:=@List.getElem?_drop
noncomputable def L5:=@PySem.wpAny_pyIter_tuple
noncomputable def L6:=@List.drop_left
noncomputable def L7:=@PyProof.Rows.slot_tuple_getitem
noncomputable def L8:=@PySem.sizeLine_eq
noncomputable def L9:=@List.nil_append
noncomputable def LA:=@List.map_map
noncomputable def LC:=@List.ext_getElem?
noncomputable def LD:=@of_decide_eq_true
noncomputable def LF:=@List.flatMap_cons
noncomputable def LG:=@Nat.lt_irrefl
noncomputable def LH:=@PySem.wpAny_typeNameOfWhole_keyiter
noncomputable def LI:=@List.mem_range
noncomputable def LJ:=@if_false
noncomputable def LK:=@PySem.wpAny_seqItems
noncomputable def LL:=@List.take_of_length_le
noncomputable def LM:=@Nat.le_of_lt
noncomputable def LN:=@PySem.wpAny_Call_Name_kw
noncomputable def LO:=@Nat.zero_add
noncomputable def LP:=@PySem.wpAny_setField_rec
noncomputable def LQ:=@Int.natAbs_natCast
noncomputable def LR:=@PySem.wpAny_passesOwn
noncomputable def LS:=@if_true
noncomputable def LU:=@List.take_append_drop
noncomputable def LV:=@PySem.F.slot_tuple_iterator_next
noncomputable def LW:=@PySem.wpAny_pyIter_list
noncomputable def LX:=@List.pairwise_map
noncomputable def LY:=@List.getElem?_append_left
noncomputable def LZ:=@PySem.wpAny_binaryOp_repeat_ref
noncomputable def L_:=@List.drop_eq_getElem_cons
noncomputable def Ma:=@Nat.pow_le_pow_right
noncomputable def Mb:=@List.mem_or_eq_of_mem_set
noncomputable def Mc:=@Nat.le_succ
noncomputable def Md:=@PySem.Heap.size_push
noncomputable def Me:=@List.drop_drop
noncomputable def Mf:=@Nat.ne_of_gt
noncomputable def Mg:=@List.length_drop
noncomputable def Mh:=@beq_self_eq_true
noncomputable def Mi:=@or_false
noncomputable def Mj:=@List.set_eq_of_length_le
noncomputable def Mk:=@List.cons_append
noncomputable def Ml:=@List.mem_reverse
noncomputable def Mm:=@List.ext_getElem
noncomputable def Mn:=@PySem.wpAny_typeNameOf_keyiter
noncomputable def Mo:=@List.map_congr_left
noncomputable def Mp:=@List.length_reverse
noncomputable def Mq:=@List.flatten_append
noncomputable def Mr:=@List.prefix_of_prefix_length_le
noncomputable def Ms:=@List.eraseIdx_eq_take_drop_succ
noncomputable def Mt:=@List.getElem?_replicate
noncomputable def Mw:=@PySem.wpAny_getItem_str_slice
noncomputable def Mx:=@PySem.typeIs_int
noncomputable def My:=@PySem.Obj.data_mapFields
noncomputable def Mz:=@List.range_succ
noncomputable def M0:=@List.getElem?_take
noncomputable def M1:=@PySem.Heap.get?_update_other
noncomputable def M4:=@Nat.lt_succ_of_lt
noncomputable def M5:=@List.take_add_one
noncomputable def M6:=@PySem.Heap.get?_update_self
noncomputable def M7:=@Nat.min_self
noncomputable def M8:=@Nat.sub_self
noncomputable def M9:=@List.getElem?_append
noncomputable def MA:=@Array.toArray_toList
noncomputable def MB:=@List.length_dropLast
noncomputable def MC:=@PySem.wpAny_newList
noncomputable def MD:=@not_not_intro
noncomputable def ME:=@Array.toList_append
noncomputable def MF:=@List.forIn_cons
noncomputable def MG:=@PyProof.Rows.get?_update_seq
noncomputable def MH:=@PySem.W.KasT.kasWp_bind
noncomputable def MI:=@List.pairwise_iff_getElem
noncomputable def MJ:=@List.mem_filterMap
noncomputable def MK:=@Nat.succ_mul
noncomputable def ML:=@PySem.AutoSeq1.wpAny_loadPart'
noncomputable def MM:=@Int.pow_zero
noncomputable def MN:=@PySem.wpAny_setField
noncomputable def MO:=@List.drop_zero
noncomputable def MP:=@decide_eq_false_iff_not
noncomputable def MQ:=@PySem.wpAny_truthy_bool
noncomputable def MR:=@PySem.wpAny_pyIter_enum
noncomputable def MS:=@List.getElem?_set
noncomputable def MT:=@PySem.wpAny_dictEntries
noncomputable def MU:=@Int.mul_one
noncomputable def MV:=@Int.le_refl
noncomputable def MW:=@List.pairwise_lt_range
noncomputable def MX:=@List.dropWhile_sublist
noncomputable def MY:=@List.drop_eq_nil_of_le
noncomputable def MZ:=@PySem.wpAny_standAt
noncomputable def M_:=@PyProof.Rows.listUpdate_at
noncomputable def Na:=@Nat.mul_assoc
noncomputable def Nb:=@decide_eq_decide
noncomputable def Nc:=@Nat.le_add_right
noncomputable def Nd:=@List.perm_middle
noncomputable def Nf:=@PySem.Obj.isFreed_of_fields
noncomputable def Ng:=@List.pairwise_reverse
noncomputable def Nh:=@List.mem_iff_getElem?
noncomputable def Ni:=@PySem.wpAny_isOneOf_keyiter
noncomputable def Nj:=@List.mem_append_left
noncomputable def Nk:=@PySem.wpAny_execs_nil
noncomputable def Nl:=@Bool.eq_iff_iff
noncomputable def Nm:=@PySem.wpAny_loadPart'
noncomputable def Nn:=@PySem.wpAny_updateSeq_pair
noncomputable def Np:=@PySem.codeAny_builtin
noncomputable def Nq:=@PyProof.Rows.listItems_at
noncomputable def Nr:=@PySem.post_val_or_str
noncomputable def Nt:=@List.reverse_reverse
noncomputable def Nu:=@Int.natCast_mul
noncomputable def Nv:=@Int.natCast_pow
noncomputable def Nx:=@Int.pow_succ
noncomputable def Ny:=@Int.zero_add
noncomputable def Nz:=@Int.natCast_add
noncomputable def N0:=@List.filterMap_cons
noncomputable def N1:=@List.dropWhile_cons
noncomputable def N3:=@List.reverse_append
noncomputable def N4:=@List.toList_toArray
noncomputable def N5:=@PySem.F.args_tuple_iterator_next_1
noncomputable def N6:=@PySem.wpAny_fieldsOf
noncomputable def N7:=@Int.pow_pos
noncomputable def N8:=@Array.append_empty
noncomputable def N9:=@PySem.F.entry_tuple_iterator_next
noncomputable def NA:=@Array.getD_eq_getD_getElem?
noncomputable def NB:=@List.getElem_range
noncomputable def NC:=@Nat.add_sub_cancel
noncomputable def ND:=@Nat.eq_zero_or_pos
noncomputable def NF:=@Int.emod_lt_of_pos
noncomputable def NG:=@List.prefix_append
noncomputable def NH:=@PySem.Calls.Name_function_global
noncomputable def NI:=@List.any_cons
noncomputable def NJ:=@PySem.wpAny_letOwnedTupleGo_enum
noncomputable def NK:=@Nat.add_assoc
noncomputable def NL:=@PySem.wpAny_onRaise
noncomputable def NM:=@PySem.wpAny_attempt
noncomputable def NN:=@Array.getElem?_eq_none_iff
noncomputable def NO:=@List.map_take
noncomputable def NP:=@List.map_drop
noncomputable def NQ:=@Array.size_append
noncomputable def NR:=@bne_self_eq_false
noncomputable def NS:=@decide_eq_true_eq
noncomputable def NT:=@Int.emod_eq_of_lt
noncomputable def NU:=@PySem.wpAny_rule
noncomputable def NV:=@PySem.Calls.call_function_entry
noncomputable def NW:=@List.exists_mem_of_ne_nil
noncomputable def NX:=@Nat.not_lt
noncomputable def NY:=@Array.getElem?_eq_getElem
noncomputable def NZ:=@Option.isNone_iff_eq_none
noncomputable def N_:=@PySem.wpAny_eqBool_int
noncomputable def Oa:=@PySem.wpAny_eqBool_str
noncomputable def Ob:=@PySem.codeAny_mono
noncomputable def Oc:=@Option.isSome_iff_exists
noncomputable def Od:=@PySem.wpAny_comprehension_free
noncomputable def Oe:=@Nat.lt_succ_self
noncomputable def Of:=@List.length_tail
noncomputable def Og:=@PySem.Heap.size_update
noncomputable def Oh:=@Nat.sub_zero
noncomputable def Oi:=@List.take_length
noncomputable def Oj:=@List.flatten_nil
noncomputable def Ol:=@List.Pairwise.imp_of_mem
noncomputable def Om:=@List.map_snd_zip
noncomputable def Oo:=@List.getElem_map
noncomputable def Oq:=@List.Perm.eq_of_pairwise
noncomputable def Ot:=@List.map_set
noncomputable def Ov:=@Option.getD_some
noncomputable def Ow:=@List.mem_flatMap
noncomputable def Ox:=@PySem.wpAny_pyNext_enum_itemD
noncomputable def Oy:=@List.getElem?_cons_succ
noncomputable def Oz:=@List.length_eq_zero_iff
noncomputable def O0:=@List.pairwise_singleton
noncomputable def O1:=@List.prefix_iff_eq_take
noncomputable def O2:=@List.of_mem_zip
noncomputable def O4:=@Nat.not_lt_zero
noncomputable def O5:=@List.take_left'
noncomputable def O6:=@List.length_zip
noncomputable def O7:=@PySem.wpAny_dictEpoch
noncomputable def O8:=@PySem.wpAny_pyNext_list_item
noncomputable def OA:=@PySem.Calls.callWith_builtin
noncomputable def OB:=@PySem.wpAny_pyNext_enum_endD
noncomputable def OC:=@Nat.log2_lt
noncomputable def OD:=@List.length_eq_one_iff
noncomputable def OE:=@Int.le_ediv_iff_mul_le
noncomputable def OF:=@Array.getElem?_eq_none
noncomputable def OG:=@Int.sub_mul
noncomputable def OH:=@Nat.pow_add
noncomputable def OI:=@List.filter_eq_nil_iff
noncomputable def OJ:=@List.getElem_cons_drop
noncomputable def OK:=@Bool.false_and
noncomputable def OM:=@PySem.fitsIndex_both
noncomputable def OO:=@List.nodup_nil
noncomputable def OP:=@PySem.wpAny_newTuple
noncomputable def OR:=@List.eq_nil_or_concat
noncomputable def OS:=@List.countP_mono_left
noncomputable def OT:=@List.dropLast_eq_take
noncomputable def OU:=@Nat.sub_le
noncomputable def OV:=@beq_iff_eq
noncomputable def OW:=@PySem.rangeSize_one
noncomputable def OZ:=@Int.mul_assoc
noncomputable def O_:=@PySem.seqIndex_neg
noncomputable def Pa:=@Nat.le_of_eq
noncomputable def Pb:=@PySem.wpAny_typeOf
noncomputable def Pc:=@Nat.add_zero
noncomputable def Pg:=@Nat.lt_trans
noncomputable def Ph:=@Nat.pow_succ
noncomputable def Pj:=@Int.mul_comm
abbrev Pm:=PySem.W.Frag
variable{K:Pm}
abbrev Key:=Sum Int Str
noncomputable def AU:Key->Value->Bool
 |.inl k,v=>Value.isInt k v
 |.inr x,v=>Value.isStrOf x v
noncomputable def Je(w:World):Key->Int
 |.inl k=>hashInt k
 |.inr x=>hashStr w x
theorem bC:∀{k:Key} {v:Value},AU k v=true->(∃ i t,k=Sum.inl i/\v=Value.int i t)\/(∃ x t,k=Sum.inr x/\v=Value.str x t)
 |.inl i,v,h=>by
  obtain⟨t,e⟩:=Value.isInt_shape (k:=i) (v:=v) h;exact .inl ⟨i,t,rfl,e⟩
 |.inr x,v,h=>by
  obtain⟨t,e⟩:=Value.isStrOf_shape (x:=x) (v:=v) h;exact .inr ⟨x,t,rfl,e⟩
theorem DE(a b:Int):decide ((Sum.inl a:Key)=Sum.inl b)=(a == b):=by
 by_cases e:a=b
 ·subst e;simp
 ·have h:¬ (Sum.inl a:Key)=Sum.inl b:=fun q=>e (Sum.inl.inj q);rw[Kv h];exact (Lp.mpr e).symm
theorem D5(a b:Str):decide ((Sum.inr a:Key)=Sum.inr b)=decide (a=b):=by
 by_cases e:a=b
 ·subst e;simp
 ·have h:¬ (Sum.inr a:Key)=Sum.inr b:=fun q=>e (Sum.inr.inj q);rw[Kv h,Kv e]
theorem DR(a:Int)(b:Str):decide ((Sum.inl a:Key)=Sum.inr b)=false:=Kv (fun q=>nomatch q)
theorem DD(a:Str)(b:Int):decide ((Sum.inr a:Key)=Sum.inl b)=false:=Kv (fun q=>nomatch q)
noncomputable def ma(prog:Program)(w:World):PySem.KeyKind prog w Key where
 is:=AU
 hash:=Je w
 inj:=fun v a b ha hb=>by
  rcases bC ha with ⟨i,t,rfl,rfl⟩|⟨x,t,rfl,rfl⟩
  ·rcases bC hb with ⟨j,u,rfl,e⟩|⟨y,u,rfl,e⟩
   ·injection e with e1 _;rw[e1]
   ·exact nomatch e
  ·rcases bC hb with ⟨j,u,rfl,e⟩|⟨y,u,rfl,e⟩
   ·exact nomatch e
   ·injection e with e1 _;rw[e1]
 byValue:=fun k v h=>by
  rcases bC h with ⟨i,t,rfl,rfl⟩|⟨x,t,rfl,rfl⟩<;>rfl
 pyHash:=fun hv h=>by
  rcases bC hv with ⟨i,t,rfl,rfl⟩|⟨x,t,rfl,rfl⟩
  ·exact wpAny_pyHash_int h
  ·exact wpAny_pyHash_str h
 eqBool:=fun hu hv h=>by
  rcases bC hu with ⟨i,t,rfl,rfl⟩|⟨x,t,rfl,rfl⟩
  ·rcases bC hv with ⟨j,u,rfl,rfl⟩|⟨y,u,rfl,rfl⟩
   ·rw[DE] at h;exact N_ h
   ·rw[DR] at h;exact SeqAt.EqAt.int_str i t y u _ _ _ _ h
  ·rcases bC hv with ⟨j,u,rfl,rfl⟩|⟨y,u,rfl,rfl⟩
   ·rw[DD] at h;exact SeqAt.EqAt.str_int x t j u _ _ _ _ h
   ·rw[D5] at h;exact Oa h
 «strs»:=fun k x t v h=>by
  rcases bC h with ⟨i,u,rfl,e⟩|⟨y,u,rfl,e⟩
  ·exact nomatch e
  ·injection e with e1 _
   subst e1
   cases v<;>rfl
inductive V where
 |aC|bl (b:Bool)|int (i:Int)|str (x:Str)|sV (b:Array UInt8)|Es (b:UInt64)|ref (a:Addr)|ty (n:String)
 deriving DecidableEq
variable{vs xs:List V}
noncomputable def RelV:V->Value->Prop
 |.aC,u=>u=Value.none
 |.bl b,u=>u=Value.bool b
 |.int i,u=>∃ t,u=Value.int i t
 |.str x,u=>∃ t,u=Value.str x t
 |.sV b,u=>∃ t,u=Value.bytes b t
 |.Es b,u=>∃ t,u=Value.float b t
 |.ref a,u=>u=Value.ref a
 |.ty n,u=>u=Value.type n
abbrev Vals:List V->List Value->Prop:=Paired RelV
theorem Vals.length(r:Vals xs us):xs.length=us.length:=Paired.length r
theorem Vals.get:∀{xs:List V} {us:List Value} {i:Nat} {x:V},Vals xs us->xs[i]?=some x->∃ u,us[i]?=some u/\RelV x u
 |_,_,_,_,.nil,e=>by simp at e
 |_,_,0,_,.cons r _,e=>by simp at e;subst e;exact⟨_,rfl,r⟩
 |_,_,i+1,x,.cons _ t,e=>by
  obtain⟨u,h1,h2⟩:=Vals.get (i:=i) (x:=x) t (by simpa using e)
  exact⟨u,by simpa using h1,h2⟩
theorem Vals.set{x:V}(r:RelV x u):∀{xs:List V} {us:List Value} (i:Nat),Vals xs us->Vals (xs.set i x) (us.set i u)
 |_,_,_,.nil=>.nil
 |_,_,0,.cons _ t=>.cons r t
 |_,_,i+1,.cons q t=>.cons q (Vals.set r i t)
theorem Vals.append:∀{xs ys:List V} {us ws:List Value},Vals xs us->Vals ys ws->Vals (xs++ys) (us++ws)
 |_,_,_,_,.nil,s=>s
 |_,_,_,_,.cons r t,s=>.cons r (Vals.append t s)
theorem Vals.take:∀{xs:List V} {us:List Value} (n:Nat),Vals xs us->Vals (xs.take n) (us.take n)
 |_,_,0,_=>.nil
 |_,_,_+1,.nil=>.nil
 |_,_,n+1,.cons r t=>.cons r (Vals.take n t)
theorem Vals.drop:∀{xs:List V} {us:List Value} (n:Nat),Vals xs us->Vals (xs.drop n) (us.drop n)
 |_,_,0,r=>r
 |_,_,_+1,.nil=>.nil
 |_,_,n+1,.cons _ t=>Vals.drop n t
noncomputable def Cc:Option V->Option Value->Prop
 |some v,some u=>RelV v u
 |none,none=>True
 |_,_=>False
noncomputable def KV{κ:Type}:List (κ×V)->List (κ×Value)->Prop:=Paired fun (p:κ×V) (q:κ×Value)=>p.1=q.1/\RelV p.2 q.2
noncomputable def kV:Key->V
 |.inl i=>.int i
 |.inr x=>.str x
inductive HO where
 |lst (xs:List V)
 |tup (xs:List V)
 |dK (kvs:List (Key×V))|dT (kvs:List (List Key×V))
 |set (S:Int->Bool) (n:Nat)
 |ins (C dx:Addr) (fs:List (Str×V))
 |own (x:Addr)
 |xd (fs:List (Str×V))
 |met (f x:Addr)
 |eJ (lo hi:Int)
 |ia (o:Obj) (u:HO)
 |va (ps:Array Value)
 |ext (φ:Heap->Prop)
abbrev Hp:=Addr->Option HO
variable{H:Hp}
noncomputable def upd(H:Hp)(a:Addr)(o:HO):Hp:=fun b=>if b=a then some o else H b
theorem az{o:HO}:upd H a o a=some o:=by unfold upd;rw[Ke rfl]
theorem aj{o:HO}(h:b≠a):upd H a o b=H b:=by unfold upd;rw[JZ h]
theorem sC{o u:HO}:upd (upd H a o) a u=upd H a u:=by
 funext b;unfold upd;split<;>rfl
theorem aB{o:HO}(h:H a=some o)(h':H b=none):a≠b:=by
 intro e;subst e;rw[h] at h';cases h'
noncomputable def HY:List Value->Str
 |.str q _::_=>q
 |_=>Str.ofString ""
noncomputable def vJ(ps:Array Value):Str:=HY ps.toList
noncomputable def A_(H:Hp)(q:Str)(cv:Value):Prop:=∃(c:Addr) (oc:Obj) (vs:Array Value) (t:Tok),cv=.ref c/\H c=some (.ia oc (.own c))/\oc.data=.fields vs/\vs[1]?=some (.str q t)
noncomputable def dz(h:Heap)(a:Addr)(items:Array Value):Prop:=∃ o:Obj,h.get? a=some o/\o.cls=.type "tuple"/\∃ n,o.data=.seq items n/\o.dict=none
theorem dz.to(x:dz h a items):IsTup h a items:=let ⟨o,e,c,n,d,_⟩:=x;⟨o,e,c,n,d⟩
theorem dz.new(h:Heap)(items:Array Value):dz (h.push {cls:=.type "tuple",data:=.seq items}) h.objs.size items:=⟨_,Km h rfl,rfl,_,rfl,rfl⟩
theorem dz.lt(x:dz h a items):a<h.objs.size:=x.to.lt
section
variable (P:Program) (w:World)
noncomputable def bt(H:Hp)(h:Heap)(a:Addr):HO->Prop
 |.lst xs=>xs.length<=sizeLine/\∃(its:List Value) (n:Nat),Vals xs its/\h.get? a=some {cls:=.type "list",data:=.seq its.toArray n}
 |.tup xs=>xs.length<=sizeLine/\∃ its:List Value,Vals xs its/\dz h a its.toArray
 |.dK kvs=>kvs.length<=sizeLine/\(a == sysModules)=false/\∃ vs,KV kvs vs/\h.DictOf (ma P w) a vs
 |.dT kvs=>kvs.length<=sizeLine/\(a == sysModules)=false/\∃ xs:List (List Key×Addr×Value),
   Paired (fun (p:List Key×V) (q:List Key×Addr×Value)=>p.1=q.1/\H q.2.1=some (.tup (p.1.map kV))/\RelV p.2 q.2.2) kvs xs /\
   ∃ o es ep,h.get? a=some o/\o.ExactDict/\o.data=.dict es ep/\es.toList=xs.map (entryOfKey (tupleKind (ma P w)))/\(xs.map (·.1)).Nodup
 |.set S n=>h.SetOf (intKind P w) a S n
 |.ins C dx fs=>H dx=some (.own a)/\fs.length<=1000/\dx≠a/\h.get? a=some (PySem.W.instObj C dx) /\
   ∃ mA,h.Ns1 dx mA/\(∀ f,Cc (fs.lookup f) (mA f))/\PySem.Within mA (fs.map (·.1))
 |.own _=>∃ o,h.get? a=some o
 |.xd fs=>∃ mA,h.Ns1 a mA/\∀ f,Cc (fs.lookup f) (mA f)
 |.eJ lo hi=>∃ t u v,h.get? a=some {cls:=.type "range",data:=.fields #[.int lo t,.int hi u,.int 1 v]}
 |.ia o u=>h.get? a=some o/\bt H h a u
 |.va ps=>∃ qs:Array Value,h.get? a=some {cls:=.none,data:=.fields qs}/\TriplesOk qs.toList/\∀ pos cv,codeAmong pos qs.toList=some cv->A_ H (vJ ps) cv
 |.met f x=>h.get? a=some (PySem.W.methodObj (.ref f) (.ref x))
 |.ext φ=>φ h/\(∃ o,h.get? a=some o)/\∀ h1 h2:Heap,φ h1->(∀ o,h1.get? a=some o->h2.get? a=some o)->φ h2
noncomputable def fV(H:Hp)(h:Heap):Prop:=∀ a o,H a=some o->bt P w H h a o
end
section
variable {P:Program} {w:World} {H H':Hp} {h h':Heap} {a:Addr} {o:HO}
theorem bt.lt(x:bt P w H h a o):a<h.objs.size:=by
 cases o with
 |lst xs=>obtain⟨_,_,_,_,e⟩:=x;exact Kn e
 |tup xs=>obtain⟨_,_,_,p⟩:=x;exact p.lt
 |dK kvs=>obtain⟨_,_,_,_,o,_,_,e,_⟩:=x;exact Kn e
 |dT kvs=>obtain⟨_,_,_,_,o,_,_,e,_⟩:=x;exact Kn e
 |set S n=>obtain⟨o,_,_,_,e,_⟩:=x;exact Kn e
 |ins C dx fs=>obtain⟨_,_,_,e,_⟩:=x;exact Kn e
 |own y=>obtain⟨_,e⟩:=x;exact Kn e
 |xd fs=>obtain⟨_,⟨_,_,_,e,_⟩,_⟩:=x;exact Kn e
 |eJ lo hi=>obtain⟨_,_,_,e⟩:=x;exact Kn e
 |ia ob u=>obtain⟨e,_⟩:=x;exact Kn e
 |va ps=>obtain⟨_,e,_⟩:=x;exact Kn e
 |met f y=>exact Kn (show h.get? a=some _ from x)
 |ext φ=>obtain⟨_,⟨_,e⟩,_⟩:=x;exact Kn e
theorem Paired.mG{α β:Type}{F G:α->β->Prop}:∀{l₁:List α} {l₂:List β},Paired F l₁ l₂->(∀ a b,F a b->G a b)->Paired G l₁ l₂
 |_,_,.nil,_=>.nil
 |_,_,.cons r t,f=>.cons (f _ _ r) (Paired.mG t f)
theorem bt.jN(x:bt P w H h a o)(k:∀ b u,(b=a\/H b=some (.own a))->h.get? b=some u->h'.get? b=some u)
  (ho:∀ b,H b=some (.own a)->H' b=some (.own a)) (ht:∀ b xs,H b=some (.tup xs)->H' b=some (.tup xs)) (hz:∀ b o u,H b=some (.ia o u)->H' b=some (.ia o u)):bt P w H' h' a o:=by
 induction o with
 |lst xs=>obtain⟨z,its,n,r,e⟩:=x;exact⟨z,its,n,r,k _ _ (.inl rfl) e⟩
 |tup xs=>obtain⟨z,its,r,ob,e,c⟩:=x;exact⟨z,its,r,ob,k _ _ (.inl rfl) e,c⟩
 |dK kvs=>obtain⟨z,y,vs,r,ob,es,ep,e,c⟩:=x;exact⟨z,y,vs,r,ob,es,ep,k _ _ (.inl rfl) e,c⟩
 |dT kvs =>
  obtain⟨z,y,xs,r,ob,es,ep,e,c⟩:=x;exact⟨z,y,xs,Paired.mG r fun p q z=>⟨z.1,ht _ _ z.2.1,z.2.2⟩,ob,es,ep,k _ _ (.inl rfl) e,c⟩
 |set S n=>obtain⟨ob,es,ep,t,e,c⟩:=x;exact⟨ob,es,ep,t,k _ _ (.inl rfl) e,c⟩
 |ins C dx fs =>
  obtain⟨d,z,ne,e,mA,⟨od,es,ep,e2,c⟩,r⟩:=x;exact⟨ho _ d,z,ne,k _ _ (.inl rfl) e,mA,⟨od,es,ep,k _ _ (.inr d) e2,c⟩,r⟩
 |own y=>obtain⟨ob,e⟩:=x;exact⟨ob,k _ _ (.inl rfl) e⟩
 |xd fs=>obtain⟨mA,⟨od,es,ep,e,c⟩,r⟩:=x;exact⟨mA,⟨od,es,ep,k _ _ (.inl rfl) e,c⟩,r⟩
 |eJ lo hi=>obtain⟨t,u,v,e⟩:=x;exact⟨t,u,v,k _ _ (.inl rfl) e⟩
 |ia ob u ih=>obtain⟨e,q⟩:=x;exact⟨k _ _ (.inl rfl) e,ih q⟩
 |va ps =>
  obtain⟨qs,e,t,f⟩:=x;exact⟨qs,k a _ (.inl rfl) e,t,fun pos cv q=>let ⟨c,oc,vs,t',e1,e2,e3⟩:=f pos cv q;⟨c,oc,vs,t',e1,hz _ _ _ e2,e3⟩⟩
 |met f y =>
  have e:h.get? a=some (PySem.W.methodObj (.ref f) (.ref y)):=x;show h'.get? a=some (PySem.W.methodObj (.ref f) (.ref y));exact k a _ (.inl rfl) e
 |ext φ=>obtain⟨p,⟨o,e⟩,st⟩:=x;exact⟨st _ _ p fun o q=>k _ _ (.inl rfl) q,⟨o,k _ _ (.inl rfl) e⟩,st⟩
theorem fV.lt(x:fV P w H h)(e:H a=some o):a<h.objs.size:=(x a o e).lt
theorem fV.fresh(x:fV P w H h)(e:h.objs.size<=a):H a=none:=by
 cases q:H a with
 |none=>rfl
 |some u=>exact absurd (Kz (x.lt q) e) (LG _)
theorem fV.kept(x:fV P w H h)(k:∀ b u,h.get? b=some u->h'.get? b=some u):fV P w H h':=fun a o e =>
 (x a o e).jN (fun b u _ q=>k b u q) (fun _ q=>q) (fun _ _ q=>q) fun _ _ _ q=>q
theorem fV.laid(x:fV P w H h)(k:∀ b u,h.get? b=some u->h'.get? b=some u)(hp:h.objs.size<=a)(new:bt P w (upd H a o) h' a o):fV P w (upd H a o) h':=fun b u e=>by
 have hn:=x.fresh hp;by_cases hb:b=a
 ·subst hb;rw[az] at e;cases e;exact new
 ·rw[aj hb] at e;exact (x b u e).jN (fun c v _ q=>k c v q) (fun c q=>by rw[aj (aB q hn)];exact q) (fun c xs q=>by rw[aj (aB q hn)];exact q) fun c _ _ q=>by rw[aj (aB q hn)];exact q
end
noncomputable def Rd(H:Hp)(a:Addr)(u:HO):Prop:=H a=some u\/∃ o,H a=some (.ia o u)
theorem Rd.ok{u:HO}(r:Rd H a u)(x:fV P w H h):bt P w H h a u:=by
 rcases r with r|⟨o,r⟩
 ·exact x a u r
 ·obtain⟨_,q⟩:=x a _ r;exact q
noncomputable def Hm:Option HO->Prop
 |some (.lst _)=>True
 |some (.dK _)=>True
 |some (.dT _)=>True
 |some (.set _ _)=>True
 |some (.ins _ _ _)=>True
 |some (.ext _)=>True
 |_=>False
section
variable {P:Program} {w:World} {H:Hp} {h h':Heap} {x e:Addr} {o':HO}
theorem fV.write(ok:fV P w H h)(mu:Hm (H x))(he:e=x\/H e=some (.own x))(k:∀ b u,b≠e->h.get? b=some u->h'.get? b=some u)(heo:∃ u,h'.get? e=some u)
  (new:bt P w (upd H x o') h' x o'):fV P w (upd H x o') h':=fun b u q=>by
 have nown:∀ c y,H c=some (.own y)->c≠x:=fun c y r z=>by subst z;rw[r] at mu;exact mu
 have ntup:∀ c xs,H c=some (.tup xs)->c≠x:=fun c xs r z=>by subst z;rw[r] at mu;exact mu
 have nfrz:∀ c o1 u1,H c=some (.ia o1 u1)->c≠x:=fun c _ _ r z=>by subst z;rw[r] at mu;exact mu
 by_cases hb:b=x
 ·subst hb;rw[az] at q;cases q;exact new
 ·rw[aj hb] at q;by_cases hbe:b=e
  ·have q':H b=some (.own x):=by
    rcases he with z|z
    ·exact absurd (hbe.trans z) hb
    ·rw[hbe];exact z
   rw[q] at q';cases q';obtain⟨v,hv⟩:=heo;exact⟨v,by rw[hbe];exact hv⟩
  ·refine (ok b u q).jN (fun c v hc r=>k c v ?_ r) (fun c r=>by rw[aj (nown c b r)];exact r) (fun c xs r=>by rw[aj (ntup c xs r)];exact r) fun c _ _ r=>by rw[aj (nfrz c _ _ r)];exact r
   rcases hc with rfl|hc
   ·exact hbe
   ·rintro rfl;rcases he with z|z
    ·exact nown c b hc z
    ·rw[hc] at z;cases z;exact hb rfl
end
structure Un (fs ex:List Addr) (H H':Hp) (h h':Heap):Prop where
 keep:∀ b o,h.get? b=some o->H b=none->b∉fs->b∉ex->h'.get? b=some o
 slot:∀ b o,h.get? b=some o->H b=none->b∈fs->b∉ex->∃ sl,h'.get? b=some {o with slots:=sl}
 free:∀ b o,h.get? b=some o->H b=none->b∉ex->H' b=none
 there:∀ b o,h.get? b=some o->b∉ex->∃ o',h'.get? b=some o'
 kr:∀ b xs,H b=some (.tup xs)->H' b=some (.tup xs)
 jn:∀ b o u,H b=some (.ia o u)->H' b=some (.ia o u)
 iQ:∀ b ps,H b=some (.va ps)->∃ more,H' b=some (.va (ps++more))
section
variable {fs fs' ex ex':List Addr} {H H1 H2:Hp} {h h1 h2 h':Heap} {a x e:Addr} {o:HO}
theorem Un.any(u:Un fs ex H H1 h h1){ob:Obj}(q:h.get? b=some ob)(n:H b=none)(hx:b∉ex):∃ sl,h1.get? b=some {ob with slots:=sl}:=by
 by_cases hb:b∈fs
 ·exact u.slot b ob q n hb hx
 ·exact⟨ob.slots,u.keep b ob q n hb hx⟩
theorem Un.kept(k:∀ b u,h.get? b=some u->h'.get? b=some u):Un fs ex H H h h':=
 ⟨fun b ob q _ _ _=>k b ob q,fun b ob q _ _ _=>⟨ob.slots,k b ob q⟩,fun _ _ _ n _=>n,fun b ob q _=>⟨ob,k b ob q⟩,fun _ _ q=>q,fun _ _ _ q=>q,fun _ ps q=>⟨#[],by rw[q];simp⟩⟩
theorem Un.refl:Un fs ex H H h h:=Un.kept fun _ _ q=>q
theorem Un.laid(k:∀ b u,h.get? b=some u->h'.get? b=some u)(hp:h.objs.size<=a)(hn:H a=none):Un fs ex H (upd H a o) h h' where
 keep:=fun b u q _ _ _=>k b u q
 slot:=fun b u q _ _ _=>⟨u.slots,k b u q⟩
 free:=fun b u q n _=>by rw[aj (K1 (Kz (Kn q) hp))];exact n
 there:=fun b u q _=>⟨u,k b u q⟩
 kr:=fun b xs q=>by rw[aj (aB q hn)];exact q
 jn:=fun b u xs q=>by rw[aj (aB q hn)];exact q
 iQ:=fun b ps q=>⟨#[],by rw[aj (aB q hn),q];simp⟩
theorem Un.write(mu:Hm (H x))(he:e=x\/H e=some (.own x))(k:∀ b u,b≠e->h.get? b=some u->h'.get? b=some u)(heo:∃ u,h'.get? e=some u):Un fs ex H (upd H x o) h h':=by
 have hx:∀ b,H b=none->b≠x:=fun b n z=>by subst z;rw[n] at mu;exact mu
 have hb:∀ b,H b=none->b≠e:=fun b n z=>by
  subst z;rcases he with r|r
  ·exact hx b n r
  ·rw[n] at r;cases r
 have hm:∀ b u,H b=some u->¬ Hm (some u)->b≠x:=fun b u q nm z=>by subst z;rw[q] at mu;exact nm mu
 refine⟨fun b u q n _ _=>k b u (hb b n) q,fun b u q n _ _=>⟨u.slots,k b u (hb b n) q⟩,fun b u q n _=>by rw[aj (hx b n)];exact n,fun b u q _=>?_,
  fun b xs q=>by rw[aj (hm b _ q fun z=>z)];exact q,fun b u xs q=>by rw[aj (hm b _ q fun z=>z)];exact q,fun b ps q=>⟨#[],by rw[aj (hm b _ q fun z=>z),q];simp⟩⟩
 by_cases hbe:b=e
 ·subst hbe;exact heo
 ·exact⟨u,k b u hbe q⟩
end
noncomputable def gj(h:Heap)(H:Hp):List Addr:=(List.range h.objs.size).filter fun a=>(H a).isSome
noncomputable def kA(h:Heap)(H:Hp):Heap:=PySem.W.hideAll h (gj h H)
theorem uy(h:Heap)(H:Hp):(kA h H).objs.size=h.objs.size:=PySem.W.hideAll_size _ _
theorem gM(e:h.get? b=some o)(n:H b=none):(kA h H).get? b=some o:=
 PySem.W.hideAll_get _ e fun hm=>by
  have q:(H b).isSome=true:=(List.mem_filter.mp hm).2;rw[n] at q;simp at q
theorem zh(e:(kA h H).get? b=some o):h.get? b=some o/\H b=none:=by
 have e':h.get? b=some o:=PySem.W.of_hideAll (gj h H) e;refine⟨e',?_⟩
 cases q:H b with
 |none=>rfl
 |some x =>
  have hm:b∈gj h H:=List.mem_filter.mpr ⟨LI.mpr (Kn e'),by simp[q]⟩
  have z:(kA h H).get? b=none:=PySem.W.hideAll_none (gj h H) hm;rw[z] at e;cases e
noncomputable def A1(g h:Heap)(L:Addr):List (Addr×Obj):=(List.range h.objs.size).filterMap fun a=>if a=L\/(g.get? a).isSome=true then none else (h.get? a).map fun o=>(a,o)
noncomputable def rest(g h:Heap)(L d:Addr):List (Addr×Obj):=(A1 g h L).filter fun p=>decide (p.1≠d)
noncomputable def dP:List Str:=["by_worth","by_weight","code_of"]
noncomputable def bQ(K:Pm):List (Addr×Addr×Str):=dP.filterMap fun x=>(PySem.W.tabIn K x).map fun p=>(p.1,p.2,(x++".<locals>.")++"<lambda>")
noncomputable def TabsOk(K:Pm)(H:Hp):Prop:=∀ t∈bQ K,∃ more,H t.2.1=some (.va (#[.str t.2.2 0]++more))
theorem TabsOk.un{fs ex:List Addr}{H1:Hp}{h1:Heap}(x:TabsOk K H)(u:Un fs ex H H1 h h1):TabsOk K H1:=fun t ht=>by
 obtain⟨m,e⟩:=x t ht;obtain⟨m2,e2⟩:=u.iQ _ _ e;exact⟨m++m2,by rw[e2,Array.append_assoc]⟩
noncomputable def BY(mg:Str->Option Value)(h:Heap):Prop:=∃ bm ob,mg "__builtins__"=some (.ref bm)/\bm≠builtinsNs/\h.get? bm=some ob/\ob.cls=.type "module"/\ob.dict=some builtinsNs/\ob.data=.plain
structure Mod (K:Pm) (mg:Str->Option Value) (base:Heap):Prop where
 A6:K.In base
 glob:base.Ns mainGlobals mg
 blt:∃ mb,base.Ns builtinsNs mb/\∀ x:Str,x≠"__name__"->mb x=bootBuiltins x
 nolimit:base.NoLimit
 codes:∀ t∈bQ K,PySem.W.CodeHd base t.1 t.2.1
 bm:BY mg base
structure Cx where
 prog:Program
 w:World
 K:Pm
 mg:Str->Option Value
 base:Heap
 A:Around
 N:List Str
 s₀:Shared
 H₀:Hp
 env:Env
 outer:List Env
 stack:List Env
 ex:List Addr
 fn:Str->Bool
 calm:Bool
 pn:List (Addr×Obj)
 xe:Value->Shared->Prop
variable{X:Cx}
noncomputable def iX(l:List Env):List Addr:=l.filterMap (·.frame)
abbrev Cx.fs(X:Cx):List Addr:=iX X.outer
noncomputable def D4(sc:Scope)(x:Str):Prop:=sc.names.lookup x=some .local\/sc.names.lookup x=some .cell\/sc.names.lookup x=some .free
noncomputable def Loc(sc:Scope)(x:Str):Prop:=sc.names.lookup x=some .local\/sc.names.lookup x=some .cell
noncomputable def Look(env:Env)(h:Heap)(m:Str->Option Value)(x:Str)(u:Value):Prop:=
 (env.kindOf x=some .local/\m x=some u)\/((env.kindOf x=some .cell\/env.kindOf x=some .free)/\∃ c,env.cells.lookup x=some c/\h.IsCell c (some u))
structure Cx.Ok (X:Cx):Prop where
 mod:Mod X.K X.mg X.base
 kind:X.env.scope.kind=.function
 glob:X.env.globals=mainGlobals
 blt:X.env.builtins=builtinsNs
 above:X.s₀.heap.objs.size<=X.env.locals
 inj:∀ x y c,X.env.cells.lookup x=some c->X.env.cells.lookup y=some c->x=y
 has:∀ x,(X.env.kindOf x=some .cell\/X.env.kindOf x=some .free)->∃ c,X.env.cells.lookup x=some c
 GG:∀ x c,X.fn x=true->X.env.cells.lookup x=some c->X.s₀.heap.objs.size<=c
 hd:X.calm=true->X.A.handled=none
 frames:X.A.frames=some X.stack
 Ha:X.stack=X.outer\/(X.stack=X.env::X.outer/\X.env.frame=some X.env.locals)
 Jq:∀ b∈X.ex,b≠X.env.locals/\∀ x c,X.env.cells.lookup x=some c->c≠b
 bs:∀ b o,X.base.get? b=some o->X.s₀.heap.get? b=some o/\X.H₀ b=none
 yQ:X.base.objs.size<=X.s₀.heap.objs.size
 xj:∀ b o,X.base.get? b=some o->b∉X.ex
 Ax:∀ b∈X.ex,b∉X.fs
 kb:X.s₀.heap.FunFrames X.base X.outer
 E1:∀ b∈X.fs,X.H₀ b=none
 tabs:TabsOk X.K X.H₀
structure Inv (X:Cx) (pins:List (Addr×Obj)) (σ:List (Option V)) (H:Hp) (s:Shared):Prop where
 ok:X.Ok
 os:s.os=X.s₀.os
 bare:AllBare s.gens
 base:Un X.fs X.ex X.H₀ H X.s₀.heap s.heap
 loc:∃ m,s.heap.Ns X.env.locals m/\∀(i:Nat) (x:Str) (v:V),X.N[i]?=some x->σ[i]?=some (some v)->D4 X.env.scope x->∃ u,RelV v u/\Look X.env s.heap m x u
 cell:∀ x c,X.env.cells.lookup x=some c->∃ v,s.heap.IsCell c v
 free:H X.env.locals=none
 dY:∀ x c,X.env.cells.lookup x=some c->H c=none
 pin:∀ p∈X.pn++pins,s.heap.get? p.1=some p.2/\H p.1=none/\p.1≠X.env.locals/\p.1∉X.fs/\∀ v,p.2.data≠.cell v
 aO:fV X.prog X.w H s.heap
 len:σ.length=X.N.length
section
variable {X:Cx} {pins:List (Addr×Obj)} {σ:List (Option V)} {H H':Hp} {s:Shared} {h':Heap}
theorem Cx.Ok.Ig(ok:X.Ok)(e:X.base.get? b=some o):b∉X.fs:=fun hb=>by
 have:=(ok.kb.mem hb).1;rw[e] at this;cases this
theorem Inv.bs(I:Inv X pins σ H s):∀ b o,X.base.get? b=some o->s.heap.get? b=some o/\H b=none:=fun b o e =>
 ⟨I.base.keep b o (I.ok.bs b o e).1 (I.ok.bs b o e).2 (I.ok.Ig e) (I.ok.xj b o e),I.base.free b o (I.ok.bs b o e).1 (I.ok.bs b o e).2 (I.ok.xj b o e)⟩
theorem Inv.bk(I:Inv X pins σ H s):∀ b o,X.base.get? b=some o->s.heap.get? b=some o:=fun b o e=>(I.bs b o e).1
theorem Inv.mod(I:Inv X pins σ H s):Mod X.K X.mg X.base:=I.ok.mod
theorem Inv.h8(I:Inv X pins σ H s):X.K.In s.heap:=I.ok.mod.A6.keeps I.bk
theorem Inv.nolimit(I:Inv X pins σ H s):s.heap.NoLimit:=I.ok.mod.nolimit.keeps I.bk
theorem Inv.lt(I:Inv X pins σ H s):X.env.locals<s.heap.objs.size:=let ⟨_,hn,_⟩:=I.loc;hn.lt
theorem Inv.sz(I:Inv X pins σ H s):X.s₀.heap.objs.size<=s.heap.objs.size:=Kq I.ok.above (LM I.lt)
theorem Inv.FX(I:Inv X pins σ H s)(h:s.heap.objs.size<=a):a∉X.fs:=fun hb=>by
 obtain⟨_,o,ho,_⟩:=I.ok.kb.mem hb;exact absurd (Kz (Kn ho) (Kq I.sz h)) (LG _)
theorem Inv.Am(I:Inv X pins σ H s):∀ x c,X.env.cells.lookup x=some c->c≠X.env.locals:=fun x c e z=>by
 obtain⟨v,o,ho,hd⟩:=I.cell x c e;obtain⟨m,⟨o',es,ep,ho',hd',_⟩,_⟩:=I.loc;rw[z,ho'] at ho;cases ho;rw[hd'] at hd;cases hd
theorem Inv.kb(I:Inv X pins σ H s):s.heap.FunFrames X.base X.outer:=by
 have all:∀(l:List Env),(∀ b∈iX l,b∈X.fs)->X.s₀.heap.FunFrames X.base l->s.heap.FunFrames X.base l:=by
  intro l
  induction l with
  |nil=>intro _ _;trivial
  |cons env r ih =>
   intro hs hl;obtain⟨hk,⟨L,o,hf,hn,ho,hd⟩,hr⟩:=hl;have hL:L∈X.fs:=hs L (by unfold iX;rw[N0,hf];exact Kk)
   obtain⟨sl,e⟩:=I.base.slot L o ho (I.ok.E1 L hL) hL fun z=>I.ok.Ax L z hL;exact⟨hk,⟨L,_,hf,hn,e,hd⟩,ih (fun b hb=>hs b (by unfold iX;rw[N0,hf];exact Kh _ hb)) hr⟩
 exact all X.outer (fun _ hb=>hb) I.ok.kb
theorem Inv.stack(I:Inv X pins σ H s):s.heap.FunFrames X.base X.stack:=by
 rcases I.ok.Ha with e|⟨e,hf⟩
 ·rw[e];exact I.kb
 ·rw[e];obtain⟨m,hn,_⟩:=I.loc;refine .cons (by rw[I.ok.kind];decide) hf hn ?_ I.kb
  exact Heap.get?_none_of_le (Kq I.ok.yQ I.ok.above)
theorem Inv.jL(I:Inv X pins σ H s):∀ b∈iX X.stack,b∈X.env.locals::X.fs:=fun b hb=>by
 rcases I.ok.Ha with e|⟨e,hf⟩
 ·rw[e] at hb;exact Kh _ hb
 ·rw[e] at hb;unfold iX at hb;rw[N0,hf] at hb;exact hb
theorem Inv.jd(I:Inv X pins σ H s):∀ b∈iX X.stack,H b=none:=fun b hb=>by
 rcases Ki.mp (I.jL b hb) with e|hb
 ·rw[e];exact I.free
 ·obtain⟨_,o,ho,_⟩:=I.ok.kb.mem hb;exact I.base.free b o ho (I.ok.E1 b hb) fun z=>I.ok.Ax b z hb
theorem Inv.step{t':Nat}{d':Drawn}(I:Inv X pins σ H s)
  (hch:∀ b∈ch,(b∈X.ex\/X.s₀.heap.objs.size<=b)/\b≠X.env.locals/\(∀ x c,X.env.cells.lookup x=some c->c≠b)/\∀ p∈X.pn++pins,p.1≠b)
  (keep:∀ b o,b≠X.env.locals->b∉X.fs->b∉ch->s.heap.get? b=some o->H b=none->h'.get? b=some o)
  (slot:∀ b o,b≠X.env.locals->b∈X.fs->b∉ch->s.heap.get? b=some o->H b=none->∃ sl,h'.get? b=some {o with slots:=sl}) (free:∀ b o,b∉ch->s.heap.get? b=some o->H b=none->H' b=none)
  (there:∀ b o,b∉ch->s.heap.get? b=some o->∃ o',h'.get? b=some o')
  (kr:∀ b xs,H b=some (.tup xs)->H' b=some (.tup xs)) (jn:∀ b o u,H b=some (.ia o u)->H' b=some (.ia o u)) (iQ:∀ b ps,H b=some (.va ps)->∃ more,H' b=some (.va (ps++more)))
  (ns:∀ m,s.heap.Ns X.env.locals m->h'.Ns X.env.locals m) (aO:fV X.prog X.w H' h') (hg:AllBare g') :
  Inv X pins σ H' {s with heap:=h',gens:=g',drawn:=d',toks:=t'}:=by
 have neL:∀ b o,X.s₀.heap.get? b=some o->b≠X.env.locals:=fun b o e=>K1 (Kz (Kn e) I.ok.above);have neC:∀ b o,X.s₀.heap.get? b=some o->b∉X.ex->b∉ch:=fun b o e hx hb=>by
  rcases (hch b hb).1 with z|z
  ·exact hx z
  ·exact absurd (Kz (Kn e) z) (LG _)
 have cellK:∀ x c,X.env.cells.lookup x=some c->∀ v,s.heap.IsCell c v->h'.IsCell c v:=fun x c e v ⟨o,ho,hd⟩=>by
  have nch:c∉ch:=fun z=>(hch c z).2.2.1 x c e rfl;by_cases hc:c∈X.fs
  ·obtain⟨sl,q⟩:=slot c o (I.Am x c e) hc nch ho (I.dY x c e);exact⟨_,q,hd⟩
  ·exact⟨o,keep c o (I.Am x c e) hc nch ho (I.dY x c e),hd⟩
 refine⟨I.ok,I.os,hg,⟨fun b o e n hb hx=>?_,fun b o e n hb hx=>?_,fun b o e n hx=>?_,fun b o e hx=>?_,fun b xs e=>kr b xs (I.base.kr b xs e),fun b o xs e=>jn b o xs (I.base.jn b o xs e),fun b ps e=>?_⟩,?_,fun x c e=>?_,?_,fun x c e=>?_,fun p hp=>?_,aO,I.len⟩
 ·exact keep b o (neL b o e) hb (neC b o e hx) (I.base.keep b o e n hb hx) (I.base.free b o e n hx)
 ·obtain⟨sl,e1⟩:=I.base.slot b o e n hb hx;obtain⟨sl',e2⟩:=slot b _ (neL b o e) hb (neC b o e hx) e1 (I.base.free b o e n hx);exact⟨sl',e2⟩
 ·obtain⟨o',e1⟩:=I.base.there b o e hx;exact free b o' (neC b o e hx) e1 (I.base.free b o e n hx)
 ·obtain⟨o',e1⟩:=I.base.there b o e hx;exact there b o' (neC b o e hx) e1
 ·obtain⟨m1,e1⟩:=I.base.iQ b ps e;obtain⟨m2,e2⟩:=iQ b _ e1;exact⟨m1++m2,by rw[e2,Array.append_assoc]⟩
 ·obtain⟨m,hn,hl⟩:=I.loc;refine⟨m,ns m hn,fun i x v e1 e2 e3=>?_⟩;obtain⟨u,r,l⟩:=hl i x v e1 e2 e3;refine⟨u,r,?_⟩;rcases l with l|⟨k,c,e,z⟩
  ·exact .inl l
  ·exact .inr ⟨k,c,e,cellK x c e _ z⟩
 ·obtain⟨v,z⟩:=I.cell x c e;exact⟨v,cellK x c e v z⟩
 ·obtain⟨m,⟨o,_,_,ho,_⟩,_⟩:=I.loc;exact free _ o (fun z=>(hch _ z).2.1 rfl) ho I.free
 ·obtain⟨v,o,ho,hd⟩:=I.cell x c e;exact free c o (fun z=>(hch c z).2.2.1 x c e rfl) ho (I.dY x c e)
 ·obtain⟨e,n,ne,nf,d⟩:=I.pin p hp;have nch:p.1∉ch:=fun z=>(hch p.1 z).2.2.2 p hp rfl;exact⟨keep p.1 p.2 ne nf nch e n,free p.1 p.2 nch e n,ne,nf,d⟩
theorem Inv.un{t':Nat}(I:Inv X pins σ H s)(u:Un X.fs [] H H' s.heap h')(aO:fV X.prog X.w H' h'):Inv X pins σ H' {s with heap:=h',toks:=t'}:=by
 obtain⟨m,⟨o,es,ep,ho,r⟩,_⟩:=id I.loc;obtain⟨sl,hL⟩:=u.any ho I.free (by simp)
 exact I.step (g':=s.gens) (d':=s.drawn) (ch:=[]) (fun _ z=>nomatch z) (fun b o _ hb _ e n=>u.keep b o e n hb (by simp)) (fun b o _ hb _ e n=>u.slot b o e n hb (by simp)) (fun b o _ e n=>u.free b o e n (by simp)) (fun b o _ e=>u.there b o e (by simp)) u.kr u.jn u.iQ (fun m' hm=>by
  obtain⟨o',es',ep',ho',r'⟩:=hm;rw[ho] at ho';cases ho';exact⟨_,es',ep',hL,r'⟩) aO I.bare
theorem Inv.call{t':Nat}{d':Drawn}{ch:List Addr}(I:Inv X pins σ H s)(u:Un (iX X.stack) ch H H' s.heap h')(aO:fV X.prog X.w H' h')(hg:AllBare g')
  (hch:∀ b∈ch,(b∈X.ex\/X.s₀.heap.objs.size<=b)/\b≠X.env.locals/\(∀ x c,X.env.cells.lookup x=some c->c≠b)/\∀ p∈X.pn++pins,p.1≠b) :
  Inv X pins σ H' {s with heap:=h',gens:=g',drawn:=d',toks:=t'}:=by
 obtain⟨m,⟨o,es,ep,ho,r⟩,_⟩:=id I.loc;obtain⟨sl,hL⟩:=u.any ho I.free fun z=>(hch _ z).2.1 rfl;exact I.step (ch:=ch) hch (fun b o hL hb hc e n=>u.keep b o e n (fun z=>(Ki.mp (I.jL b z)).elim hL hb) hc) (fun b o _ _ hc e n=>u.any e n hc) (fun b o hc e n=>u.free b o e n hc) (fun b o hc e=>u.there b o e hc) u.kr u.jn u.iQ (fun m' hm=>by
  obtain⟨o',es',ep',ho',r'⟩:=hm;rw[ho] at ho';cases ho';exact⟨_,es',ep',hL,r'⟩) aO hg
theorem Inv.turned{t':Nat}{it:Addr}(I:Inv X pins σ H s)(k:∀ b o,b≠it->s.heap.get? b=some o->h'.get? b=some o)(hn:H it=none)(hL:it≠X.env.locals)
  (h1:it∈X.ex\/X.s₀.heap.objs.size<=it) (h2:∀ x c,X.env.cells.lookup x=some c->c≠it) (h3:∀ p∈X.pn++pins,p.1≠it):Inv X pins σ H {s with heap:=h',toks:=t'}:=by
 have nit:∀ b u,H b=some u->b≠it:=fun b u e z=>by rw[z,hn] at e;cases e
 refine I.step (g':=s.gens) (d':=s.drawn) (ch:=[it]) (fun b hb=>?_) (fun b o _ _ hc e _=>k b o (fun z=>hc (by simp[z])) e) (fun b o _ _ hc e _=>⟨o.slots,k b o (fun z=>hc (by simp[z])) e⟩) (fun _ _ _ _ n=>n)
  (fun b o hc e=>⟨o,k b o (fun z=>hc (by simp[z])) e⟩) (fun _ _ e=>e) (fun _ _ _ e=>e) (fun b ps e=>⟨#[],by rw[e];simp⟩) (fun m hm=>?_) (fun b u e=>?_) I.bare
 ·have e:b=it:=by simpa using hb
  subst e;exact⟨h1,hL,h2,h3⟩
 ·obtain⟨o,es,ep,ho,r⟩:=hm;exact⟨o,es,ep,k _ o (Ne.symm hL) ho,r⟩
 ·refine (I.aO b u e).jN (fun c v hc q=>k c v ?_ q) (fun _ q=>q) (fun _ _ q=>q) fun _ _ _ q=>q;rcases hc with z|z
  ·rw[z];exact nit b u e
  ·exact nit c _ z
theorem Inv.tok(I:Inv X pins σ H s)(t:Nat):Inv X pins σ H {s with toks:=t}:=I.un (h':=s.heap) (t':=t) Un.refl I.aO
theorem Inv.kept{t':Nat}(I:Inv X pins σ H s)(k:∀ b u,s.heap.get? b=some u->h'.get? b=some u):Inv X pins σ H {s with heap:=h',toks:=t'}:=I.un (Un.kept k) (I.aO.kept k)
theorem Inv.laid{o:HO}{t':Nat}(I:Inv X pins σ H s)(k:∀ b u,s.heap.get? b=some u->h'.get? b=some u)(hp:s.heap.objs.size<=a)(new:bt X.prog X.w (upd H a o) h' a o):
  Inv X pins σ (upd H a o) {s with heap:=h',toks:=t'}:=I.un (Un.laid k hp (I.aO.fresh hp)) (I.aO.laid k hp new)
theorem Inv.write{x e:Addr}{o:HO}{t':Nat}(I:Inv X pins σ H s)(mu:Hm (H x))(he:e=x\/H e=some (.own x))(k:∀ b u,b≠e->s.heap.get? b=some u->h'.get? b=some u)(heo:∃ u,h'.get? e=some u)
  (new:bt X.prog X.w (upd H x o) h' x o):Inv X pins σ (upd H x o) {s with heap:=h',toks:=t'}:=I.un (Un.write mu he k heo) (I.aO.write mu he k heo new)
theorem Inv.mI{pins':List (Addr×Obj)}(I:Inv X pins σ H s)(h:∀ p∈pins',s.heap.get? p.1=some p.2/\H p.1=none/\p.1≠X.env.locals/\p.1∉X.fs/\∀ v,p.2.data≠.cell v):Inv X pins' σ H s:=
 ⟨I.ok,I.os,I.bare,I.base,I.loc,I.cell,I.free,I.dY,fun p hp=>(KZ.mp hp).elim (fun z=>I.pin p (Nj _ z)) (h p),I.aO,I.len⟩
theorem oh(hN:N.Nodup)(a:N[i]?=some x)(b:N[j]?=some x):i=j:=by
 obtain⟨h1,e1⟩:=Kf.mp a;obtain⟨h2,e2⟩:=Kf.mp b;exact (List.getElem_inj hN).mp (e1.trans e2.symm)
theorem lp{v:V}{Q:Unit->Shared->Prop}(I:Inv X pins σ H s)(hN:X.N.Nodup)(hi:X.N[i]?=some x)(hx:Loc X.env.scope x)(r:RelV v u)
  (h:∀ s',Inv X pins (σ.set i (some v)) H s'->(∃ a,Heap.SameBut a s.heap s'.heap/\(a=X.env.locals\/X.env.cells.lookup x=some a))->Q () s') (hf:autoParam (X.fn x=true\/X.env.scope.names.lookup x=some .local) ℜ2):wpAny M A (storeName X.env x u) Q E s:=by
 obtain⟨m,hn,hl⟩:=id I.loc;have hcls:(X.env.scope.kind == .class || (X.env.scope.kind == .module && X.env.locals != X.env.globals))=false:=by rw[I.ok.kind];rfl
 have hiσ:i<σ.length:=by rw[I.len];exact (Kf.mp hi).1
 have Am:=I.Am;have tracked:∀{a:Addr} {h':Heap},(∃ o,s.heap.get? a=some o/\H a=none)->Heap.SameBut a s.heap h'->fV X.prog X.w H h':=fun {a h'} ha hs b ob e=>by
  obtain⟨_,_,hfree⟩:=ha;refine (I.aO b ob e).jN (fun c w' hc q=>(hs.2 c ?_).trans q) (fun _ q=>q) (fun _ _ q=>q) fun _ _ _ q=>q;rintro rfl;rcases hc with rfl|hc
  ·rw[hfree] at e;cases e
  ·rw[hfree] at hc;cases hc
 rcases hx with hk|hk
 ·refine wpAny_storeName_local hk hn (fun h' hn' hs=>?_) hcls;obtain⟨oL,_,_,hoL,_⟩:=id hn;refine h _ ⟨I.ok,I.os,I.bare,⟨fun b o e n hb hx=>?_,fun b o e n hb hx=>?_,I.base.free,fun b o e hx=>?_,I.base.kr,I.base.jn,I.base.iQ⟩,⟨_,hn',fun j y v' e1 e2 e3=>?_⟩,fun y c e=>?_,I.free,I.dY,fun p hp=>?_,tracked ⟨oL,hoL,I.free⟩ hs,by simpa using I.len⟩ ⟨_,hs,.inl rfl⟩
  ·exact (hs.2 b (K1 (Kz (Kn e) I.ok.above))).trans (I.base.keep b o e n hb hx)
  ·obtain⟨sl,e1⟩:=I.base.slot b o e n hb hx;exact⟨sl,(hs.2 b (K1 (Kz (Kn e) I.ok.above))).trans e1⟩
  ·obtain⟨o',e1⟩:=I.base.there b o e hx;exact⟨o',(hs.2 b (K1 (Kz (Kn e) I.ok.above))).trans e1⟩
  ·by_cases hj:j=i
   ·subst hj;rw[hi] at e1;cases e1;rw[KH hiσ] at e2;cases e2;exact⟨u,r,.inl ⟨hk,by simp⟩⟩
   ·rw[KU (Ne.symm hj)] at e2;obtain⟨u',r',q⟩:=hl j y v' e1 e2 e3;refine⟨u',r',?_⟩;rcases q with ⟨k,e⟩|⟨k,c,e,z⟩
    ·refine .inl ⟨k,?_⟩;have:y≠x:=fun e=>hj (oh hN e1 (e ▸ hi));simp[this,e]
    ·exact .inr ⟨k,c,e,z.sameBut hs (Am y c e)⟩
  ·obtain⟨w',z⟩:=I.cell y c e;exact⟨w',z.sameBut hs (Am y c e)⟩
  ·obtain⟨e,n,ne,nf,d⟩:=I.pin p hp;exact⟨(hs.2 p.1 ne).trans e,n,ne,nf,d⟩
 ·have hfn:X.fn x=true:=by
   rcases hf with z|z
   ·exact z
   ·rw[z] at hk;cases hk
  obtain⟨c,hc⟩:=I.ok.has x (.inl hk);obtain⟨w',z⟩:=I.cell x c hc;refine wpAny_storeName_cell I.ok.kind hk hc z (fun h' hc' hs=>?_);obtain⟨oc,hoc,hocd⟩:=id z;refine h {s with heap:=h'} ⟨I.ok,I.os,I.bare,⟨fun b o e n hb hx=>?_,fun b o e n hb hx=>?_,I.base.free,fun b o e hx=>?_,I.base.kr,I.base.jn,I.base.iQ⟩,⟨m,hn.sameBut hs (Ne.symm (Am x c hc)),fun j y v' e1 e2 e3=>?_⟩,fun y c' e=>?_,I.free,I.dY,fun p hp=>?_,tracked ⟨oc,hoc,I.dY x c hc⟩ hs,by simpa using I.len⟩ ⟨c,hs,.inr hc⟩
  ·exact (hs.2 b (K1 (Kz (Kn e) (I.ok.GG x c hfn hc)))).trans (I.base.keep b o e n hb hx)
  ·obtain⟨sl,e1⟩:=I.base.slot b o e n hb hx;exact⟨sl,(hs.2 b (K1 (Kz (Kn e) (I.ok.GG x c hfn hc)))).trans e1⟩
  ·obtain⟨o',e1⟩:=I.base.there b o e hx;exact⟨o',(hs.2 b (K1 (Kz (Kn e) (I.ok.GG x c hfn hc)))).trans e1⟩
  ·by_cases hj:j=i
   ·subst hj;rw[hi] at e1;cases e1;rw[KH hiσ] at e2;cases e2;exact⟨u,r,.inr ⟨.inl hk,c,hc,hc'⟩⟩
   ·rw[KU (Ne.symm hj)] at e2;obtain⟨u',r',q⟩:=hl j y v' e1 e2 e3;refine⟨u',r',?_⟩;rcases q with q|⟨k,c',e,z'⟩
    ·exact .inl q
    ·refine .inr ⟨k,c',e,z'.sameBut hs ?_⟩;rintro rfl;exact hj (oh hN e1 (I.ok.inj _ _ _ e hc ▸ hi))
  ·by_cases hcc:c'=c
   ·subst hcc;exact⟨_,hc'⟩
   ·obtain⟨w2,z2⟩:=I.cell y c' e;exact⟨w2,z2.sameBut hs hcc⟩
  ·obtain⟨e,n,ne,nf,d⟩:=I.pin p hp;refine⟨(hs.2 p.1 ?_).trans e,n,ne,nf,d⟩;intro q;rw[q,hoc] at e;have q':oc=p.2:=Option.some.inj e;exact d w' (by rw[<- q'];exact hocd)
theorem ph{v:V}{Q:Unit->Shared->Prop}(I:Inv X pins σ H s)(hN:X.N.Nodup)(hi:X.N[i]?=some x)(hx:Loc X.env.scope x)(r:RelV v u)
  (h:∀ s',Inv X pins (σ.set i (some v)) H s'->Q () s') (hf:autoParam (X.fn x=true\/X.env.scope.names.lookup x=some .local) ℜ2):wpAny M A (storeName X.env x u) Q E s:=
 lp I hN hi hx r (fun s' I' _=>h s' I') hf
theorem Inv.Ba(I:Inv X pins σ H s)(ho:s'.os=s.os)(u:Un (iX X.stack) ch H H' s.heap s'.heap)(aO:fV X.prog X.w H' s'.heap)(hg:AllBare s'.gens)
  (hch:∀ b∈ch,(b∈X.ex\/X.s₀.heap.objs.size<=b)/\b≠X.env.locals/\(∀ x c,X.env.cells.lookup x=some c->c≠b)/\∀ p∈X.pn++pins,p.1≠b):Inv X pins σ H' s':=by
 obtain⟨h',g',d',t',o'⟩:=s';have e:o'=s.os:=ho;subst e;exact I.call (g':=g') (t':=t') (d':=d') u aO hg hch
end
abbrev XK:=Value->Option Addr->Hp->Prop
abbrev St:=List (Option V)
variable{σ:St}
abbrev VK:=V->Hp->Prop
abbrev TE:=St->Hp->VK->Prop
abbrev TT:=St->Hp->(Bool->Hp->Prop)->Prop
abbrev TA:=St->Hp->(List V->Hp->Prop)->Prop
structure Ends where
 nx:St->Hp->Prop
 rt:VK
 bk:St->Hp->Prop:=fun _ _=>False
 ct:St->Hp->Prop:=fun _ _=>False
abbrev TS:=Ends->St->Hp->Prop
noncomputable def EP(X:Cx)(pins:List (Addr×Obj))(σ:St)(Q:VK)(u:Value)(s':Shared):Prop:=∃ v H',Inv X pins σ H' s'/\RelV v u/\Q v H'
noncomputable def TP(X:Cx)(pins:List (Addr×Obj))(σ:St)(Q:Bool->Hp->Prop)(b:Bool)(s':Shared):Prop:=∃ H',Inv X pins σ H' s'/\Q b H'
noncomputable def AP(X:Cx)(pins:List (Addr×Obj))(σ:St)(Q:List V->Hp->Prop)(us:List Value)(s':Shared):Prop:=∃ vs H',Inv X pins σ H' s'/\Vals vs us/\Q vs H'
noncomputable def SP(X:Cx)(pins:List (Addr×Obj))(D:Ends)(f:Flow)(s':Shared):Prop:=
 match f with
 |.next=>∃ σ' H',Inv X pins σ' H' s'/\D.nx σ' H'
 |.brk=>∃ σ' H',Inv X pins σ' H' s'/\D.bk σ' H'
 |.cont=>∃ σ' H',Inv X pins σ' H' s'/\D.ct σ' H'
 |.ret u=>∃ v σ' H',Inv X pins σ' H' s'/\RelV v u/\D.rt v H'
noncomputable def PE(X:Cx)(e:Expr)(t:TE):Prop:=
 ∀(pins:List (Addr×Obj)) (s:Shared) (σ:St) (H:Hp) (Q:VK),Inv X pins σ H s->t σ H Q->wpAny (model X.prog X.w) X.A (eval e X.env) (EP X pins σ Q) X.xe s
noncomputable def PT(X:Cx)(e:Expr)(t:TT):Prop:=
 ∀(pins:List (Addr×Obj)) (s:Shared) (σ:St) (H:Hp) (Q:Bool->Hp->Prop),Inv X pins σ H s->t σ H Q->wpAny (model X.prog X.w) X.A (isTrue e X.env (eval e X.env)) (TP X pins σ Q) X.xe s
noncomputable def PW(X:Cx)(e:Expr)(t:TT):Prop:=
 ∀(whole:Sem Value) (pins:List (Addr×Obj)) (s:Shared) (σ:St) (H:Hp) (Q:Bool->Hp->Prop),Inv X pins σ H s->t σ H Q->wpAny (model X.prog X.w) X.A (isTrue e X.env whole) (TP X pins σ Q) X.xe s
theorem PW.pt{t:TT}(h:PW X e t):PT X e t:=h _
noncomputable def PA(X:Cx)(es:List Expr)(t:TA):Prop:=
 ∀(pos:Pos) (pins:List (Addr×Obj)) (s:Shared) (σ:St) (H:Hp) (Q:List V->Hp->Prop),Inv X pins σ H s->t σ H Q->wpAny (model X.prog X.w) X.A (spliced (backTo pos (starEach es X.env))) (AP X pins σ Q) X.xe s
noncomputable def PS(X:Cx)(st:Stmt)(t:TS):Prop:=
 ∀(pins:List (Addr×Obj)) (s:Shared) (σ:St) (H:Hp) (D:Ends),Inv X pins σ H s->t D σ H->wpAny (model X.prog X.w) X.A (exec st X.env) (SP X pins D) X.xe s
noncomputable def pG(X:Cx)(st:List Stmt)(t:TS):Prop:=
 ∀(pins:List (Addr×Obj)) (s:Shared) (σ:St) (H:Hp) (D:Ends),Inv X pins σ H s->t D σ H->wpAny (model X.prog X.w) X.A (execs st X.env) (SP X pins D) X.xe s
theorem bS{α:Type}{t:Sem α}{Q Q':α->Shared->Prop}(h:wpAny M A t Q E s)(hQ:∀ a s,Q a s->Q' a s):wpAny M A t Q' E s:=Lg h hQ fun _ _ x=>x
section
variable {X:Cx}
noncomputable def Dg(i:Nat):TE:=fun σ H Q=>∃ v,σ[i]?=some (some v)/\Q v H
noncomputable def tC(v:V):TE:=fun _ H Q=>Q v H
theorem CG{pos:Pos}(hN:X.N[i]?=some x)(hv:D4 X.env.scope x)(hd:autoParam ((x ==("__debug__":Str))=false) ℜ1)(hcd:autoParam ((x ==("__classdict__":Str))=false) ℜ1):PE X (.Name x pos) (Dg i):=by
 intro pins s σ H Q I h;obtain⟨v,e,h⟩:=h;obtain⟨m,hn,hl⟩:=I.loc;obtain⟨u,r,l⟩:=hl i x v hN e hv;have fin:EP X pins σ Q u s:=⟨v,H,I,r,h⟩;rcases l with ⟨hk,hm⟩|⟨hk,c,hc,hcell⟩
 ·exact wpAny_Name (wpAny_loadName_local I.ok.kind hk hn hm fin) hd
 ·rcases hk with hk|hk
  ·exact wpAny_Name (wpAny_loadName_cell I.ok.kind hk hc hcell fin) hd
  ·exact wpAny_Name (wpAny_loadName_free I.ok.kind hk hc hcell fin hcd) hd
theorem yj{i j pos}:PE X (.Constant (.int i) j pos) (tC (.int i)):=fun _ _ _ H _ I h=>wpAny_Constant_int ⟨.int i,H,I.tok _,⟨_,rfl⟩,h⟩
theorem AJ{b j pos}:PE X (.Constant (.bool b) j pos) (tC (.bl b)):=fun _ _ _ H _ I h=>Constant_bool ⟨.bl b,H,I,rfl,h⟩
theorem xa{j pos}:PE X (.Constant .none j pos) (tC .aC):=fun _ _ _ H _ I h=>Constant_none ⟨.aC,H,I,rfl,h⟩
theorem vC{x j pos}:PE X (.Constant (.str x) j pos) (tC (.str x)):=fun _ _ _ H _ I h=>Calls.Constant_str ⟨.str x,H,I.tok _,⟨_,rfl⟩,h⟩
noncomputable def Gl(X:Cx)(x:Str):Prop:=X.env.kindOf x=some .globalImplicit
theorem h7{pos:Pos}(I:Inv X pins σ H s)(hg:Gl X x)(hm:X.mg x=some u)(h:Q u s)
  (hd:autoParam ((x ==("__debug__":Str))=false) ℜ1):wpAny (model X.prog X.w) X.A (eval (.Name x pos) X.env) Q E s:=
 NH I.ok.kind hg (Calls.loadGlobal_global (by rw[I.ok.glob];exact I.mod.glob.keeps I.bk) hm h) hd
theorem fQ{pos:Pos}(I:Inv X pins σ H s)(hg:Gl X x)(hm:X.mg x=none)(hv:bootBuiltins x=some u)(h:Q u s)
  (hn:autoParam (x≠"__name__") ℜ1) (hd:autoParam ((x ==("__debug__":Str))=false) ℜ1):wpAny (model X.prog X.w) X.A (eval (.Name x pos) X.env) Q E s:=by
 obtain⟨mb,h1,h2⟩:=I.mod.blt;exact NH I.ok.kind hg (Calls.loadGlobal_builtin (by rw[I.ok.glob];exact I.mod.glob.keeps I.bk) hm (by rw[I.ok.blt];exact h1.keeps I.bk) ((h2 x hn).trans hv) h) hd
theorem mh{v:V}{pos:Pos}(hg:Gl X x)(hm:X.mg x=some u)(r:RelV v u)(hd:autoParam ((x ==("__debug__":Str))=false) ℜ1):PE X (.Name x pos) (tC v):=
 fun _ _ _ H _ I h=>h7 I hg hm ⟨v,H,I,r,h⟩ hd
theorem A5{v:V}{pos:Pos}(hg:Gl X x)(hm:X.mg x=none)(hv:bootBuiltins x=some u)(r:RelV v u)(hn:autoParam (x≠"__name__") ℜ1)(hd:autoParam ((x ==("__debug__":Str))=false) ℜ1):PE X (.Name x pos) (tC v):=
 fun _ _ _ H _ I h=>fQ I hg hm hv ⟨v,H,I,r,h⟩ hn hd
noncomputable def JE(ta tb:TE)(k:Int->Int->Hp->Prop):St->Hp->Prop:=fun σ H=>ta σ H fun x H1=>tb σ H1 fun y H2=>∃ i j,x=.int i/\y=.int j/\k i j H2
variable {a b:Expr} {ta tb:TE} {pos:Pos}
noncomputable def FN(p:Int->Int->Bool)(ta tb:TE):TE:=fun σ H Q=>JE ta tb (fun i j H2=>Q (.bl (p i j)) H2) σ H
abbrev Fc:TE->TE->TE:=FN fun i j=>decide (i=j)
abbrev EU:TE->TE->TE:=FN fun i j=>!decide (i=j)
noncomputable def nU(ta:TE):TE:=fun σ H Q=>ta σ H fun x H1=>Q (.bl (decide (x=.aC))) H1
variable {tA tB':TT} {rest:List Expr}
noncomputable def D9(t u:TT):TT:=fun σ H Q=>t σ H fun c H1=>if c=true then u σ H1 Q else Q false H1
noncomputable def Ja(t u:TT):TT:=fun σ H Q=>t σ H fun c H1=>if c=true then Q true H1 else u σ H1 Q
noncomputable def Fd(t:TT):TT:=fun σ H Q=>t σ H fun c H1=>Q (!c) H1
theorem Au(ha:PT X a tA):PW X (.BoolOp .And [a] pos) tA:=by
 intro wh pins s σ H Q I h;refine isTrue_and (bS (ha pins s σ H Q I h) fun c s1 e=>?_)
 cases c with
 |true=>exact isTrue_and_nil e
 |false=>exact e
theorem Dm(ha:PT X a tA):PW X (.BoolOp .Or [a] pos) tA:=by
 intro wh pins s σ H Q I h;refine isTrue_or (bS (ha pins s σ H Q I h) fun c s1 e=>?_)
 cases c with
 |false=>exact isTrue_or_nil e
 |true=>exact e
theorem CZ(ha:PT X a tA)(hb:PW X (.BoolOp .And (b::rest) pos) tB'):PW X (.BoolOp .And (a::b::rest) pos) (D9 tA tB'):=by
 intro wh pins s σ H Q I h;refine isTrue_and (bS (ha pins s σ H _ I h) fun c s1 ⟨H1,I1,q1⟩=>?_)
 cases c with
 |true=>exact hb wh pins s1 σ H1 Q I1 q1
 |false=>exact⟨H1,I1,q1⟩
theorem E6(ha:PT X a tA)(hb:PW X (.BoolOp .Or (b::rest) pos) tB'):PW X (.BoolOp .Or (a::b::rest) pos) (Ja tA tB'):=by
 intro wh pins s σ H Q I h;refine isTrue_or (bS (ha pins s σ H _ I h) fun c s1 ⟨H1,I1,q1⟩=>?_)
 cases c with
 |true=>exact⟨H1,I1,q1⟩
 |false=>exact hb wh pins s1 σ H1 Q I1 q1
theorem DV(ha:PT X a tA):PT X (.UnaryOp .Not a pos) (Fd tA):=by
 intro pins s σ H Q I h;exact isTrue_not (ha pins s σ H (fun c H1=>Q (!c) H1) I h)
noncomputable def BD(ta tb:TE):TE:=fun σ H Q=>ta σ H fun x H1=>∃ c,x=.bl c/\if c=true then tb σ H1 Q else Q (.bl false) H1
theorem C1{op}{t:TE}(h:PE X a t):PE X (.BoolOp op [a] pos) t:=fun pins s σ H Q I hw=>BoolOp_one (h pins s σ H Q I hw)
theorem C3(ha:PE X a ta)(hb:PE X (.BoolOp .And (b::rest) pos) tb):PE X (.BoolOp .And (a::b::rest) pos) (BD ta tb):=by
 intro pins s σ H Q I h;refine BoolOp_and (bS (ha pins s σ H _ I h) fun v s1 ⟨x,H1,I1,r1,q1⟩=>?_);obtain⟨c,rfl,q1⟩:=q1;cases r1;refine MQ ?_
 cases c with
 |true=>exact hb pins s1 σ H1 Q I1 q1
 |false=>exact⟨.bl false,H1,I1,rfl,q1⟩
noncomputable def Jo(t:TT)(ta tb:TE):TE:=fun σ H Q=>t σ H fun c H1=>if c=true then ta σ H1 Q else tb σ H1 Q
theorem wG(hc:PT X c tA)(ha:PE X a ta)(hb:PE X b tb):PE X (.IfExp c a b pos) (Jo tA ta tb):=by
 intro pins s σ H Q I h;refine wpAny_IfExp (bS (hc pins s σ H _ I h) fun d s1 ⟨H1,I1,q1⟩=>?_)
 cases d with
 |true=>exact ha pins s1 σ H1 Q I1 q1
 |false=>exact hb pins s1 σ H1 Q I1 q1
end
noncomputable def cx(K:Pm)(H:Hp)(a:Addr)(xs:List V):Prop:=
 Rd H a (.lst xs) \/
  ∃(o:Obj) (its:Array Value) (n:Nat),K.lookup a=some o/\o.cls=.type "list"/\o.dict=none/\o.data=.seq its n/\its.size<=sizeLine/\Vals xs its.toList
noncomputable def cc(K:Pm)(H:Hp)(a:Addr)(xs:List V):Prop:=
 Rd H a (.tup xs) \/
  ∃(o:Obj) (its:Array Value) (n:Nat),K.lookup a=some o/\o.cls=.type "tuple"/\o.data=.seq its n/\its.size<=sizeLine/\Vals xs its.toList
noncomputable def Ih:Value->Option V
 |.none=>some .aC
 |.bool b=>some (.bl b)
 |.int i _=>some (.int i)
 |.str x _=>some (.str x)
 |.bytes b _=>some (.sV b)
 |.float b _=>some (.Es b)
 |.ref a=>some (.ref a)
 |.type n=>some (.ty n)
 |_=>none
theorem RelV.abs{x:V}(r:RelV x u):Ih u=some x:=by
 cases x with
 |aC=>cases r;rfl
 |bl _=>cases r;rfl
 |int _=>obtain⟨t,rfl⟩:=r;rfl
 |str _=>obtain⟨t,rfl⟩:=r;rfl
 |sV _=>obtain⟨t,rfl⟩:=r;rfl
 |Es _=>obtain⟨t,rfl⟩:=r;rfl
 |ref _=>cases r;rfl
 |ty _=>cases r;rfl
theorem RelV.inj{x y:V}(r:RelV x u)(q:RelV y u):x=y:=Option.some.inj (r.abs.symm.trans q.abs)
theorem Vals.inj:∀{xs ys:List V} {us:List Value},Vals xs us->Vals ys us->xs=ys
 |_,_,_,.nil,.nil=>rfl
 |_,_,_,.cons r t,.cons r' t'=>by rw[r.inj r',Vals.inj t t']
section
variable {X:Cx} {pins:List (Addr×Obj)} {σ:St} {H:Hp} {s:Shared} {a:Addr} {xs ys:List V}
theorem cx.of(h:H a=some (.lst xs)):cx K H a xs:=.inl (.inl h)
theorem cc.of(h:H a=some (.tup xs)):cc K H a xs:=.inl (.inl h)
theorem Inv.list(I:Inv X pins σ H s)(h:cx X.K H a xs):∃ its:List Value,Vals xs its/\PlainL s.heap a its.toArray/\xs.length<=sizeLine:=by
 rcases h with h|⟨o,its,n,hk,hc,hd,hs,hz,r⟩
 ·obtain⟨z,its,n,r,e⟩:=h.ok I.aO;exact⟨its,r,⟨_,n,e,rfl,rfl,rfl⟩,z⟩
 ·refine⟨its.toList,r,⟨o,n,I.h8 a o hk,hc,hd,by simpa using hs⟩,?_⟩
  have e:=r.length;simp only[KC] at e;lia
theorem Inv.tuple(I:Inv X pins σ H s)(h:cc X.K H a xs):∃ its:List Value,Vals xs its/\IsTup s.heap a its.toArray/\xs.length<=sizeLine:=by
 rcases h with h|⟨o,its,n,hk,hc,hs,hz,r⟩
 ·obtain⟨z,its,r,p⟩:=h.ok I.aO;exact⟨its,r,p.to,z⟩
 ·refine⟨its.toList,r,⟨o,I.h8 a o hk,hc,n,by simpa using hs⟩,?_⟩
  have e:=r.length;simp only[KC] at e;lia
theorem Inv.ke(I:Inv X pins σ H s)(h:cx X.K H a xs)(h':cx X.K H a ys):xs=ys:=by
 obtain⟨its,r,⟨o,n,e,_,_,d⟩,_⟩:=I.list h;obtain⟨its',r',⟨o',n',e',_,_,d'⟩,_⟩:=I.list h';rw[e] at e';cases e';rw[d] at d'
 injection d' with d1 _
 have:its=its':=by simpa using K4 Array.toList d1
 subst this;exact r.inj r'
theorem Inv.ik(I:Inv X pins σ H s)(h:cc X.K H a xs)(h':cc X.K H a ys):xs=ys:=by
 obtain⟨its,r,⟨o,e,_,n,d⟩,_⟩:=I.tuple h;obtain⟨its',r',⟨o',e',_,n',d'⟩,_⟩:=I.tuple h';rw[e] at e';cases e';rw[d] at d'
 injection d' with d1 _
 have:its=its':=by simpa using K4 Array.toList d1
 subst this;exact r.inj r'
end
abbrev Cx.kC(X:Cx)(E:Value->Shared->Prop):Cx:={X with xe:=E}
abbrev Cx.zJ(X:Cx):Cx:=X.kC fun _ _=>False
theorem Cx.Ok.kC(ok:X.Ok)(E:Value->Shared->Prop):(X.kC E).Ok:=
 ⟨ok.mod,ok.kind,ok.glob,ok.blt,ok.above,ok.inj,ok.has,ok.GG,ok.hd,ok.frames,ok.Ha,ok.Jq,ok.bs,ok.yQ,ok.xj,ok.Ax,ok.kb,ok.E1,ok.tabs⟩
theorem Cx.Ok.fU(ok:(X.kC E).Ok):X.Ok:=
 ⟨ok.mod,ok.kind,ok.glob,ok.blt,ok.above,ok.inj,ok.has,ok.GG,ok.hd,ok.frames,ok.Ha,ok.Jq,ok.bs,ok.yQ,ok.xj,ok.Ax,ok.kb,ok.E1,ok.tabs⟩
section
variable {X:Cx} {pins:List (Addr×Obj)} {σ:St} {H:Hp} {s:Shared} {E:Value->Shared->Prop}
theorem Inv.kC(I:Inv X pins σ H s)(E:Value->Shared->Prop):Inv (X.kC E) pins σ H s:=⟨I.ok.kC E,I.os,I.bare,I.base,I.loc,I.cell,I.free,I.dY,I.pin,I.aO,I.len⟩
theorem Inv.fU(I:Inv (X.kC E) pins σ H s):Inv X pins σ H s:=⟨I.ok.fU,I.os,I.bare,I.base,I.loc,I.cell,I.free,I.dY,I.pin,I.aO,I.len⟩
theorem SP.fU{D:Ends}{f:Flow}(h:SP (X.kC E) pins D f s'):SP X pins D f s':=by
 cases f with
 |next=>obtain⟨σ',H',I,q⟩:=h;exact⟨σ',H',I.fU,q⟩
 |brk=>obtain⟨σ',H',I,q⟩:=h;exact⟨σ',H',I.fU,q⟩
 |cont=>obtain⟨σ',H',I,q⟩:=h;exact⟨σ',H',I.fU,q⟩
 |ret u=>obtain⟨v,σ',H',I,r,q⟩:=h;exact⟨v,σ',H',I.fU,r,q⟩
theorem pG.zJ{st:List Stmt}{t:TS}(h:pG X.zJ st t):pG X st t:=fun pins s σ H D I hw =>
 Lg (h pins s σ H D (I.kC _) hw) (fun _ _ q=>q.fU) fun _ _ z=>False.elim z
end
section
variable {X:Cx} {st:Stmt} {rest:List Stmt} {t u:TS} {e:Expr} {te:TE} {pos:Pos}
noncomputable def Bn:TS:=fun D σ H=>D.nx σ H
noncomputable def GH(t u:TS):TS:=fun D σ H=>t {D with nx:=u D} σ H
theorem zM:pG X [] Bn:=fun _ _ σ H _ I h=>Nk ⟨σ,H,I,h⟩
theorem vi(h1:PS X st t)(h2:pG X rest u):pG X (st::rest) (GH t u):=by
 intro pins s σ H D I h;refine wpAny_execs_cons (bS (h1 pins s σ H {D with nx:=u D} I h) fun f s1 q=>?_)
 cases f with
 |next =>
  obtain⟨σ',H',I',q⟩:=q;exact h2 pins s1 σ' H' D I' q
 |ret v=>exact q
 |brk=>exact q
 |cont=>exact q
theorem zu(h1:PS X st t):pG X [st] t:=by
 intro pins s σ H D I h;refine wpAny_execs_cons (bS (h1 pins s σ H D I h) fun f s1 q=>?_)
 cases f with
 |next=>exact Nk q
 |ret v=>exact q
 |brk=>exact q
 |cont=>exact q
theorem Inv.quiet(I:Inv X pins σ H s):interactive X.env=false:=by simp[interactive,I.ok.kind]
noncomputable def AS(te:TE):TS:=fun D σ H=>te σ H fun _ H1=>D.nx σ H1
theorem Av(he:PE X e te)(hs:autoParam (swapsWith e none pos.line X.env=pure false) ℜ0):PS X (.Expr e pos) (AS te):=by
 intro pins s σ H D I h;exact wpAny_Expr_any (bS (he pins s σ H _ I h) fun v s1 ⟨x,H1,I1,r1,q1⟩=>⟨σ,H1,I1,q1⟩) I.quiet hs
noncomputable def Gs(te:TE):TS:=fun D σ H=>te σ H D.rt
theorem BX(he:PE X e te):PS X (.Return (some e) pos) (Gs te):=by
 intro pins s σ H D I h;exact wpAny_Return_some (bS (he pins s σ H _ I h) fun v s1 ⟨x,H1,I1,r1,q1⟩=>⟨x,σ,H1,I1,r1,q1⟩)
noncomputable def Gw(c:TT)(t u:TS):TS:=fun D σ H=>c σ H fun b H1=>if b=true then t D σ H1 else u D σ H1
theorem EI{a b:List Stmt}{tc:TT}(hc:PT X c tc)(ha:pG X a t)(hb:pG X b u):PS X (.If c a b pos) (Gw tc t u):=by
 intro pins s σ H D I h;refine wpAny_If (bS (hc pins s σ H _ I h) fun d s1 ⟨H1,I1,q1⟩=>?_)
 cases d with
 |true=>exact ha pins s1 σ H1 D I1 q1
 |false=>exact hb pins s1 σ H1 D I1 q1
end
abbrev TG:=V->St->Hp->(St->Hp->Prop)->Prop
abbrev u4:=List V->St->Hp->(St->Hp->Prop)->Prop
noncomputable def PG(X:Cx)(target:Expr)(t:TG):Prop:=
 ∀(pins:List (Addr×Obj)) (s:Shared) (σ:St) (H:Hp) (v:V) (u:Value) (Q:St->Hp->Prop),Inv X pins σ H s->RelV v u->t v σ H Q ->
  wpAny (model X.prog X.w) X.A (assign target X.env u) (fun _ s'=>∃ σ' H',Inv X pins σ' H' s'/\Q σ' H') X.xe s
noncomputable def En(X:Cx)(ts:List Expr)(t:u4):Prop:=
 ∀(pins:List (Addr×Obj)) (s:Shared) (σ:St) (H:Hp) (vs:List V) (us:List Value) (Q:St->Hp->Prop),Inv X pins σ H s->Vals vs us->t vs σ H Q ->
  wpAny (model X.prog X.w) X.A (assignInOrder ((assignEach ts X.env).map (·.2)) us) (fun _ s'=>∃ σ' H',Inv X pins σ' H' s'/\Q σ' H') X.xe s
abbrev El:=V->V->V->Hp->(Hp->Prop)->Prop
noncomputable def Ef(X:Cx)(t:El):Prop:=
 ∀(pins:List (Addr×Obj)) (s:Shared) (σ:St) (H:Hp) (o i v:V) (ov iv u:Value) (Q:Hp->Prop),Inv X pins σ H s->RelV o ov->RelV i iv->RelV v u->t o i v H Q ->
  wpAny (model X.prog X.w) X.A (setItem ov iv u) (fun _ s'=>∃ H',Inv X pins σ H' s'/\Q H') X.xe s
section
variable {X:Cx} {pos:Pos}
noncomputable def d5(i:Nat):TG:=fun v σ H Q=>Q (σ.set i (some v)) H
theorem zY(hN:X.N.Nodup)(hi:X.N[i]?=some x)(hx:Loc X.env.scope x)(hf:autoParam (X.fn x=true\/X.env.scope.names.lookup x=some .local) ℜ2):PG X (.Name x pos) (d5 i):=by
 intro pins s σ H v u Q I r h;exact wpAny_assign_Name (ph I hN hi hx r (fun s' I'=>⟨_,H,I',h⟩) hf)
noncomputable def yM:u4:=fun vs σ H Q=>vs=[]/\Q σ H
noncomputable def lJ(t:TG)(u:u4):u4:=fun vs σ H Q=>∃ v r,vs=v::r/\t v σ H fun σ' H'=>u r σ' H' Q
theorem ze:En X [] yM:=by
 intro pins s σ H vs us Q I r h;obtain⟨e,h⟩:=h;subst e;cases r;exact assignInOrder_nil ⟨σ,H,I,h⟩
theorem wC{t:TG}{u:u4}(h1:PG X e t)(h2:En X es u)
  (hs:autoParam ((assignEach (e::es) X.env).map (·.2)=assign e X.env::(assignEach es X.env).map (·.2)) ℜ0):En X (e::es) (lJ t u):=by
 intro pins s σ H vs us Q I r h;obtain⟨v,vr,e1,h⟩:=h;subst e1
 cases r with
 |cons r rr =>
  rw[hs];refine assignInOrder_cons (bS (h1 pins s σ H _ _ _ I r h) fun _ s1 ⟨σ1,H1,I1,q1⟩=>?_);exact h2 pins s1 σ1 H1 _ _ Q I1 rr q1
noncomputable def zr(K:Pm)(n:Nat)(t:u4):TG:=fun v σ H Q=>∃ a xs,v=.ref a/\cc K H a xs/\xs.length=n/\t xs σ H Q
theorem xJ{t:u4}{n:Nat}(hc:X.calm=true)(h:En X es t)
  (hn:autoParam ((assignEach es X.env).length=n) ℜ0) (hst:autoParam ((assignEach es X.env).findIdx? (·.1)=none) ℜ0):PG X (.Tuple es k pos) (zr X.K n t):=by
 intro pins s σ H v u Q I r hw;obtain⟨a,xs,e1,hq,hl,hw⟩:=hw;subst e1;cases r;obtain⟨its,rv,ht,hz⟩:=I.tuple hq;refine assign_Tuple_tuple (I.ok.hd hc) ht (by simp[hn,<- hl,rv.length]) hst fun h' hx=>?_
 have I1:Inv X pins σ H {s with heap:=h'}:=I.kept (t':=s.toks) fun b o e=>hx b o (K1 (Kn e)) e
 exact h pins _ σ H xs _ Q I1 (by simpa using rv) hw
noncomputable def Ga(to ti:TE)(t:El):TG:=fun v σ H Q=>to σ H fun o H1=>ti σ H1 fun i H2=>t o i v H2 fun H3=>Q σ H3
theorem D3{o i:Expr}{to ti:TE}{t:El}(ho:PE X o to)(hi:PE X i ti)(hs:Ef X t)
  (ha:autoParam (∀ v,assign (.Subscript o i pos) X.env v=(do
   let ov <- holding [v] (eval o X.env)
   let iv <- holding [v,ov] (eval i X.env)
   standAt pos
   holding [v,ov,iv] (setItem ov iv v)
   release [v,ov,iv] [])) ℜ3):PG X (.Subscript o i pos) (Ga to ti t):=by
 intro pins s σ H v u Q I r h;rw[ha];refine JU (KP (bS (ho pins s σ H _ I h) fun ov s1 ⟨x,H1,I1,r1,q1⟩=>?_));refine JU (KP (bS (hi pins s1 σ H1 _ I1 q1) fun iv s2 ⟨y,H2,I2,r2,q2⟩=>?_));refine JU (MZ (JU (KP (bS (hs pins s2 σ H2 x y v ov iv u _ I2 r1 r2 r q2) fun _ s3 ⟨H3,I3,q3⟩=>?_))));exact wpAny_release ⟨σ,H3,I3,q3⟩
noncomputable def qo(te:TE)(g:TG):TS:=fun D σ H=>te σ H fun x H1=>g x σ H1 D.nx
theorem CY{te:TE}{g:TG}(he:PE X e te)(hg:PG X tg g)(hs:autoParam (swapsWithSole [tg] e pos.line X.env=pure false) ℜ0)(hw:autoParam (swappedStores [tg] e X.env=pure none) ℜ0)
  (h1:autoParam ((assignEach [tg] X.env).map (·.2)=[assign tg X.env]) ℜ0):PS X (.Assign [tg] e pos) (qo te g):=by
 intro pins s σ H D I h;refine wpAny_Assign_stores (bS (he pins s σ H _ I h) fun v s1 ⟨x,H1,I1,r1,q1⟩=>?_) hs hw;rw[h1];exact bS (hg pins s1 σ H1 x v _ I1 r1 q1) fun _ s2 q=>q
theorem DG{te:TE}{pos':Pos}(hN:X.N.Nodup)(hi:X.N[i]?=some x)(hx:Loc X.env.scope x)(he:PE X e te)(hs:autoParam (swapsWith e (some (.Name x pos')) pos.line X.env=pure false) ℜ0)(hf:autoParam (X.fn x=true\/X.env.scope.names.lookup x=some .local) ℜ2):
  PS X (.Assign [.Name x pos'] e pos) (qo te (d5 i)):=by
 intro pins s σ H D I h;refine wpAny_Assign_Name (bS (he pins s σ H _ I h) fun v s1 ⟨y,H1,I1,r1,q1⟩=>?_) hs;exact ph I1 hN hi hx r1 (fun s2 I2=>⟨_,H1,I2,q1⟩) hf
end
section
variable {X:Cx} {pos:Pos}
noncomputable def yk(c:TT)(tb:TS):TS:=fun D σ H=>∃ W:Nat->St->Hp->Prop,(∃ m,W m σ H)/\∀ m σ H,W m σ H ->
 c σ H fun b H1=>if b=true then ∃ N:St->Hp->Prop,(∀ σ' H',N σ' H'->∃ m',m'<m/\W m' σ' H')/\tb {D with nx:=N,ct:=N,bk:=D.nx} σ H1 else D.nx σ H1
theorem y2{tc:TT}{tb:TS}(hp:PassesOwn (model X.prog X.w) X.A X.env X.xe)(hc:PT X c tc)(hb:pG X body tb):PS X (.While c body [] pos) (yk tc tb):=by
 intro pins s σ H D I h;obtain⟨W,⟨m0,w0⟩,turn⟩:=h;refine wpAny_While (codeAny_whileLoop (fun n s'=>∃ σ' H',Inv X pins σ' H' s'/\W n σ' H') ?_ m0 ⟨σ,H,I,w0⟩);rintro n s1 ⟨σ1,H1,I1,w1⟩;refine LR hp (bS (hc pins s1 σ1 H1 _ I1 (turn n σ1 H1 w1)) fun b s2 ⟨H2,I2,q2⟩=>?_)
 cases b with
 |true =>
  obtain⟨N,hN,q2⟩:=q2;rw[Ke rfl];refine LR hp (bS (hb pins s2 σ1 H2 _ I2 q2) fun f s3 q3=>?_)
  cases f with
  |next =>
   obtain⟨σ3,H3,I3,n3⟩:=q3;obtain⟨m',hm,w3⟩:=hN σ3 H3 n3;exact⟨m',hm,σ3,H3,I3,w3⟩
  |cont =>
   obtain⟨σ3,H3,I3,n3⟩:=q3;obtain⟨m',hm,w3⟩:=hN σ3 H3 n3;exact⟨m',hm,σ3,H3,I3,w3⟩
  |brk=>exact q3
  |ret v=>exact q3
 |false =>
  rw[JZ Ka];exact Nk ⟨σ1,H2,I2,q2⟩
end
structure It where
 go:Nat->Hp->Prop
 G1:Nat->Hp->V->Hp->Prop
 stop:Nat->Hp->Prop
noncomputable def kf(X:Cx)(pins:List (Addr×Obj))(H:Hp)(b:Addr):Prop:=
 H b=none/\b≠X.env.locals/\b∉X.fs/\(b∈X.ex\/X.s₀.heap.objs.size<=b)/\(∀ x c,X.env.cells.lookup x=some c->c≠b)/\∀ p∈X.pn++pins,p.1≠b
theorem Inv.qm{H':Hp}(I:Inv X pins σ H s)(hb:s.heap.objs.size<=b)(hn:H' b=none):kf X pins H' b:=by
 refine⟨hn,Mf (Kz I.lt hb),I.FX hb,.inr (Kq I.sz hb),fun x c e z=>?_,fun p hp z=>?_⟩
 ·obtain⟨v,q⟩:=I.cell x c e;exact absurd (Kz q.lt (by rw[z];exact hb)) (LG _)
 ·exact absurd (Kz (Kn (I.pin p hp).1) (by rw[z];exact hb)) (LG _)
structure Turn (P:Program) (w:World) (K:Pm) (tg:Expr) (J:It) (fp:List Addr) (it:Addr) (tn:Nat->Heap->Prop):Prop where
 mem:it∈fp
 obj:∀ i h,tn i h->∀ b∈fp,∃ o,h.get? b=some o/\∀ v,o.data≠.cell v
 keep:∀ i h h',tn i h->(∀ b∈fp,∀ o,h.get? b=some o->h'.get? b=some o)->tn i h'
 item:∀(X:Cx),X.prog=P->X.w=w->X.K=K->X.calm=true->∀(i:Nat) (pins:List (Addr×Obj)) (s:Shared) (σ:St) (H:Hp) (E:Value->Shared->Prop),Inv X pins σ H s->(∀ b∈fp,kf X pins H b)->tn i s.heap->J.go i H ->
  wpAny (model P w) X.A (pyNext (.ref it)) (fun r s1=>∃ u,r=some u /\
   wpAny (model P w) X.A (letOwnedTupleGo tg (.ref it) u) (fun _ s2=>∃ x H',Inv X pins σ H' s2/\RelV x u/\J.G1 i H x H'/\tn (i+1) s2.heap/\∀ b∈fp,H' b=none) E s1) E s
 done:∀(X:Cx),X.prog=P->X.w=w->X.K=K->X.calm=true->∀(i:Nat) (pins:List (Addr×Obj)) (s:Shared) (σ:St) (H:Hp) (E:Value->Shared->Prop),Inv X pins σ H s->(∀ b∈fp,kf X pins H b)->tn i s.heap->J.stop i H ->
  wpAny (model P w) X.A (pyNext (.ref it)) (fun r s1=>r=none/\Inv X pins σ H s1) E s
 self:∀(A:Around) (i:Nat) (s:Shared) (Q:Value->Shared->Prop) (E:Value->Shared->Prop),tn i s.heap->Q (.ref it) s->wpAny (model P w) A (pyIter (.ref it)) Q E s
abbrev TI:=St->Hp->(It->Hp->Prop)->Prop
noncomputable def Jr(X:Cx)(pins:List (Addr×Obj))(σ:St)(tg:Expr)(R:It->Hp->Prop)(itv:Value)(s2:Shared):Prop:=
 ∃(it:Addr) (fp:List Addr) (tn:Nat->Heap->Prop) (J:It) (H':Hp),itv=.ref it/\Inv X pins σ H' s2/\Turn X.prog X.w X.K tg J fp it tn/\tn 0 s2.heap/\(∀ b∈fp,kf X pins H' b)/\R J H'
noncomputable def PI(X:Cx)(tg iter:Expr)(wi:TI):Prop:=
 ∀(pins:List (Addr×Obj)) (s:Shared) (σ:St) (H:Hp) (R:It->Hp->Prop),Inv X pins σ H s->wi σ H R ->
  wpAny (model X.prog X.w) X.A (eval iter X.env) (fun v s1=>wpAny (model X.prog X.w) X.A (pyIter v) (Jr X pins σ tg R) X.xe s1) X.xe s
theorem nS{it:Addr}{n:String}{vs:Array Value}{Q:Unit->Shared->Prop}(ho:s.heap.get? it=some o)(hc:o.cls=.type n)(hd:o.data=.fields vs)
    (hn:["enumerate","zip","dict_itemiterator","dict_reverseitemiterator","odict_iterator","itertools.zip_longest","itertools.pairwise"].contains n=false) (hQ:Q () s):wpAny M A (letOwnedTupleGo tg (.ref it) u) Q E s:=by
  unfold letOwnedTupleGo
  cases tg<;>first
    |exact Kb hQ
    | (cases u<;>first
        |exact Kb hQ
        | (refine JU (wpAny_load ho ?_)
           rw[hc,hd];show wpAny M A (if (["enumerate","zip","dict_itemiterator","dict_reverseitemiterator","odict_iterator","itertools.zip_longest","itertools.pairwise"].contains n && vs[0]? == some (rawInt _))=true then _ else _) Q E s
           rw[JZ (by intro h;rw[hn,OK] at h;cases h)]
           exact Kb hQ))
noncomputable def G0(K:Pm)(a:Addr):It:=
 ⟨fun i H=>∃ xs x,cx K H a xs/\xs[i]?=some x,fun i H x H'=>H'=H/\∀ xs,cx K H a xs->xs[i]?=some x,fun i H=>∃ xs,cx K H a xs/\xs.length<=i⟩
noncomputable def E2(K:Pm)(a:Addr):It:=
 ⟨fun i H=>∃ xs x,cc K H a xs/\xs[i]?=some x,fun i H x H'=>H'=H/\∀ xs,cc K H a xs->xs[i]?=some x,fun i H=>∃ xs,cc K H a xs/\xs.length<=i⟩
noncomputable def G6(lo:Int)(n:Nat):It:=⟨fun i _=>i<n,fun i H x H'=>H'=H/\x=.int (lo+i),fun i _=>n<=i⟩
theorem sY(a it:Addr):Turn P w K tg (G0 K a) [it] it (fun i h=>h.IsListIter it a i) where
 mem:=by simp
 obj:=fun i h st b hb=>by
  have e:b=it:=by simpa using hb
  subst e;obtain⟨o,e,c,d⟩:=st;exact⟨o,e,fun v z=>by rw[d] at z;cases z⟩
 keep:=fun i h h' st k=>st.at fun o e=>k it (by simp) o e
 item:=by
  intro X hP hw hK hc i pins s σ H E I hf st hg;subst hP hw hK;obtain⟨xs,x,hq,hx⟩:=hg;obtain⟨its,rv,p,hz⟩:=I.list hq;obtain⟨u,hu,ru⟩:=rv.get hx;obtain⟨f0,f1,f2,f3,f4,f5⟩:=hf it (by simp)
  refine O8 st p.isList (x:=u) (by simpa using hu) fun h' st' sb=>?_
  have I1:Inv X pins σ H {s with heap:=h'}:=I.turned (t':=s.toks) (fun b o hb e=>(sb.2 b hb).trans e) f0 f1 f3 f4 f5
  obtain⟨o,e,c,d⟩:=id st';exact⟨u,rfl,nS (s:={s with heap:=h'}) e c d (by decide) ⟨x,H,I1,ru,⟨rfl,fun ys hy=>by rw[I.ke hy hq];exact hx⟩,st',fun b hb=>(hf b hb).1⟩⟩
 done:=by
  intro X hP hw hK hc i pins s σ H E I hf st hg;subst hP hw hK;obtain⟨xs,hq,hx⟩:=hg;obtain⟨its,rv,p,hz⟩:=I.list hq;obtain⟨f0,f1,f2,f3,f4,f5⟩:=hf it (by simp)
  have hl:=rv.length;exact wpAny_pyNext_list_end (I.ok.hd hc) st p.isList (by simp;lia) fun h' eb=>⟨rfl,I.turned (t':=s.toks) (fun b o hb e=>eb b o hb e) f0 f1 f3 f4 f5⟩
 self:=fun _ _ _ _ _ st h=>wpAny_pyIter_listiter st h
theorem pB(a it:Addr):Turn P w K tg (E2 K a) [it] it (fun i h=>h.IsTupleIter it a i) where
 mem:=by simp
 obj:=fun i h st b hb=>by
  have e:b=it:=by simpa using hb
  subst e;obtain⟨o,e,c,d⟩:=st;exact⟨o,e,fun v z=>by rw[d] at z;cases z⟩
 keep:=fun i h h' st k=>st.at fun o e=>k it (by simp) o e
 item:=by
  intro X hP hw hK hc i pins s σ H E I hf st hg;subst hP hw hK;obtain⟨xs,x,hq,hx⟩:=hg;obtain⟨its,rv,p,hz⟩:=I.tuple hq;obtain⟨u,hu,ru⟩:=rv.get hx;obtain⟨f0,f1,f2,f3,f4,f5⟩:=hf it (by simp)
  refine wpAny_pyNext_tuple_item st (show s.heap.IsTuple a its.toArray from p) (x:=u) (by simpa using hu) fun h' st' sb=>?_
  have I1:Inv X pins σ H {s with heap:=h'}:=I.turned (t':=s.toks) (fun b o hb e=>(sb.2 b hb).trans e) f0 f1 f3 f4 f5
  obtain⟨o,e,c,d⟩:=id st';exact⟨u,rfl,nS (s:={s with heap:=h'}) e c d (by decide) ⟨x,H,I1,ru,⟨rfl,fun ys hy=>by rw[I.ik hy hq];exact hx⟩,st',fun b hb=>(hf b hb).1⟩⟩
 done:=by
  intro X hP hw hK hc i pins s σ H E I hf st hg;subst hP hw hK;obtain⟨xs,hq,hx⟩:=hg;obtain⟨its,rv,p,hz⟩:=I.tuple hq;obtain⟨f0,f1,f2,f3,f4,f5⟩:=hf it (by simp)
  have hl:=rv.length;exact wpAny_pyNext_tuple_end (I.ok.hd hc) st (show s.heap.IsTuple a its.toArray from p) (by simp;lia) fun h' eb=>⟨rfl,I.turned (t':=s.toks) (fun b o hb e=>eb b o hb e) f0 f1 f3 f4 f5⟩
 self:=fun _ _ _ _ _ st h=>wpAny_pyIter_tupleiter st h
theorem pO{w:World}(it:Addr)(lo:Int)(n:Nat):Turn P w K tg (G6 lo n) [it] it (fun i h=>IsRangeIter h it (lo+(i:Nat)*1) ((n:Int)-(i:Nat)) 1) where
 mem:=by simp
 obj:=fun i h st b hb=>by
  have e:b=it:=by simpa using hb
  subst e;exact⟨_,st,fun v z=>by
   have z':Data.fields _=Data.cell v:=z
   cases z'⟩
 keep:=fun i h h' st k=>k it (by simp) _ st
 item:=by
  intro X hP hw hK hc i pins s σ H E I hf st hg;subst hP hw hK;obtain⟨f0,f1,f2,f3,f4,f5⟩:=hf it (by simp)
  have W:=Walks.range (prog:=X.prog) (w:=X.w) (I.ok.hd hc) it lo 1 n;refine W.item i s _ _ hg st fun v h' tk hv st' kk=>?_;obtain⟨t,rfl⟩:=hv;have I1:Inv X pins σ H {s with heap:=h',toks:=tk}:=I.turned (fun b o hb e=>kk b o (by simpa using hb) e) f0 f1 f3 f4 f5
  refine⟨_,rfl,nS (s:={s with heap:=h',toks:=tk}) (n:="range_iterator") st' rfl rfl (by decide) ⟨.int (lo+i),H,I1,⟨t,?_⟩,⟨rfl,rfl⟩,st',fun b hb=>(hf b hb).1⟩⟩
  rw[MU]
 done:=by
  intro X hP hw hK hc i pins s σ H E I hf st hg;subst hP hw hK;obtain⟨f0,f1,f2,f3,f4,f5⟩:=hf it (by simp)
  exact wpAny_pyNext_range_end (I.ok.hd hc) st (by have:n<=i:=hg;lia) fun h' eb=>⟨rfl,I.turned (t':=s.toks) (fun b o hb e=>eb b o hb e) f0 f1 f3 f4 f5⟩
 self:=fun _ _ _ _ _ st h=>wpAny_pyIter_rangeiter st h
section
variable {X:Cx} {tg:Expr}
theorem yp{R:It->Hp->Prop}{lo hi:Int}{t u v:Tok}{tk:Nat}(I:Inv X pins σ H s)(h1:-(2^62)<=lo)(h2:lo<2^62)(h3:-(2^62)<=hi)(h4:hi<2^62)
  (q:R (G6 lo (hi-lo).toNat) H):wpAny (model X.prog X.w) X.A (pyIter (.ref s.heap.objs.size)) (Jr X pins σ tg R) E {s with heap:=s.heap.push {cls:=.type "range",data:=.fields #[.int lo t,.int hi u,.int 1 v]},toks:=tk}:=by
 refine wpAny_pyIter_range (IsRange.new ..) (small_one h1 h2 h3 h4) ?_;have I1:Inv X pins σ H {s with heap:=s.heap.push {cls:=.type "range",data:=.fields #[.int lo t,.int hi u,.int 1 v]},toks:=tk}:=I.kept fun b o e=>JW _ e
 refine⟨(s.heap.push {cls:=.type "range",data:=.fields #[.int lo t,.int hi u,.int 1 v]}).objs.size,[(s.heap.push {cls:=.type "range",data:=.fields #[.int lo t,.int hi u,.int 1 v]}).objs.size],_,_,H,rfl,
  I1.kept (t':=tk) fun b o e=>JW _ e,pO _ lo (hi-lo).toNat,?_,fun b hb=>?_,q⟩
 ·have e1:lo+((0:Nat):Int)*1=lo:=by simp
  have e2:(((hi-lo).toNat:Nat):Int)-((0:Nat):Int)=Builtin.Range.rangeSize lo hi 1:=by rw[OW];split<;>lia
  show IsRangeIter _ _ (lo+((0:Nat):Int)*1) ((((hi-lo).toNat:Nat):Int)-((0:Nat):Int)) 1;rw[e1,e2];exact Km _ rfl
 ·have e:b=(s.heap.push {cls:=.type "range",data:=.fields #[.int lo t,.int hi u,.int 1 v]}).objs.size:=by simpa using hb
  subst e;exact I1.qm (Kc _) (I1.aO.fresh (Kc _))
noncomputable def wq(ta:TA):TI:=fun σ H R=>ta σ H fun vs H1=>∃ j:Int,vs=[.int j]/\-(2^62)<=j/\j<2^62/\R (G6 0 j.toNat) H1
theorem u3{a:Expr}{ta:TA}{p pos:Pos}(hg:Gl X "range")(hm:X.mg "range"=none)(ha:PA X [a] ta)(hs:autoParam (starEach [a] X.env=[(false,eval a X.env)]) ℜ0):PI X tg (.Call (.Name "range" p) [a] [] pos) (wq ta):=by
 intro pins s σ H R I h;refine Call_ (fQ I hg hm boot_range (Ly (bS (ha pos pins s σ H _ I h) fun us s1 ⟨vs,H1,I1,r1,q1⟩=>?_) hs rfl));obtain⟨j,e,q1,q2,q⟩:=q1;subst e
 cases r1 with
 |cons r rr =>
  cases rr;obtain⟨t,rfl⟩:=r;exact call_range_1 (yp I1 (by lia) (by lia) q1 q2 (by simpa using q))
noncomputable def FA(wi:TI)(g:TG)(tb:TS):TS:=fun D σ H=>wi σ H fun J H1=>∃ W:Nat->Nat->St->Hp->Prop,(∃ m,W 0 m σ H1)/\∀ i m σ H,W i m σ H ->
 (J.stop i H/\D.nx σ H)\/(J.go i H/\∃ N:St->Hp->Prop,(∀ σ' H',N σ' H'->∃ m',m'<m/\W (i+1) m' σ' H')/\∀ x H',J.G1 i H x H'->g x σ H' fun σ2 H2=>tb {D with nx:=N,ct:=N,bk:=D.nx} σ2 H2)
noncomputable def jw(fp:List Addr)(h:Heap):List (Addr×Obj):=fp.filterMap fun b=>(h.get? b).map fun o=>(b,o)
theorem fk(hb:b∈fp)(e:h.get? b=some o):(b,o)∈jw fp h:=MJ.mpr ⟨b,hb,by rw[e];rfl⟩
theorem uO{p:Addr×Obj}(hp:p∈jw fp h):p.1∈fp/\h.get? p.1=some p.2:=by
 obtain⟨b,hb,e⟩:=MJ.mp hp
 cases q:h.get? b with
 |none=>rw[q] at e;cases e
 |some o =>
  rw[q] at e;have e':(b,o)=p:=Option.some.inj e;subst e';exact⟨hb,q⟩
theorem Inv.pinned(I:Inv X pins σ H s)(hf:∀ b∈fp,kf X pins H b)(ho:∀ b∈fp,∃ o,s.heap.get? b=some o/\∀ v,o.data≠.cell v):Inv X (pins++jw fp s.heap) σ H s:=
 I.mI fun p hp=>(KZ.mp hp).elim (fun z=>I.pin p (K2 _ z)) fun z=>by
  obtain⟨hb,e⟩:=uO z;obtain⟨f0,f1,f2,_⟩:=hf p.1 hb;obtain⟨o,e',d⟩:=ho p.1 hb;rw[e] at e';cases e';exact⟨e,f0,f1,f2,d⟩
theorem Inv.fN{pl:List (Addr×Obj)}(I:Inv X (pins++pl) σ H s):Inv X pins σ H s:=I.mI fun p hp=>I.pin p (K2 _ (Nj _ hp))
theorem Dd{iter:Expr}{wi:TI}{g:TG}{tb:TS}{pos:Pos}(hp:PassesOwn (model X.prog X.w) X.A X.env X.xe)(hc:X.calm=true)(hi:PI X tg iter wi)(hg:PG X tg g)(hb:pG X body tb)
  (hs:autoParam (∀ x,foldedSetIterable iter X.env x=pure x) ℜ3):PS X (.For tg iter body [] pos) (FA wi g tb):=by
 intro pins s σ H D I h;refine wpAny_For (bS (hi pins s σ H _ I h) fun v s1 h1=>bS h1 fun itv s2 h2=>?_) hs;obtain⟨it,fp,tn,J,H2,e,I2,T,st2,f2,W,⟨m0,w0⟩,turn⟩:=h2;subst e;have stat:∀{H':Hp},(∀ b∈fp,H' b=none)->∀ b∈fp,kf X pins H' b:=fun hn b hb=>⟨hn b hb,(f2 b hb).2⟩;refine codeAny_forLoop_any (fun n s'=>∃ i σ' H',Inv X pins σ' H' s'/\tn i s'.heap/\(∀ b∈fp,H' b=none)/\W i n σ' H') ?_ m0 ⟨0,σ,H2,I2,st2,fun b hb=>(f2 b hb).1,w0⟩;rintro n s3 ⟨i,σ3,H3,I3,st3,fr3,w3⟩;rcases turn i n σ3 H3 w3 with ⟨stop,qn⟩|⟨go,N,hN,step⟩
 ·refine LR hp (bS (T.done X rfl rfl rfl hc i pins s3 σ3 H3 X.xe I3 (stat fr3) st3 stop) fun r s4 ⟨hr,I4⟩=>?_);subst hr;exact Nk ⟨σ3,H3,I4,qn⟩
 ·refine LR hp (bS (T.item X rfl rfl rfl hc i pins s3 σ3 H3 X.xe I3 (stat fr3) st3 go) fun r s4 ⟨u,hr,h4⟩=>?_);subst hr;refine LR hp (bS h4 fun _ s5 ⟨x,H5,I5,r5,y5,st5,fr5⟩=>?_);have I5':=I5.pinned (stat fr5) (T.obj _ _ st5);refine LR hp (bS (hg _ s5 σ3 H5 x u _ I5' r5 (step x H5 y5)) fun _ s6 ⟨σ6,H6,I6,q6⟩=>?_);refine LR hp (bS (hb _ s6 σ6 H6 _ I6 q6) fun f s7 q7=>?_);have again:∀{σ7:St} {H7:Hp},Inv X (pins++jw fp s5.heap) σ7 H7 s7->N σ7 H7->∃ m,m<n/\∃ i σ' H',Inv X pins σ' H' s7/\tn i s7.heap/\(∀ b∈fp,H' b=none)/\W i m σ' H':=fun {σ7 H7} I7 n7=>by
   obtain⟨m',hm,w7⟩:=hN σ7 H7 n7;refine⟨m',hm,i+1,σ7,H7,I7.fN,T.keep _ _ _ st5 fun b hb o e=>(I7.pin (b,o) (K2 _ (K2 _ (fk hb e)))).1,fun b hb=>?_,w7⟩;obtain⟨o,e,d⟩:=T.obj _ _ st5 b hb;exact (I7.pin (b,o) (K2 _ (K2 _ (fk hb e)))).2.1
  cases f with
  |next=>obtain⟨σ7,H7,I7,n7⟩:=q7;exact again I7 n7
  |cont=>obtain⟨σ7,H7,I7,n7⟩:=q7;exact again I7 n7
  |brk=>obtain⟨σ7,H7,I7,q7⟩:=q7;exact⟨σ7,H7,I7.fN,q7⟩
  |ret v=>obtain⟨x7,σ7,H7,I7,r7,q7⟩:=q7;exact⟨x7,σ7,H7,I7.fN,r7,q7⟩
end
abbrev R2:=V->V->Hp->VK->Prop
variable{r:R2}
noncomputable def cK(X:Cx)(f:Value->Value->Sem Value)(r:R2):Prop:=
 ∀(pins:List (Addr×Obj)) (s:Shared) (σ:St) (H:Hp) (x y:V) (v u:Value) (Q:VK),Inv X pins σ H s->RelV x v->RelV y u->r x y H Q ->
  wpAny (model X.prog X.w) X.A (f v u) (EP X pins σ Q) X.xe s
noncomputable def Hq(X:Cx)(f:Value->Sem Value)(r:V->Hp->VK->Prop):Prop:=
 ∀(pins:List (Addr×Obj)) (s:Shared) (σ:St) (H:Hp) (x:V) (v:Value) (Q:VK),Inv X pins σ H s->RelV x v->r x H Q ->
  wpAny (model X.prog X.w) X.A (f v) (EP X pins σ Q) X.xe s
noncomputable def bf(X:Cx)(f:Value)(r:List V->Hp->VK->Prop):Prop:=
 ∀(pins:List (Addr×Obj)) (s:Shared) (σ:St) (H:Hp) (xs:List V) (us:List Value) (Q:VK),Inv X pins σ H s->Vals xs us->r xs H Q ->
  wpAny (model X.prog X.w) X.A (call f us) (EP X pins σ Q) X.xe s
noncomputable def HF(X:Cx)(r:V->Hp->(Bool->Hp->Prop)->Prop):Prop:=
 ∀(pins:List (Addr×Obj)) (s:Shared) (σ:St) (H:Hp) (x:V) (v:Value) (Q:Bool->Hp->Prop),Inv X pins σ H s->RelV x v->r x H Q ->
  wpAny (model X.prog X.w) X.A (truthy v) (TP X pins σ Q) X.xe s
noncomputable def zp(r:R2)(ta tb:TE):TE:=fun σ H Q=>ta σ H fun x H1=>tb σ H1 fun y H2=>r x y H2 Q
noncomputable def J8(r:V->Hp->VK->Prop)(ta:TE):TE:=fun σ H Q=>ta σ H fun x H1=>r x H1 Q
noncomputable def rI(C:Int->Int->Prop)(g:Int->Int->V):R2:=fun x y H Q=>∃ i j,x=.int i/\y=.int j/\C i j/\Q (g i j) H
noncomputable def yC(g:Int->Int->V):R2:=fun x y H Q=>∃ i j,x=.int i/\y=.int j/\Q (g i j) H
noncomputable def rU(g:Int->V):V->Hp->VK->Prop:=fun x H Q=>∃ i,x=.int i/\Q (g i) H
section
variable {X:Cx} {a b c:Expr} {ta tb tc:TE} {pos:Pos}
theorem Ck(ha:PE X a ta)(hb:PE X b tb){R:V->V->Hp->Prop}(I:Inv X pins σ H s)
  (h:ta σ H fun x H1=>tb σ H1 fun y H2=>R x y H2)  
  (hf:∀ v u s2 x y H2,Inv X pins σ H2 s2->RelV x v->RelV y u->R x y H2->wpAny (model X.prog X.w) X.A (f v u) Q X.xe s2) :
  wpAny (model X.prog X.w) X.A (eval a X.env) (fun v s₁=>wpAny (model X.prog X.w) X.A (eval b X.env) (fun u s₂=>wpAny (model X.prog X.w) X.A (f v u) Q X.xe s₂) X.xe s₁) X.xe s:=by
 refine bS (ha pins s σ H _ I h) fun v s1 ⟨x,H1,I1,r1,q1⟩=>?_;refine bS (hb pins s1 σ H1 _ I1 q1) fun u s2 ⟨y,H2,I2,r2,q2⟩=>?_;exact hf v u s2 x y H2 I2 r1 r2 q2
theorem G9{op:Operator}(ho:cK X (binaryOp op) r)(ha:PE X a ta)(hb:PE X b tb):PE X (.BinOp a op b pos) (zp r ta tb):=by
 intro pins s σ H Q I h;exact wpAny_BinOp (Ck ha hb I h fun v u s2 x y H2 I2 rx ry q=>ho pins s2 σ H2 x y v u Q I2 rx ry q)
theorem G8{op:UnaryOp}{r:V->Hp->VK->Prop}(ho:Hq X (unaryOp op) r)(ha:PE X a ta):PE X (.UnaryOp op a pos) (J8 r ta):=by
 intro pins s σ H Q I h;exact UnaryOp_ (bS (ha pins s σ H _ I h) fun v s1 ⟨x,H1,I1,r1,q1⟩=>ho pins s1 σ H1 x v Q I1 r1 q1)
theorem GR{C:Int->Int->Prop}{g:Int->Int->Int}
  (rule:∀(i j:Int) (t u:Tok) (s:Shared) (Q:Value->Shared->Prop) (E:Value->Shared->Prop),C i j->Q (.int (g i j) s.toks) {s with toks:=s.toks+1}->wpAny (model X.prog X.w) X.A (f (.int i t) (.int j u)) Q E s) :
  cK X f (rI C fun i j=>.int (g i j)):=by
 intro pins s σ H x y v u Q I rx ry h;obtain⟨i,j,rfl,rfl,hc,q⟩:=h;obtain⟨t,rfl⟩:=rx;obtain⟨t',rfl⟩:=ry;exact rule i j t t' s _ _ hc ⟨.int (g i j),H,I.tok _,⟨_,rfl⟩,q⟩
theorem Fj{g:Int->Int->Int}
  (rule:∀(i j:Int) (t u:Tok) (s:Shared) (Q:Value->Shared->Prop) (E:Value->Shared->Prop),Q (.int (g i j) s.toks) {s with toks:=s.toks+1}->wpAny (model X.prog X.w) X.A (f (.int i t) (.int j u)) Q E s) :
  cK X f (yC fun i j=>.int (g i j)):=by
 intro pins s σ H x y v u Q I rx ry h;obtain⟨i,j,rfl,rfl,q⟩:=h;obtain⟨t,rfl⟩:=rx;obtain⟨t',rfl⟩:=ry;exact rule i j t t' s _ _ ⟨.int (g i j),H,I.tok _,⟨_,rfl⟩,q⟩
theorem zU{g:Int->Int->Bool}
  (rule:∀(i j:Int) (t u:Tok) (s:Shared) (Q:Value->Shared->Prop) (E:Value->Shared->Prop),Q (.bool (g i j)) s->wpAny (model X.prog X.w) X.A (f (.int i t) (.int j u)) Q E s) :
  cK X f (yC fun i j=>.bl (g i j)):=by
 intro pins s σ H x y v u Q I rx ry h;obtain⟨i,j,rfl,rfl,q⟩:=h;obtain⟨t,rfl⟩:=rx;obtain⟨t',rfl⟩:=ry;exact rule i j t t' s _ _ ⟨.bl (g i j),H,I,rfl,q⟩
noncomputable def HW(i j:Int):Prop:=0<=j/\j<=1000000/\i.natAbs<2^64
noncomputable def nX(i j:Int):Prop:=(-(2^64)<i/\i<2^64)\/(-(2^64)<j/\j<2^64)
theorem nX.ok{i j:Int}(h:nX i j):IntMulOk i j:=by
 rcases h with ⟨h1,h2⟩|⟨h1,h2⟩
 ·exact .of_left (intBits_le_64 h1 h2)
 ·exact .of_right (intBits_le_64 h1 h2)
theorem C8:cK X (binaryOp .Add) (yC fun i j=>.int (i+j)):=Fj fun _ _ _ _ _ _ _ q=>add_int q
theorem cY:cK X (binaryOp .Sub) (yC fun i j=>.int (i-j)):=Fj fun _ _ _ _ _ _ _ q=>sub_int q
theorem DS:cK X (binaryOp .Mult) (rI nX fun i j=>.int (i*j)):=GR fun _ _ _ _ _ _ _ hc q=>mul_int q hc.ok
theorem eI:cK X (binaryOp .Mod) (rI (fun _ j=>0<j) fun i j=>.int (i % j)):=GR fun i j _ _ _ _ _ hc q=>by
 have h1:(0:Int)<j:=hc;exact mod_int' (by lia) (by rw[Int.fmod_eq_emod_of_nonneg i (by lia)];exact q)
theorem C7:cK X (binaryOp .Pow) (rI HW fun i j=>.int (i^j.toNat)):=GR fun _ _ _ _ _ _ _ hc q=>pow_int_small hc.1 hc.2.1 hc.2.2 q
theorem JC{f:Value->Sem Value}{g:Int->Int}
  (rule:∀(i:Int) (t:Tok) (s:Shared) (Q:Value->Shared->Prop) (E:Value->Shared->Prop),Q (.int (g i) s.toks) {s with toks:=s.toks+1}->wpAny (model X.prog X.w) X.A (f (.int i t)) Q E s) :
  Hq X f (rU fun i=>.int (g i)):=by
 intro pins s σ H x v Q I rx h;obtain⟨i,rfl,q⟩:=h;obtain⟨t,rfl⟩:=rx;exact rule i t s _ _ ⟨.int (g i),H,I.tok _,⟨_,rfl⟩,q⟩
theorem DM:Hq X (unaryOp .USub) (rU fun i=>.int (-i)):=JC fun _ _ _ _ _ q=>neg_int q
end
noncomputable def FF:V->V->Bool
 |.aC,.aC=>true|.aC,.int _=>true|.int _,.aC=>true|.aC,.bl _=>true|.bl _,.aC=>true|.aC,.str _=>true|.str _,.aC=>true
 |.int _,.int _=>true|.bl _,.bl _=>true|.str _,.str _=>true|.sV _,.sV _=>true
 |.int _,.str _=>true|.str _,.int _=>true|.bl _,.str _=>true|.str _,.bl _=>true
 |_,_=>false
noncomputable def Jt:R2:=fun x y H Q=>FF x y=true/\Q (.bl (decide (x=y))) H
noncomputable def Js:R2:=fun x y H Q=>FF x y=true/\Q (.bl (!decide (x=y))) H
theorem sP{i j:Int}:decide (V.int i=V.int j)=(i == j):=by
 rw[Nl];simp
theorem wb{i j:Bool}:decide (V.bl i=V.bl j)=(i == j):=by
 rw[Nl];simp
theorem rY{i j:Str}:decide (V.str i=V.str j)=(i == j):=by
 rw[Nl];simp
theorem sT{i j:Array UInt8}:decide (V.sV i=V.sV j)=(i.toList == j.toList):=by
 rw[Nl];cases i;cases j;simp
section
variable {X:Cx} {a b c:Expr} {ta tb tc:TE} {pos:Pos}
theorem aI{Q:VK}{k k':Bool}(I:Inv X pins σ H s)(q:Q (.bl k) H)(e:k=k'):EP X pins σ Q (.bool k') s:=by
 subst e;exact⟨.bl k,H,I,rfl,q⟩
theorem Gj:cK X (compareOp .Eq) Jt:=by
 intro pins s σ H x y v u Q I rx ry h;obtain⟨hs,q⟩:=h
 cases x with
 |aC =>
  cases rx
  cases y with
  |aC=>cases ry;exact PySem.EqNone.eq_none_none (aI I q (by simp))
  |bl j=>cases ry;exact PySem.EqNone.eq_none_bool (aI I q (by simp))
  |int j=>obtain⟨t',rfl⟩:=ry;exact PySem.EqNone.eq_none_int (aI I q (by simp))
  |str j=>obtain⟨t',rfl⟩:=ry;exact PySem.EqNone.eq_none_str (aI I q (by simp))
  |_=>exact absurd (show false=true from hs) Ka
 |bl i =>
  cases rx
  cases y with
  |aC=>cases ry;exact PySem.EqNone.eq_bool_none (aI I q (by simp))
  |bl j=>cases ry;exact eq_bool (aI I q wb)
  |str j=>obtain⟨t',rfl⟩:=ry;exact PySem.EqMixed.eq_bool_str (aI I q (by simp))
  |_=>exact absurd (show false=true from hs) Ka
 |int i =>
  obtain⟨t,rfl⟩:=rx
  cases y with
  |aC=>cases ry;exact PySem.EqNone.eq_int_none (aI I q (by simp))
  |int j=>obtain⟨t',rfl⟩:=ry;exact eq_int (aI I q sP)
  |str j=>obtain⟨t',rfl⟩:=ry;exact PySem.EqMixed.eq_int_str (aI I q (by simp))
  |_=>exact absurd (show false=true from hs) Ka
 |str i =>
  obtain⟨t,rfl⟩:=rx
  cases y with
  |aC=>cases ry;exact PySem.EqNone.eq_str_none (aI I q (by simp))
  |bl j=>cases ry;exact PySem.EqMixed.eq_str_bool (aI I q (by simp))
  |int j=>obtain⟨t',rfl⟩:=ry;exact PySem.EqMixed.eq_str_int (aI I q (by simp))
  |str j=>obtain⟨t',rfl⟩:=ry;exact eq_str (aI I q rY)
  |_=>exact absurd (show false=true from hs) Ka
 |sV i =>
  obtain⟨t,rfl⟩:=rx
  cases y with
  |sV j=>obtain⟨t',rfl⟩:=ry;exact PySem.W.eq_bytes (aI I q sT)
  |_=>exact absurd (show false=true from hs) Ka
 |_=>cases y<;>exact absurd (show false=true from hs) Ka
theorem Gu:cK X (compareOp .NotEq) Js:=by
 intro pins s σ H x y v u Q I rx ry h;obtain⟨hs,q⟩:=h
 cases x with
 |aC =>
  cases rx
  cases y with
  |aC=>cases ry;exact PySem.EqNone.ne_none_none (aI I q (by simp))
  |bl j=>cases ry;exact PySem.EqNone.ne_none_bool (aI I q (by simp))
  |int j=>obtain⟨t',rfl⟩:=ry;exact PySem.EqNone.ne_none_int (aI I q (by simp))
  |str j=>obtain⟨t',rfl⟩:=ry;exact PySem.EqNone.ne_none_str (aI I q (by simp))
  |_=>exact absurd (show false=true from hs) Ka
 |bl i =>
  cases rx
  cases y with
  |aC=>cases ry;exact PySem.EqNone.ne_bool_none (aI I q (by simp))
  |bl j=>cases ry;exact ne_bool (aI I q (K4 not wb))
  |str j=>obtain⟨t',rfl⟩:=ry;exact PySem.EqMixed.ne_bool_str (aI I q (by simp))
  |_=>exact absurd (show false=true from hs) Ka
 |int i =>
  obtain⟨t,rfl⟩:=rx
  cases y with
  |aC=>cases ry;exact PySem.EqNone.ne_int_none (aI I q (by simp))
  |int j=>obtain⟨t',rfl⟩:=ry;exact ne_int (aI I q (K4 not sP))
  |str j=>obtain⟨t',rfl⟩:=ry;exact PySem.EqMixed.ne_int_str (aI I q (by simp))
  |_=>exact absurd (show false=true from hs) Ka
 |str i =>
  obtain⟨t,rfl⟩:=rx
  cases y with
  |aC=>cases ry;exact PySem.EqNone.ne_str_none (aI I q (by simp))
  |bl j=>cases ry;exact PySem.EqMixed.ne_str_bool (aI I q (by simp))
  |int j=>obtain⟨t',rfl⟩:=ry;exact PySem.EqMixed.ne_str_int (aI I q (by simp))
  |str j=>obtain⟨t',rfl⟩:=ry;exact ne_str (aI I q (K4 not rY))
  |_=>exact absurd (show false=true from hs) Ka
 |sV i =>
  obtain⟨t,rfl⟩:=rx
  cases y with
  |sV j=>obtain⟨t',rfl⟩:=ry;exact PySem.W.ne_bytes (aI I q (K4 not sT))
  |_=>exact absurd (show false=true from hs) Ka
 |_=>cases y<;>exact absurd (show false=true from hs) Ka
theorem oi:cK X (compareOp .Lt) (yC fun i j=>.bl (decide (i<j))):=zU fun _ _ _ _ _ _ _ q=>lt_int q
theorem Fg:cK X (compareOp .LtE) (yC fun i j=>.bl (decide (i<=j))):=zU fun _ _ _ _ _ _ _ q=>le_int q
theorem AO:cK X (compareOp .Gt) (yC fun i j=>.bl (decide (j<i))):=zU fun _ _ _ _ _ _ _ q=>gt_int q
theorem Bp:cK X (compareOp .GtE) (yC fun i j=>.bl (decide (j<=i))):=zU fun _ _ _ _ _ _ _ q=>ge_int q
theorem tE:cK X (compareOp .In) (fun x y H Q=>∃ i j,x=.str i/\y=.str j/\Q (.bl (!(Builtin.Str.occurrences j i 0 j.length 1).isEmpty)) H):=by
 intro pins s σ H x y v u Q I rx ry h;obtain⟨i,j,rfl,rfl,q⟩:=h;obtain⟨t,rfl⟩:=rx;obtain⟨t',rfl⟩:=ry;exact in_str (aI I q rfl)
theorem fw:cK X (compareOp .Is) (fun x y H Q=>y=.aC/\Q (.bl (decide (x=.aC))) H):=by
 intro pins s σ H x y v u Q I rx ry h;obtain⟨rfl,q⟩:=h;cases ry;refine is_none_gen (aI I q ?_)
 cases x<;>first
  | (cases rx;rfl)
  | (obtain⟨t,rfl⟩:=rx;rfl)
theorem ji:cK X (compareOp .IsNot) (fun x y H Q=>y=.aC/\Q (.bl (!decide (x=.aC))) H):=by
 intro pins s σ H x y v u Q I rx ry h;obtain⟨rfl,q⟩:=h;cases ry;refine isnot_none_gen (aI I q ?_)
 cases x<;>first
  | (cases rx;rfl)
  | (obtain⟨t,rfl⟩:=rx;rfl)
theorem cK.or{r':R2}(h:cK X f r)(h':cK X f r'):cK X f (fun x y H Q=>r x y H Q\/r' x y H Q):=by
 intro pins s σ H x y v u Q I rx ry q;rcases q with q|q
 ·exact h pins s σ H x y v u Q I rx ry q
 ·exact h' pins s σ H x y v u Q I rx ry q
theorem zf{op:CmpOp}(ho:cK X (compareOp op) r)(ha:PE X a ta)(hb:PE X b tb)(hm:behindInMarks op b=false):PE X (.Compare a [op] [b] pos) (zp r ta tb):=by
 intro pins s σ H Q I h;exact wpAny_Compare1 (Ck ha hb I h fun v u s2 x y H2 I2 rx ry q=>ho pins s2 σ H2 x y v u Q I2 rx ry q) hm
noncomputable def xN(t:TE):TT:=fun σ H Q=>t σ H fun x H'=>∃ k,x=.bl k/\Q k H'
theorem yU{op:CmpOp}(ho:cK X (compareOp op) r)(ha:PE X a ta)(hb:PE X b tb)(hm:behindInMarks op b=false):PT X (.Compare a [op] [b] pos) (xN (zp r ta tb)):=by
 intro pins s σ H Q I h;refine wpAny_isTrue_Compare1 (bS (ha pins s σ H _ I h) fun v s1 ⟨x,H1,I1,r1,q1⟩=>bS (hb pins s1 σ H1 _ I1 q1) fun u s2 ⟨y,H2,I2,r2,q2⟩=>
  bS (ho pins s2 σ H2 x y v u _ I2 r1 r2 q2) fun c s3 ⟨z,H3,I3,r3,k,e,q3⟩=>?_) hm
 subst e;cases r3;exact MQ ⟨H3,I3,q3⟩
noncomputable def qA(r r':R2)(ta tb tc:TE):TE:=fun σ H Q=>ta σ H fun x H1=>tb σ H1 fun y H2=>r x y H2 fun z H3=>∃ k,z=.bl k /\
 (if k=true then tc σ H3 fun w' H4=>r' y w' H4 Q else Q (.bl false) H3)
theorem yg{op op':CmpOp}{r':R2}(ho:cK X (compareOp op) r)(ho':cK X (compareOp op') r')(ha:PE X a ta)(hb:PE X b tb)(hc:PE X c tc)
  (hm:autoParam (lastMarks [op,op'] [b,c]=false) ℜ5):PE X (.Compare a [op,op'] [b,c] pos) (qA r r' ta tb tc):=by
 intro pins s σ H Q I h;refine Compare_chain (bS (ha pins s σ H _ I h) fun v s1 ⟨x,H1,I1,r1,q1⟩=>chain_link (bS (hb pins s1 σ H1 _ I1 q1) fun u s2 ⟨y,H2,I2,r2,q2⟩=>
  bS (ho pins s2 σ H2 x y v u _ I2 r1 r2 q2) fun d s3 ⟨z,H3,I3,r3,k,e,q3⟩=>?_)) hm
 subst e;cases r3;refine MQ ?_
 cases k with
 |false=>exact ite_ff ⟨.bl false,H3,I3,rfl,q3⟩
 |true=>exact ite_tt (chain_last (bS (hc pins s3 σ H3 _ I3 q3) fun w' s4 ⟨z',H4,I4,r4,q4⟩=>ho' pins s4 σ H4 y z' u w' Q I4 r2 r4 q4))
noncomputable def wK(K:Pm)(x:V)(H:Hp)(k:Bool):Prop:=
 match x with
 |.aC=>k=false
 |.bl b=>k=b
 |.int i=>k=(i != 0)
 |.str y=>y.length<=sizeLine/\k=((y.length:Int) != 0)
 |.sV y=>y.size<=sizeLine/\k=((y.size:Int) != 0)
 |.ref p=>(∃ xs,cx K H p xs/\k=!xs.isEmpty)\/(∃ xs,cc K H p xs/\k=!xs.isEmpty)\/∃ kvs,H p=some (.dK kvs)/\k=!kvs.isEmpty
 |_=>False
theorem qF{κ:Type}{kvs:List (κ×V)}{vs:List (κ×Value)}(r:KV kvs vs):(!vs.isEmpty)=!kvs.isEmpty:=by
 cases r<;>rfl
theorem jq{its:List Value}(r:Vals xs its):(!its.toArray.isEmpty)=!xs.isEmpty:=by
 cases r<;>simp
theorem gH:(sizeLine:Nat)<2^63:=by rw[L8];decide
theorem DO:HF X (fun x H Q=>∃ k,wK X.K x H k/\Q k H):=by
 intro pins s σ H x v Q I rx h;obtain⟨k,e,q⟩:=h;have hl:=gH;have hs:sizeLine=16777216:=L8
 cases x with
 |aC =>
  cases rx;have e':k=false:=e;subst e';exact truthy_none ⟨H,I,q⟩
 |bl b =>
  cases rx;have e':k=b:=e;subst e';exact MQ ⟨H,I,q⟩
 |int i =>
  obtain⟨t,rfl⟩:=rx;have e':k=(i != 0):=e;subst e';exact PySem.P.truthy_int ⟨H,I,q⟩
 |str y =>
  obtain⟨t,rfl⟩:=rx;obtain⟨hy,e'⟩:y.length<=sizeLine/\k=((y.length:Int) != 0):=e;subst e';exact PySem.P.truthy_str (by lia) ⟨H,I.tok _,q⟩
 |sV y =>
  obtain⟨t,rfl⟩:=rx;obtain⟨hy,e'⟩:y.size<=sizeLine/\k=((y.size:Int) != 0):=e;subst e';exact PySem.W.truthy_bytes (by lia) ⟨H,I.tok _,q⟩
 |ref p =>
  cases rx;have e':(∃ xs,cx X.K H p xs/\k=!xs.isEmpty)\/(∃ xs,cc X.K H p xs/\k=!xs.isEmpty)\/∃ kvs,H p=some (.dK kvs)/\k=!kvs.isEmpty:=e;rcases e' with ⟨xs,hx,e'⟩|⟨xs,hx,e'⟩|⟨kvs,hx,e'⟩
  ·subst e';obtain⟨its,r,pl,hz⟩:=I.list hx;have hlen:=r.length;exact wpAny_truthy_list pl.isList (by simp only[J_];lia) ⟨H,I.tok _,by rw[jq r];exact q⟩
  ·subst e';obtain⟨its,r,pl,hz⟩:=I.tuple hx;have hlen:=r.length;exact truthy_tuple pl (by simp only[J_];lia) ⟨H,I.tok _,by rw[jq r];exact q⟩
  ·subst e';obtain⟨hz,hS,vs,r,m⟩:kvs.length<=sizeLine/\(p == sysModules)=false/\∃ vs,KV kvs vs/\s.heap.DictOf (ma X.prog X.w) p vs:=I.aO p _ hx;have hlen:kvs.length=vs.length:=Paired.length r;exact wpAny_truthy_dict hS m (by lia) ⟨H,I.tok _,by rw[qF r];exact q⟩
 |_=>exact (show False from e).elim
theorem vF(ha:PE X a ta)(he:∀ whole,isTrue a X.env whole=(do let v <- whole;standAt a.pos;holding [v] (truthy v))):
  PT X a (fun σ H Q=>ta σ H fun x H'=>∃ k,wK X.K x H' k/\Q k H'):=by
 intro pins s σ H Q I h;exact isTrue_plain (bS (ha pins s σ H _ I h) fun v s1 ⟨x,H1,I1,r1,q1⟩=>DO pins s1 σ H1 x v Q I1 r1 q1) (he _)
theorem qf:cK X (binaryOp .Add) (fun x y H Q=>∃ i j,x=.str i/\y=.str j/\i.length+j.length<=sizeLine/\Q (.str (i++j)) H):=by
 intro pins s σ H x y v u Q I rx ry h;obtain⟨i,j,rfl,rfl,hz,q⟩:=h;obtain⟨t,rfl⟩:=rx;obtain⟨t',rfl⟩:=ry;exact add_str (fun t' tk=>⟨.str (i++j),H,I.tok _,⟨_,rfl⟩,q⟩) hz
theorem vals1{x:V}(r:Vals [x] us):∃ u,us=[u]/\RelV x u:=by
 cases r with
 |cons r1 r2=>cases r2;exact⟨_,rfl,r1⟩
theorem vals2{x y:V}(r:Vals [x,y] us):∃ u w',us=[u,w']/\RelV x u/\RelV y w':=by
 cases r with
 |cons r1 r2 =>
  cases r2 with
  |cons r3 r4=>cases r4;exact⟨_,_,rfl,r1,r3⟩
theorem uU(hc:X.calm=true):bf X (.builtin "max") (fun xs H Q=>∃ i j,xs=[.int i,.int j]/\Q (.int (if j > i then j else i)) H):=by
 intro pins s σ H xs us Q I r h;obtain⟨i,j,rfl,q⟩:=h;obtain⟨u,w',rfl,⟨t,rfl⟩,⟨t',rfl⟩⟩:=vals2 r;refine max_two_ints (I.ok.hd hc) fun h' tk k=>⟨_,H,I.kept k,?_,q⟩;by_cases hj:j > i
 ·rw[Ke hj,Ke hj];exact⟨_,rfl⟩
 ·rw[JZ hj,JZ hj];exact⟨_,rfl⟩
theorem tq(hc:X.calm=true):bf X (.builtin "min") (fun xs H Q=>∃ i j,xs=[.int i,.int j]/\Q (.int (if j<i then j else i)) H):=by
 intro pins s σ H xs us Q I r h;obtain⟨i,j,rfl,q⟩:=h;obtain⟨u,w',rfl,⟨t,rfl⟩,⟨t',rfl⟩⟩:=vals2 r;refine min_two_ints (I.ok.hd hc) fun h' tk k=>⟨_,H,I.kept k,?_,q⟩;by_cases hj:j<i
 ·rw[Ke hj,Ke hj];exact⟨_,rfl⟩
 ·rw[JZ hj,JZ hj];exact⟨_,rfl⟩
theorem kR:bf X (.type "int") (fun xs H Q=>(∃ i,xs=[.int i]/\Q (.int i) H)\/∃ k,xs=[.bl k]/\Q (.int (if k then 1 else 0)) H):=by
 intro pins s σ H xs us Q I r h;rcases h with ⟨i,rfl,q⟩|⟨k,rfl,q⟩
 ·obtain⟨u,rfl,t,rfl⟩:=vals1 r;exact call_int_int ⟨.int i,H,I,⟨_,rfl⟩,q⟩
 ·obtain⟨u,rfl,r1⟩:=vals1 r;cases r1;exact call_int_bool ⟨.int (if k then 1 else 0),H,I.tok _,⟨_,rfl⟩,q⟩
theorem lY:bf X (.type "str") (fun xs H Q=>∃ i,xs=[.int i]/\i.natAbs.log2<1920/\Q (.str (toString i)) H):=by
 intro pins s σ H xs us Q I r h;obtain⟨i,rfl,hz,q⟩:=h;obtain⟨u,rfl,t,rfl⟩:=vals1 r;exact PySem.P.str_of_int hz ⟨.str _,H,I.tok _,⟨_,rfl⟩,q⟩
end
structure CV (h:Heap) (x dx C:Addr) (mA:Str->Option Value):Prop where
 obj:h.get? x=some (PySem.W.instObj C dx)
 ns:h.Ns1 dx mA
 ne:dx≠x
theorem uH{dx:Addr}(n:h.Ns1 dx mA):∃ od,h.get? dx=some od/\∀ name,PySem.W.lookIn name od=some (mA name):=by
 obtain⟨o,es,ep,ho,hd,hk,_,hm⟩:=n;refine⟨o,ho,fun name=>?_⟩;have e:=hm name;unfold nsFind findBy at e;rw[<- Array.find?_toList] at e;unfold PySem.W.lookIn;rw[hd];dsimp only;split
 ·rename_i y q;rw[q] at e;exact K4 some e
 ·rename_i q;rw[q] at e;have a:es.toList.any (·.refKey)=false:=by
   rw[List.any_eq_false];intro y hy;obtain⟨z,t,hkey⟩:=hk y (Array.mem_toList_iff.mp hy);simp[DictEntry.refKey,hkey]
  have a':¬ es.toList.any (·.refKey)=true:=by rw[a];exact Ka
  rw[JZ a'];exact K4 some e
theorem CV.look{x dx C:Addr}(I:CV h x dx C mA):∃ od,PySem.W.InstAt h x (PySem.W.instObj C dx) C (some od)/\∀ name,PySem.W.lookIn name od=some (mA name):=
 let ⟨od,ho,hl⟩:=uH I.ns
 ⟨od,⟨I.obj,rfl,rfl,ho⟩,hl⟩
section
variable {P:Program} {w:World} {H H':Hp} {h h':Heap} {a C dx:Addr} {fs fs':List (Str×V)}
theorem zQ(aO:fV P w H h)(e:H a=some (.ins C dx fs)):∃ mA,CV h a dx C mA/\(∀ f,Cc (fs.lookup f) (mA f))/\PySem.Within mA (fs.map (·.1))/\fs.length<=1000/\H dx=some (.own a):=by
 obtain⟨d,z,ne,ob,mA,n,r,q⟩:=(show bt P w H h a (.ins C dx fs) from aO a _ e);exact⟨mA,⟨ob,n,ne⟩,r,q,z,d⟩
end
structure Jj (K:Pm) (C:Addr):Prop where
 pg:PySem.W.plainGet K C Str.empty=true
 hd:PySem.W.hasDictIn K C=true
 po:PySem.W.plainOver K C=true
 sa:PySem.W.findIn K (.ref C) "__setattr__"=some (some (.builtin "object.__setattr__"))
theorem Jj.get{C:Addr}(c:Jj K C)(f:Str):PySem.W.plainGet K C f=true:=c.pg
section
variable {X:Cx} {pins:List (Addr×Obj)} {σ:St} {H:Hp} {s:Shared} {A:Around} {E:Value->Shared->Prop} {Q:Value->Shared->Prop} {c:Value} {b:Bool}
inductive gO (K:Pm) (H:Hp):V->Value->Prop where
 |aC:gO K H .aC (.type "NoneType")
 |bl (x:Bool):gO K H (.bl x) (.type "bool")
 |int (i:Int):gO K H (.int i) (.type "int")
 |str (x:Str):gO K H (.str x) (.type "str")
 |Es (x:UInt64):gO K H (.Es x) (.type "float")
 |lst {a:Addr} {xs:List V} (e:H a=some (.lst xs)):gO K H (.ref a) (.type "list")
 |ia {a:Addr} {o:Obj} {xs:List V} (e:H a=some (.ia o (.lst xs))):gO K H (.ref a) (.type "list")
 |tup {a:Addr} {xs:List V} (e:H a=some (.tup xs)):gO K H (.ref a) (.type "tuple")
 |dK {a:Addr} {kvs:List (Key×V)} (e:H a=some (.dK kvs)):gO K H (.ref a) (.type "dict")
 |dT {a:Addr} {kvs:List (List Key×V)} (e:H a=some (.dT kvs)):gO K H (.ref a) (.type "dict")
 |ins {a C dx:Addr} {fs:List (Str×V)} (e:H a=some (.ins C dx fs)) (cl:Jj K C) (ha:PySem.W.findIn K (.ref C) "__class__"=some (some (.builtin "object.__class__")))
   (hn:PySem.W.specialIn K (.builtin "object.__class__") "__get__"=some (some (.builtin "getset_descriptor.__get__"))) (htk:PySem.W.takesIn K (.builtin "object.__class__")=some true)
   (hm:PySem.W.mroIn K C (.type "object")=some true):gO K H (.ref a) (.ref C)
theorem lr{x:V}{t:Value}(I:Inv X pins σ H s)(rx:RelV x u)(ty:gO X.K H x t)(e:PySem.W.kitOne X.K t c=some b)(h:∀ tk,Q (.bool b) {s with toks:=tk}):
  wpAny (model X.prog X.w) A (call (.builtin "isinstance") [u,c]) Q E s:=by
 cases ty with
 |aC=>cases (show u=Value.none from rx);exact PySem.W.kia_one PySem.W.kitx_none I.h8 True.intro e (fun z=>nomatch z) h
 |bl y=>cases (show u=Value.bool y from rx);exact PySem.W.kia_one PySem.W.kitx_bool I.h8 True.intro e (fun z=>nomatch z) h
 |int i=>obtain⟨t,q⟩:=(show ∃ t,u=Value.int i t from rx);cases q;exact PySem.W.kia_one PySem.W.kitx_int I.h8 True.intro e (fun z=>nomatch z) h
 |str y=>obtain⟨t,q⟩:=(show ∃ t,u=Value.str y t from rx);cases q;exact PySem.W.kia_one PySem.W.kitx_str I.h8 True.intro e (fun z=>nomatch z) h
 |Es y=>obtain⟨t,q⟩:=(show ∃ t,u=Value.float y t from rx);cases q;exact PySem.W.kia_one PySem.W.kitx_float I.h8 True.intro e (fun z=>nomatch z) h
 |@lst a xs ea =>
  cases (show u=Value.ref a from rx)
  obtain⟨_,_,n,_,h1⟩:=(show bt X.prog X.w H s.heap a (.lst xs) from I.aO a _ ea);exact PySem.W.kia_one PySem.W.kitx_list I.h8 ⟨_,h1,rfl⟩ e (fun z=>nomatch z) h
 |@ia a ob xs ea =>
  cases (show u=Value.ref a from rx)
  obtain⟨_,_,_,n,_,h1⟩:=(show bt X.prog X.w H s.heap a (.ia ob (.lst xs)) from I.aO a _ ea);exact PySem.W.kia_one PySem.W.kitx_list I.h8 ⟨_,h1,rfl⟩ e (fun z=>nomatch z) h
 |@tup a xs ea =>
  cases (show u=Value.ref a from rx)
  obtain⟨_,_,_,p⟩:=(show bt X.prog X.w H s.heap a (.tup xs) from I.aO a _ ea);obtain⟨o,h1,h2,_⟩:=p;exact PySem.W.kia_one PySem.W.kitx_tuple I.h8 ⟨o,h1,h2⟩ e (fun z=>nomatch z) h
 |@dK a kvs ea =>
  cases (show u=Value.ref a from rx)
  obtain⟨_,_,vs,_,p⟩:=(show bt X.prog X.w H s.heap a (.dK kvs) from I.aO a _ ea);obtain⟨o,es,ep,h1,h2,_⟩:=p;exact PySem.W.kia_one PySem.W.kitx_dict I.h8 ⟨o,h1,h2.1⟩ e (fun z=>nomatch z) h
 |@dT a kvs ea =>
  cases (show u=Value.ref a from rx)
  obtain⟨_,_,xs,_,o,es,ep,h1,h2,_⟩:=(show bt X.prog X.w H s.heap a (.dT kvs) from I.aO a _ ea);exact PySem.W.kia_one PySem.W.kitx_dict I.h8 ⟨o,h1,h2.1⟩ e (fun z=>nomatch z) h
 |@ins a C dx fs ea cl ha hn htk hm =>
  cases (show u=Value.ref a from rx)
  obtain⟨mA,O,_⟩:=zQ I.aO ea;obtain⟨od,J,_⟩:=O.look;exact PySem.W.kia_one (PySem.W.kitx_own (cl.get _) cl.hd ha hn htk hm) I.h8 J e (fun z=>nomatch z) h
end
structure b7 (k:Nat) (A:Around):Prop where
 hd:A.handled=none
 dp:A.depth+3*k+5<recursionLimit
 un:A.units+16*k+200<cLine
 gd:A.guards=some []
theorem b7.mono(r:b7 k A)(h:j<=k):b7 j A:=⟨r.hd,by have:=r.dp;lia,by have:=r.un;lia,r.gd⟩
theorem b7.deeper(r:b7 (k+1) A)(env:Env):b7 k (A.deeper env):=
 ⟨r.hd,by have:=r.dp;show A.depth+1+3*k+5<_;lia,by have:=r.un;show A.units+3+16*k+200<_;lia,r.gd⟩
theorem b7.in1(r:b7 (k+1) A):b7 k A.in1:=
 ⟨r.hd,by have:=r.dp;show A.depth+3*k+5<_;lia,by have:=r.un;show A.units+1+16*k+200<_;lia,r.gd⟩
theorem b7.depth(r:b7 k A):A.depth<recursionLimit:=by have:=r.dp;lia
theorem b7.units(r:b7 k A):A.units+64<cLine:=by have:=r.un;lia
theorem b7.Dz(r:b7 k A):A.units<cLine:=by have:=r.un;lia
noncomputable def oq:TA:=fun _ H Q=>Q [] H
noncomputable def lD(ta:TE)(tr:TA):TA:=fun σ H Q=>ta σ H fun x H1=>tr σ H1 fun xs H2=>Q (x::xs) H2
section
variable {X:Cx} {e:Expr} {es:List Expr} {te:TE} {t:TA} {pos:Pos}
theorem y1:PA X [] oq:=fun _ _ _ _ H Q I h=>Calls.spliced_nil ⟨[],H,I,.nil,h⟩
theorem qV(ha:PE X e te)(hr:PA X es t)(hs:autoParam (starEach (e::es) X.env=(false,eval e X.env)::starEach es X.env) ℜ0):PA X (e::es) (lD te t):=by
 intro pos pins s σ H Q I h;rw[hs];show wpAny _ _ (spliced ((false,eval e X.env)::backTo pos (starEach es X.env))) _ _ s;refine Calls.spliced_cons (bS (ha pins s σ H _ I h) fun u s1 ⟨x,H1,I1,r1,q1⟩=>?_);exact bS (hr pos pins s1 σ H1 _ I1 q1) fun us s2 ⟨xs,H2,I2,r2,q2⟩=>⟨x::xs,H2,I2,.cons r1 r2,q2⟩
noncomputable def Fw(t:TA):TE:=fun σ H Q=>t σ H fun xs H1=>xs.length<=sizeLine/\∀ p,H1 p=none->Q (.ref p) (upd H1 p (.tup xs))
noncomputable def EV(t:TA):TE:=fun σ H Q=>t σ H fun xs H1=>xs.length<=sizeLine/\∀ p,H1 p=none->Q (.ref p) (upd H1 p (.lst xs))
theorem CA{x1}(h:PA X es t):PE X (.Tuple es x1 pos) (Fw t):=by
 intro pins s σ H Q I hq;refine wpAny_Tuple_spliced (bS (h pos pins s σ H _ I hq) fun us s1 ⟨xs,H1,I1,r,z,q⟩=>⟨by rw[<- r.length];exact z,?_⟩)
 have hf:H1 s1.heap.objs.size=none:=I1.aO.fresh (Kc _);refine⟨.ref s1.heap.objs.size,upd H1 s1.heap.objs.size (.tup xs),I1.laid (t':=s1.toks) (fun b u e=>JW _ e) (Kc _) ?_,rfl,q _ hf⟩;exact⟨z,us,r,⟨_,Km _ rfl,rfl,_,rfl,rfl⟩⟩
theorem CO(h:PA X es t):PE X (.List es pos) (EV t):=by
 intro pins s σ H Q I hq;refine wpAny_List_spliced (bS (h pos pins s σ H _ I hq) fun us s1 ⟨xs,H1,I1,r,z,q⟩=>⟨by rw[<- r.length];exact z,?_⟩)
 have hf:H1 s1.heap.objs.size=none:=I1.aO.fresh (Kc _);refine⟨.ref s1.heap.objs.size,upd H1 s1.heap.objs.size (.lst xs),I1.laid (t':=s1.toks) (fun b u e=>JW _ e) (Kc _) ?_,rfl,q _ hf⟩;exact⟨z,us,0,r,Km _ rfl⟩
end
abbrev Sp:=List V->Hp->VK->XK->Prop
variable{sp:Sp}
abbrev kL:=List Env->Hp->Shared->XK->Value->Shared->Prop
variable{CX:kL}
structure zV (P:Program) (w:World) (K:Pm) (mg:Str->Option Value) (base:Heap) (A:Around) (outer:List Env) (s:Shared) (H:Hp):Prop where
 frames:A.frames=some outer
 mod:Mod K mg base
 bs:∀ b o,base.get? b=some o->s.heap.get? b=some o/\H b=none
 yQ:base.objs.size<=s.heap.objs.size
 kb:s.heap.FunFrames base outer
 E1:∀ b∈iX outer,H b=none
 aO:fV P w H s.heap
 bare:AllBare s.gens
 tabs:TabsOk K H
noncomputable def CE(outer:List Env)(P:Program)(w:World)(H:Hp)(s:Shared)(Q:VK)(u:Value)(s':Shared):Prop:=
 ∃ v H',s'.os=s.os/\AllBare s'.gens/\Un (iX outer) [] H H' s.heap s'.heap/\fV P w H' s'.heap/\RelV v u/\Q v H'
noncomputable def CR(CX:kL)(outer:List Env)(P:Program)(w:World)(H:Hp)(s:Shared)(Q:VK)(E:XK)(r:Result)(s':Shared):Prop:=
 match r with
 |.ok (.ret u)=>CE outer P w H s Q u s'
 |.ok _=>False
 |.error e=>CX outer H s E e s'
structure d_ (P:Program) (w:World) (K:Pm) (mg:Str->Option Value) (base:Heap) (CX:kL) (k:Nat) (f:Addr) (fd:FuncData) (ps:List Str) (sp:Sp):Prop where
 len:∀ vs H Q E,sp vs H Q E->vs.length=ps.length
 run:∀(A:Around) (outer:List Env) (s:Shared) (H:Hp) (args:Args) (us:List Value) (vs:List V) (Q:VK) (E:XK),b7 k A->zV P w K mg base A outer s H->BindsTo s fd args (ps.zip us)->Vals vs us->sp vs H Q E ->
  codeAny (model P w) A (.call (.ref f) args) (CR CX outer P w H s Q E) s
theorem d_.mono{f:Addr}{ps:List Str}(F:d_ P w K mg base CX j f fd ps sp)(h:j<=k):
  d_ P w K mg base CX k f fd ps sp:=⟨F.len,fun A outer s H args us vs Q E hr=>F.run A outer s H args us vs Q E (hr.mono h)⟩
theorem d_.imp{f:Addr}{ps:List Str}{sp':Sp}(F:d_ P w K mg base CX k f fd ps sp)
  (h:∀ vs H Q E,sp' vs H Q E->sp vs H Q E):d_ P w K mg base CX k f fd ps sp':=
 ⟨fun vs H Q E q=>F.len vs H Q E (h _ _ _ _ q),fun A outer s H args us vs Q E hr he hb hv hs=>F.run A outer s H args us vs Q E hr he hb hv (h _ _ _ _ hs)⟩
section
variable {X:Cx} {pins:List (Addr×Obj)} {σ:St} {H:Hp} {s s':Shared}
theorem Inv.FL(I:Inv X pins σ H s):zV X.prog X.w X.K X.mg X.base X.A X.stack s H:=
 ⟨I.ok.frames,I.ok.mod,I.bs,Kq I.ok.yQ I.sz,I.stack,I.jd,I.aO,I.bare,I.ok.tabs.un I.base⟩
theorem Inv.after{Q:VK}(I:Inv X pins σ H s)(h:CE X.stack X.prog X.w H s Q u s'):EP X pins σ Q u s':=by
 obtain⟨v,H',os,bare,un,aO,r,q⟩:=h;obtain⟨hh,g,d,t,os'⟩:=s';obtain rfl:os'=s.os:=os;exact⟨v,H',I.call (h':=hh) (g':=g) (d':=d) (t':=t) (ch:=[]) un aO bare (fun b z=>absurd z (by simp)),r,q⟩
end
noncomputable def jD(sp:Sp)(dvs:List V)(E:XK)(t:TA):TE:=fun σ H Q=>t σ H fun vs H1=>sp (vs++dvs) H1 Q E
noncomputable def Binds(K:Pm)(fd:FuncData)(ps:List Str)(ds:List Value):Prop:=
 ∀(s:Shared) (us:List Value),K.In s.heap->(us++ds).length=ps.length->BindsTo s fd ⟨us,[]⟩ (ps.zip (us++ds))
theorem Binds.all{ps:List Str}(h:∀ us:List Value,us.length=ps.length->bindArgs fd ⟨us,[]⟩=pure (ps.zip us)):Binds K fd ps []:=fun s us _ hl=>by
 rw[Kw] at hl ⊢;exact .of_eq (h us hl)
noncomputable def Passes(CX:kL)(X:Cx)(E:XK):Prop:=∀(pins:List (Addr×Obj)) (σ:St) (H:Hp) (s:Shared) (e:Value) (s':Shared),Inv X pins σ H s->CX X.stack H s E e s'->X.xe e s'
section
variable {X:Cx} {CX:kL} {k:Nat} {f C:Addr} {fd:FuncData} {ps:List Str} {sp:Sp} {dvs:List V} {ds:List Value} {E:XK} {x m:Str} {p pos apos:Pos} {e o:Expr} {es:List Expr} {ta:TE} {t:TA}
theorem vP{Q:VK}(F:d_ X.prog X.w X.K X.mg X.base CX k f fd ps sp)(hr:b7 k X.A)(hb:Binds X.K fd ps ds)(hd:Vals dvs ds)(hx:Passes CX X E)
  (I:Inv X pins σ H s) (r:Vals vs us) (h:sp (vs++dvs) H Q E):wpAny (model X.prog X.w) X.A (call (.ref f) us) (EP X pins σ Q) X.xe s:=by
 have r2:Vals (vs++dvs) (us++ds):=r.append hd;have hl:(us++ds).length=ps.length:=by rw[<- r2.length];exact F.len _ _ _ _ h
 refine wpAny_call (Ob (F.run X.A X.stack s H ⟨us,[]⟩ (us++ds) (vs++dvs) Q E hr I.FL (hb s us I.h8 hl) r2 h) fun r s' hq=>?_)
 cases r with
 |error e=>exact hx pins σ H s e s' I hq
 |ok fl =>
  cases fl with
  |ret u=>exact I.after hq
  |next=>exact False.elim hq
  |brk=>exact False.elim hq
  |cont=>exact False.elim hq
theorem yK(F:d_ X.prog X.w X.K X.mg X.base CX k f fd ps sp)(hr:b7 k X.A)(hg:Gl X x)(hm:X.mg x=some (.ref f))(hk:PySem.W.keepIn X.K (.ref f)=true)(hb:Binds X.K fd ps ds)(hd:Vals dvs ds)(hx:Passes CX X E)
  (ha:PA X (e::es) t) (hdb:autoParam ((x ==("__debug__":Str))=false) ℜ1) (he:autoParam (starEach (e::es) X.env=(false,eval e X.env)::starEach es X.env) ℜ0) (hpl:autoParam ((backTo pos (starEach es X.env)).any (·.1)=false) ℜ0) :
  PE X (.Call (.Name x p) (e::es) [] pos) (jD sp dvs E t):=by
 intro pins s σ H Q I h;refine LN (h7 I hg hm ?_ hdb);refine PySem.W.callWith_K (h₀:=X.base) I.ok.mod.A6 hk (bS (ha pos pins s σ H _ I h) fun us s1 ⟨vs,H1,I1,r,q⟩=>⟨I1.h8,?_⟩) he hpl;exact vP F hr hb hd hx I1 r q
theorem vT(F:d_ X.prog X.w X.K X.mg X.base CX k f fd ps sp)(hr:b7 k X.A)(hg:Gl X x)(hm:X.mg x=some (.ref f))(hk:PySem.W.keepIn X.K (.ref f)=true)(hb:Binds X.K fd ps ds)(hd:Vals dvs ds)(hx:Passes CX X E)
  (hdb:autoParam ((x ==("__debug__":Str))=false) ℜ1):PE X (.Call (.Name x p) [] [] pos) (jD sp dvs E oq):=by
 intro pins s σ H Q I h;refine LN (h7 I hg hm ?_ hdb);exact PySem.W.callWith_K0 I.h8 hk (vP (us:=[]) F hr hb hd hx I .nil h)
end
noncomputable def PK(X:Cx)(kws:List Keyword)(t:TA):Prop:=
 ∀(pos:Pos) (pins:List (Addr×Obj)) (s:Shared) (σ:St) (H:Hp) (Q:List V->Hp->Prop),Inv X pins σ H s->t σ H Q->wpAny (model X.prog X.w) X.A (evalAll ((backToKw pos (keywordEach kws X.env)).map (·.2))) (AP X pins σ Q) X.xe s
section
variable {X:Cx} {CX:kL} {k:Nat} {f C:Addr} {fd:FuncData} {ps ks:List Str} {sp:Sp} {E:XK} {x m:Str} {p pos apos kpos:Pos} {e o:Expr} {es:List Expr} {kws:List Keyword} {te ta:TE} {t tk:TA} {nm:Option Str}
theorem Ej:PK X [] oq:=fun _ _ _ _ H Q I h=>wpAny_evalAll_nil ⟨[],H,I,.nil,h⟩
theorem yV(ha:PE X e te)(hr:PK X kws t):PK X (⟨nm,e,kpos⟩::kws) (lD te t):=by
 intro pos pins s σ H Q I h;show wpAny _ _ (evalAll ((do let v <- eval e X.env;standAt pos;pure v)::(backToKw pos (keywordEach kws X.env)).map (·.2))) _ _ s
 refine wpAny_evalAll_cons (JU (bS (ha pins s σ H _ I h) fun u s1 ⟨x,H1,I1,r1,q1⟩=>JU (MZ (Kb ?_))));exact bS (hr pos pins s1 σ H1 _ I1 q1) fun us s2 ⟨xs,H2,I2,r2,q2⟩=>⟨x::xs,H2,I2,.cons r1 r2,q2⟩
variable {g:List Value->List Value->List Value} {gV:List V->List V->List V}
end
structure ao (N P:List Str) (sc:Scope):Prop where
 kind:sc.kind=.function
 co:sc.isCoroutine=false
 gen:sc.isGenerator=false
 nd:N.Nodup
 pre:N.take P.length=P
 par:∀ x∈P,sc.names.lookup x=some .local\/sc.names.lookup x=some .cell
 DC:∀ y∈sc.names,y.2≠.free
theorem kU:∀{binds:List (Str×Value)} {m:Str->Option Value},(∀ v,(x,v)∉binds)->bindL kindOf binds m x=m x
 |[],_,_=>rfl
 | (n,v)::r,m,h=>by
  unfold bindL;rw[kU fun w hw=>h w (Kh _ hw)];split
  ·have:x≠n:=by rintro rfl;exact h v Kk
   simp[this]
  ·rfl
theorem lQ:∀{binds:List (Str×Value)} {m:Str->Option Value},(∀ v,(x,v)∉binds)->bindC kindOf binds m x=m x
 |[],_,_=>rfl
 | (n,v)::r,m,h=>by
  unfold bindC;rw[lQ fun w hw=>h w (Kh _ hw)];split
  ·rfl
  ·have:x≠n:=by rintro rfl;exact h v Kk
   simp[this]
theorem kY{v:Value}:∀{P:List Str} {vs:List Value} {i:Nat} {m:Str->Option Value},P.Nodup->P[i]?=some x->vs[i]?=some v->kindOf x=some .local ->
  bindL kindOf (P.zip vs) m x=some v
 |[],_,_,_,_,h,_,_=>by simp at h
 |_::_,[],_,_,_,_,h,_=>by simp at h
 |p::P,w::vs,0,m,nd,h1,h2,hk=>by
  simp at h1 h2;subst h1;subst h2;show bindL kindOf ((p,w)::P.zip vs) m p=_;unfold bindL;rw[kU fun v hv=>(KQ.mp nd).1 (O2 hv).1,Ke hk];simp
 |p::P,w::vs,i+1,m,nd,h1,h2,hk=>by
  show bindL kindOf ((p,w)::P.zip vs) m x=_;unfold bindL;exact kY (i:=i) (KQ.mp nd).2 (by simpa using h1) (by simpa using h2) hk
theorem lB{v:Value}:∀{P:List Str} {vs:List Value} {i:Nat} {m:Str->Option Value},P.Nodup->P[i]?=some x->vs[i]?=some v->kindOf x≠some .local ->
  bindC kindOf (P.zip vs) m x=some v
 |[],_,_,_,_,h,_,_=>by simp at h
 |_::_,[],_,_,_,_,h,_=>by simp at h
 |p::P,w::vs,0,m,nd,h1,h2,hk=>by
  simp at h1 h2;subst h1;subst h2;show bindC kindOf ((p,w)::P.zip vs) m p=_;unfold bindC;rw[lQ fun v hv=>(KQ.mp nd).1 (O2 hv).1,JZ hk];simp
 |p::P,w::vs,i+1,m,nd,h1,h2,hk=>by
  show bindC kindOf ((p,w)::P.zip vs) m x=_;unfold bindC;exact lB (i:=i) (KQ.mp nd).2 (by simpa using h1) (by simpa using h2) hk
noncomputable def start(N:List Str)(vs:List V):St:=vs.map some++List.replicate (N.length-vs.length) none
noncomputable def gK(CX:kL)(P:Program)(w:World)(K:Pm)(mg:Str->Option Value)(base:Heap)(N:List Str)(qual:Str)(scope:Scope)(f:Addr)(cd:Value)(A:Around)(outer:List Env)(s:Shared)(H:Hp)(E:XK):Cx where
 prog:=P
 w:=w
 K:=K
 mg:=mg
 base:=base
 A:=A.deeper (envOfC qual scope s.heap.objs.size f cd)
 N:=N
 s₀:=s
 H₀:=H
 env:=envOfC qual scope s.heap.objs.size f cd
 outer:=outer
 stack:=envOfC qual scope s.heap.objs.size f cd::outer
 ex:=[]
 calm:=true
 fn:=fun _=>true
 pn:=[]
 xe:=fun e s'=>wpAny (model P w) (A.deeper (envOfC qual scope s.heap.objs.size f cd)) (leaving (envOfC qual scope s.heap.objs.size f cd) e) (fun _ s''=>CX outer H s E e s'') (fun e' s''=>CX outer H s E e' s'') s'
theorem oB{sc:Scope}{n:Nat}(h:sc.names.lookup x=some .cell):∃ c,(cellsFrom n sc.names []).lookup x=some c:=by
 have q:=PySem.W.cellsFrom_some sc.names n [] (.inl h);exact Oc.mp q
theorem sW{ps:List Str}{qual:Str}{f:Addr}{cd:Value}{outer:List Env}{s1:Shared}{E:XK}
  (S:ao N ps scope) (hd:A.handled=none) (e0:zV P w K mg base A outer s H) (hl:vs.length=ps.length) (r:Vals vs us)
  (x:InCallC s s.heap.objs.size (bindL (envOfC qual scope s.heap.objs.size f cd).kindOf (ps.zip us) fun _=>none) (cellsFrom (s.heap.objs.size+1) scope.names []) (bindC (envOfC qual scope s.heap.objs.size f cd).kindOf (ps.zip us) fun _=>none) s1) :
  Inv (gK CX P w K mg base N qual scope f cd A outer s H E) [] (start N vs) H s1:=by
 have hpl:ps.length<=N.length:=by have:=K4 List.length S.pre;rw[KO] at this;lia
 obtain⟨h1,tk,rfl,hk⟩:=x.done;have noA:∀ b:Addr,b∉(gK CX P w K mg base N qual scope f cd A outer s H E).ex:=fun b z=>absurd (show b∈([]:List Addr) from z) (by simp)
 refine⟨⟨e0.mod,S.kind,rfl,rfl,Kc _,fun y z c h1 h2=>?_,fun y hy=>?_,fun y c _ h=>?_,fun _=>hd,Around.frames_deeper e0.frames,.inr ⟨rfl,rfl⟩,fun b z=>absurd z (noA b),e0.bs,e0.yQ,fun b _ _=>noA b,fun b z=>absurd z (noA b),e0.kb,e0.E1,e0.tabs⟩,
  rfl,e0.bare,Un.kept hk,⟨_,x.toInCall.ns,fun i y v h1 h2 h3=>?_⟩,fun y c h=>⟨_,x.cell y c h⟩,e0.aO.fresh (Kc _),fun y c h=>?_,fun p hp=>absurd (show p∈([]:List (Addr×Obj)) from hp) (by simp),e0.aO.kept hk,?_⟩
 ·exact name_of_addr x.apart (PySem.mem_of_lookup h1) (PySem.mem_of_lookup h2)
 ·have hy:scope.names.lookup y=some .cell\/scope.names.lookup y=some .free:=hy;rcases hy with hy|hy
  ·exact oB hy
  ·exact absurd rfl (S.DC _ (PySem.mem_of_lookup hy))
 ·exact LM (x.above y c (PySem.mem_of_lookup h))
 ·have hi:i<vs.length:=by
   unfold start at h2;by_cases hi:i<vs.length
   ·exact hi
   ·rw[L1 (by simpa using hi)] at h2
    rw[Mt] at h2
    split at h2<;>cases h2
  have ha:vs[i]?=some v:=by
   unfold start at h2;rw[LY (by simpa using hi),Kg] at h2
   cases e:vs[i]? with
   |none=>rw[e] at h2;cases h2
   |some a=>rw[e] at h2;cases h2;rfl
  obtain⟨u,hu,rv⟩:=r.get ha;have hp:ps[i]?=some y:=by
   rw[<- S.pre,List.getElem?_take_of_lt (by lia)];exact h1
  have ndP:ps.Nodup:=by rw[<- S.pre];exact S.nd.sublist (List.take_sublist _ _)
  refine⟨u,rv,?_⟩;rcases S.par y (KW hp) with k|k
  ·exact .inl ⟨k,kY ndP hp hu k⟩
  ·obtain⟨c,e⟩:=oB (n:=s.heap.objs.size+1) k;refine .inr ⟨.inl k,c,e,?_⟩;have q:=x.cell y c e;rw[lB ndP hp hu (by show scope.names.lookup y≠_;rw[k];decide)] at q
   exact q
 ·exact e0.aO.fresh (LM (x.above y c (PySem.mem_of_lookup h)))
 ·unfold start;show _=N.length;rw[JX,JY,Kl];lia
theorem AY{f:Addr}{name qual:Str}{params:Arguments}{dV kV doc pm cdv ct oc:Value}{an od:Option Addr}
  {osl:Array (Option Value)} {ps:List Str}  (lk:K.lookup f=some ⟨oc,od,.func (PySem.W.fnOf name qual params body scope dV kV doc pm an cdv ct),osl⟩) (hcd:PySem.W.codeIn K cdv qual=true) (S:ao N ps scope)
  (len:∀ vs H Q E,sp vs H Q E->vs.length=ps.length)
  (hbody:∀(A:Around) (outer:List Env) (s:Shared) (H:Hp) (vs:List V) (Q:VK) (E:XK),b7 k (A.deeper (envOfC qual scope s.heap.objs.size f cdv))->sp vs H Q E ->
   ∃ t,pG (gK CX P w K mg base N qual scope f cdv A outer s H E) body t/\t {nx:=fun _ H'=>Q .aC H',rt:=Q} (start N vs) H) :
  d_ P w K mg base CX (k+1) f (PySem.W.fnOf name qual params body scope dV kV doc pm an cdv ct) ps sp:=by
 refine⟨len,fun A outer s H args us vs Q E hr e0 hb r hsp=>?_⟩;have hl:=len _ _ _ _ hsp;have KX:K.In s.heap:=e0.mod.A6.keeps fun b o e=>(e0.bs b o e).1;have lim:s.heap.NoLimit:=e0.mod.nolimit.keeps fun b o e=>(e0.bs b o e).1;have hkind:∀ y∈ps.zip us,scope.names.lookup y.1=some .local\/(scope.names.lookup y.1=some .cell/\((cellsFrom (s.heap.objs.size+1) scope.names []).lookup y.1).isSome=true):=fun⟨n,v⟩ hy=>by
  rcases S.par n (O2 hy).1 with q|q
  ·exact .inl q
  ·exact .inr ⟨q,PySem.W.cellsFrom_some _ _ _ (.inl q)⟩
 refine codeAny_call_function hr.depth (KX _ _ lk) rfl S.co S.gen rfl (PySem.W.codeRec_of KX hcd) (hb _ _ _ _ ?_);refine wpAny_newFunctionEnv_cells S.kind hkind fun env he s1 x=>?_;subst he;refine⟨lim.keeps x.toInCall.keep,codeAny_func ?_⟩;obtain⟨t,ht,hq⟩:=hbody A outer s H vs Q E (hr.deeper _) hsp;have I:Inv (gK CX P w K mg base N qual scope f cdv A outer s H E) [] (start N vs) H s1:=sW S hr.hd e0 hl r x;refine Lg (ht [] s1 (start N vs) H _ I hq) (fun fl s' hs=>?_) fun e s' hs=>hs;have fin:∀{σ':St} {H':Hp} {v:V} {u:Value},Inv (gK CX P w K mg base N qual scope f cdv A outer s H E) [] σ' H' s'->RelV v u->Q v H'->CE outer P w H s Q u s':=
  fun {σ' H' v u} J rv q=>⟨v,H',J.os,J.bare,J.base,J.aO,rv,q⟩
 cases fl with
 |ret u =>
  obtain⟨v,σ',H',J,rv,q⟩:=hs;exact fin J rv q
 |next =>
  obtain⟨σ',H',J,q⟩:=hs;exact fin (v:=V.aC) (u:=Value.none) J rfl q
 |brk =>
  obtain⟨_,_,_,q⟩:=hs;exact False.elim q
 |cont =>
  obtain⟨_,_,_,q⟩:=hs;exact False.elim q
section
variable {X:Cx} {x:Str} {p pos:Pos} {e:Expr} {es:List Expr} {t:TA} {id T:String} {r:List V->Hp->VK->Prop}
noncomputable def Bg(r:List V->Hp->VK->Prop)(t:TA):TE:=fun σ H Q=>t σ H fun vs H1=>r vs H1 Q
theorem vK(hc:bf X (.builtin id) r)(hg:Gl X x)(hm:X.mg x=none)(hv:bootBuiltins x=some (.builtin id))(ha:PA X (e::es) t)(hn:autoParam (x≠"__name__") ℜ1)(hdb:autoParam ((x ==("__debug__":Str))=false) ℜ1)
  (he:autoParam (starEach (e::es) X.env=(false,eval e X.env)::starEach es X.env) ℜ0) (hpl:autoParam ((backTo pos (starEach es X.env)).any (·.1)=false) ℜ0):PE X (.Call (.Name x p) (e::es) [] pos) (Bg r t):=by
 intro pins s σ H Q I h;refine LN (fQ I hg hm hv ?_ hn hdb);exact PyProof.Rows.callWith_builtin1 (bS (ha pos pins s σ H _ I h) fun us s1 ⟨vs,H1,I1,r1,q1⟩=>hc pins s1 σ H1 vs us Q I1 r1 q1) he hpl
theorem u7(hc:bf X (.type T) r)(hg:Gl X x)(hm:X.mg x=none)(hv:bootBuiltins x=some (.type T))(ha:PA X (e::es) t)(hn:autoParam (x≠"__name__") ℜ1)(hdb:autoParam ((x ==("__debug__":Str))=false) ℜ1)
  (he:autoParam (starEach (e::es) X.env=(false,eval e X.env)::starEach es X.env) ℜ0) (hpl:autoParam ((backTo pos (starEach es X.env)).any (·.1)=false) ℜ0):PE X (.Call (.Name x p) (e::es) [] pos) (Bg r t):=by
 intro pins s σ H Q I h;refine LN (fQ I hg hm hv ?_ hn hdb);exact Ly (bS (ha pos pins s σ H _ I h) fun us s1 ⟨vs,H1,I1,r1,q1⟩=>hc pins s1 σ H1 vs us Q I1 r1 q1) he hpl
end
end L2
namespace HT
open PySem PyProof.Rows
section
variable {prog:Program} {w:World} {A:Around} {E:Value->Shared->Prop} {s:Shared}
theorem zP{t b:Addr}{vs ws:List Value}{Q:Value->Shared->Prop}(ht:IsTup s.heap t vs.toArray)(hb:IsTup s.heap b ws.toArray)(hv:vs≠[])
  (h1:ws=[]->Q (.ref t) s) (h2:ws≠[]->Q (.ref s.heap.objs.size) {s with heap:=s.heap.push {cls:=.type "tuple",data:=.seq (vs++ws).toArray}})
  (hsz:vs.length+ws.length<=sizeLine):wpAny (model prog w) A (binaryOp .Add (.ref t) (.ref b)) Q E s:=by
 obtain⟨⟨cls,dd,data,sl⟩,ho,hc,n,hd⟩:=id ht;obtain⟨⟨cls2,dd2,data2,sl2⟩,ho2,hc2,n2,hd2⟩:=id hb;simp only at hc hd hc2 hd2;subst hc hd hc2 hd2;have e:vs.toArray++ws.toArray=(vs++ws).toArray:=by simp
 by_cases hw:ws=[]
 ·exact concat_meets ⟨_,ho,rfl⟩ ⟨_,ho2,rfl⟩ noFill_tuple_add seq_tuple_add PySem.F.slot_tuple_add PySem.F.entry_tuple_add (PySem.F.args_tuple_add_2 _ _)
   (tuple_addW1 t b vs.toArray ws.toArray n n2 dd dd2 sl sl2 (by simpa using hv) (by simp[hw])) ⟨ho,ho2,h1 hw⟩
 ·refine concat_meets ⟨_,ho,rfl⟩ ⟨_,ho2,rfl⟩ noFill_tuple_add seq_tuple_add PySem.F.slot_tuple_add PySem.F.entry_tuple_add (PySem.F.args_tuple_add_2 _ _)
   (tuple_addW2 t b vs.toArray ws.toArray n n2 dd dd2 sl sl2 (by simpa using hv) (by simpa using hw) (by rw[List.size_toArray,List.size_toArray];exact hsz)) ⟨ho,ho2,?_⟩
  rw[e];exact h2 hw
noncomputable def bG(n d:Nat):Option Int->Nat
 |none=>d
 |some v=>if v<0 then (v+(n:Int)).toNat else min v.toNat n
theorem gW(n d:Nat):bG n d none=d:=rfl
theorem i_(n d k:Nat):bG n d (some (k:Int))=min k n:=by
 show (if (k:Int)<0 then ((k:Int)+(n:Int)).toNat else min (k:Int).toNat n)=min k n
 rw[if_neg (by lia),Int.toNat_natCast]
theorem qO(n d:Nat)(hd:d<=n)(o:Option Int):bG n d o<=n:=by
 cases o with
 |none=>exact hd
 |some v =>
  show (if v<0 then (v+(n:Int)).toNat else min v.toNat n)<=n
  by_cases hv:v<0
  ·rw[if_pos hv];lia
  ·rw[if_neg hv];exact Nat.min_le_right _ _
theorem si(v:Int)(n d:Nat):(if v<0 then max (v+(n:Int)) 0 else min v (n:Int))=((bG n d (some v):Nat):Int):=by
 show (if v<0 then max (v+(n:Int)) 0 else min v (n:Int))=(((if v<0 then (v+(n:Int)).toNat else min v.toNat n):Nat):Int)
 by_cases hv:v<0
 ·simp only[if_pos hv];lia
 ·simp only[if_neg hv];lia
theorem p6(lo hi:Option Int)(n:Nat):Builtin.Slice.sliceAdjust lo hi 1 (n:Int)=(((bG n 0 lo:Nat):Int),((bG n n hi:Nat):Int)):=by
 have h1:¬ ((1:Int)<0):=by lia
 unfold Builtin.Slice.sliceAdjust;simp only[h1,if_false];refine Prod.ext ?_ ?_
 ·cases lo with
  |none=>rfl
  |some v=>exact si v n 0
 ·cases hi with
  |none=>rfl
  |some v=>exact si v n n
theorem pC(i j:Nat):Builtin.Slice.slicePlaces (i:Int) (j:Int) 1=j-i:=by
 unfold Builtin.Slice.slicePlaces;have h1:(1:Int) > 0:=by lia
 simp only[h1,if_true,Int.ediv_one]
 split<;>lia
theorem jS{v:Value}{o:Option Int}{Q:Option Int->Shared->Prop}(p:IsPart v o)(h:Q o s):wpAny (model prog w) A (Builtin.Slice.slicePartIndex v) Q E s:=by
 cases p with
 |none=>exact slicePart_none h
 |int i t=>exact slicePart_int h
theorem eM{sl:Addr}{vl vu:Value}{lo hi:Option Int}{n:Nat}{Q:Int×Int×Nat->Shared->Prop}(hs:s.heap.IsSliceOf sl vl vu .none)(pl:IsPart vl lo)(pu:IsPart vu hi)
  (h:Q (((bG n 0 lo:Nat):Int),1,bG n n hi-bG n 0 lo) s):wpAny (model prog w) A (Builtin.Slice.sliceApplied (.ref sl) (pure (n:Int))) Q E s:=by
 obtain⟨os,hos,hcs,hds⟩:=id hs;unfold Builtin.Slice.sliceApplied Builtin.Slice.sliceFields;refine wpAny_bind (wpAny_bind (wpAny_field hos hds (x:=vl) rfl (wpAny_bind (wpAny_field hos hds (x:=vu) rfl (wpAny_bind (wpAny_field hos hds (x:=.none) rfl (wpAny_pure ?_)))))));refine wpAny_bind (slicePart_none ?_);show wpAny _ _ (if ((1:Int) == 0)=true then _ else _) _ _ s
 rw[if_neg (by decide)]
 refine wpAny_bind (jS pl (wpAny_bind (jS pu (wpAny_bind (wpAny_pure ?_)))));show wpAny _ _ (match Builtin.Slice.sliceAdjust lo hi 1 (n:Int) with | (lo,hi)=>pure (lo,(1:Int),Builtin.Slice.slicePlaces lo hi 1)) _ _ s
 rw[p6 lo hi n];show wpAny _ _ (pure (((bG n 0 lo:Nat):Int),(1:Int),Builtin.Slice.slicePlaces ((bG n 0 lo:Nat):Int) ((bG n n hi:Nat):Int) 1)) _ _ s;rw[pC];exact wpAny_pure h
theorem xY(xs:Array Value)(i k:Nat):((List.range k).filterMap fun (m:Nat)=>xs[((i:Int)+(m:Int)*1).toNat]?).toArray=((xs.toList.drop i).take k).toArray:=by
 have e:(fun (m:Nat)=>xs[((i:Int)+(m:Int)*1).toNat]?)=fun m=>xs[i+m]?:=by
  funext m
  have:((i:Int)+(m:Int)*1).toNat=i+m:=by lia
  rw[this]
 rw[e];have:=pick_run xs i k;rw[List.filterMap_map] at this;have e2:((fun x=>xs[x]?) ∘ fun x=>i+x)=fun m=>xs[i+m]?:=rfl;rw[e2] at this;rw[this]
theorem gU{t sl:Addr}{items:Array Value}{vl vu:Value}{lo hi:Option Int}{Q:Value->Shared->Prop}(ht:IsTup s.heap t items)(hs:s.heap.IsSliceOf sl vl vu .none)(pl:IsPart vl lo)(pu:IsPart vu hi)
  (hw:¬ (bG items.size 0 lo=0/\bG items.size items.size hi=items.size))
  (h:Q (.ref s.heap.objs.size) {s with heap:=s.heap.push {cls:=.type "tuple",data:=.seq ((items.toList.drop (bG items.size 0 lo)).take (bG items.size items.size hi-bG items.size 0 lo)).toArray}})
  (hsz:items.size<=sizeLine):wpAny (model prog w) A (getItem (.ref t) (.ref sl)) Q E s:=by
 have htake:sizeOk (.seq ((items.toList.drop (bG items.size 0 lo)).take (bG items.size items.size hi-bG items.size 0 lo)).toArray):=by
  show ((items.toList.drop (bG items.size 0 lo)).take (bG items.size items.size hi-bG items.size 0 lo)).toArray.size<=sizeLine;rw[List.size_toArray,List.length_take,List.length_drop,Array.length_toList];exact Nat.le_trans (Nat.min_le_right _ _) (Nat.le_trans (Nat.sub_le _ _) hsz)
 have hj:bG items.size items.size hi<=items.size:=qO _ _ (Nat.le_refl _) hi;obtain⟨os,hos,hcs,hds⟩:=id hs;have hTs:s.TypeIs (.ref sl) "slice":=⟨os,hos,hcs⟩;unfold getItem
 try with_reducible refine wpAny_holding ?_
 first|refine wpAny_bind (wpAny_pure ?_)|skip
 refine wpAny_bind (wpAny_sequenceKey ht.typeIs (by decide) ?_)
 refine wpAny_bind (wpAny_callSpecial?_slot (name:=Str.ofString "__getitem__") ht.typeIs PyProof.Rows.slot_tuple_getitem
  (wpAny_call_entry PyProof.Rows.slot_tuple_getitem ht.typeIs entry_tuple_getitem ?_ (args_tuple_getitem _ _)))
 show wpAny _ _ (Builtin.Tuple.tupleItemsOf (.ref t) >>= _) _ _ s;refine wpAny_bind (tupleItemsOf_ ht ?_);refine wpAny_bind (wpAny_typeOf hTs ?_);rw[if_pos (by decide)]
 refine wpAny_bind (eM hs pl pu ?_);have hno:¬ ((((bG items.size 0 lo:Nat):Int) == 0 && (1:Int) == 1 && (bG items.size items.size hi-bG items.size 0 lo) == items.size)=true):=by
  intro q;rw[Bool.and_eq_true,Bool.and_eq_true] at q;have q1:((bG items.size 0 lo:Nat):Int)=0:=eq_of_beq q.1.1;have q2:bG items.size items.size hi-bG items.size 0 lo=items.size:=eq_of_beq q.2;exact hw ⟨by lia,by lia⟩
 show wpAny _ _ (if (((bG items.size 0 lo:Nat):Int) == 0 && (1:Int) == 1 && (bG items.size items.size hi-bG items.size 0 lo) == items.size)=true then _ else _) _ _ s
 rw[if_neg hno,xY]
 first
  |exact wpAny_bind (m:=Builtin.Tuple.tupleExact _) (wpAny_newObj_type (wpAny_pure ⟨_,rfl,wpAny_pure h⟩) htake)
  |exact wpAny_bind (m:=Builtin.Tuple.tupleExact _) (wpAny_newObj_type (wpAny_bind (wpAny_pure (wpAny_pure ⟨_,rfl,wpAny_pure h⟩))) htake)
  |exact wpAny_bind (wpAny_bind (m:=Builtin.Tuple.tupleExact _) (wpAny_newObj_type (wpAny_pure (wpAny_pure ⟨_,rfl,wpAny_pure h⟩)) htake))
  |exact wpAny_bind (wpAny_bind (m:=Builtin.Tuple.tupleExact _) (wpAny_newObj_type (wpAny_pure ⟨_,rfl,wpAny_pure h⟩) htake))
end
end HT
namespace L2
open PySem PySem.Spec PyProof.Rows
variable{r:V->Option Int->Option Int->Hp->VK->Prop}{xs:List V}{its its' us:List Value}{α:Type}{n:Nat}{pins:List (Addr×Obj)}{σ:St}{H:Hp}{s:Shared}{A:Around}{x:V}
abbrev TO:=St->Hp->(Option Int->Hp->Prop)->Prop
noncomputable def PO(X:Cx)(e:Option Expr)(t:TO):Prop:=
 ∀(pins:List (Addr×Obj)) (s:Shared) (σ:St) (H:Hp) (Q:Option Int->Hp->Prop),Inv X pins σ H s->t σ H Q ->
  wpAny (model X.prog X.w) X.A (evalPart e X.env) (fun u s'=>∃ o H',Inv X pins σ H' s'/\IsPart u o/\Q o H') X.xe s
noncomputable def rE:TO:=fun _ H Q=>Q none H
noncomputable def Bm(t:TE):TO:=fun σ H Q=>t σ H fun x H1=>∃ i,x=.int i/\Q (some i) H1
theorem intsAre_of{ns:List Int}:∀{us:List Value},Vals (ns.map V.int) us->IntsAre us ns:=by
 induction ns with
 |nil=>intro us r;rw[List.map_nil] at r;cases r;exact .nil
 |cons n ns ih =>
  intro us r;rw[KD] at r
  cases r with
  |cons r1 r2 =>
   obtain⟨t,e⟩:=r1;subst e;exact .cons n t (ih r2)
section
variable {X:Cx} {e:Expr} {te:TE} {lo hi:Option Expr} {tl th:TO} {pos p2:Pos}
theorem Ad:PO X none rE:=by
 intro pins s σ H Q I h;rw[evalPart_none];exact Kb ⟨none,H,I,.none,h⟩
theorem Ac(h:PE X e te):PO X (some e) (Bm te):=by
 intro pins s σ H Q I hw;rw[evalPart_some];refine bS (h pins s σ H _ I hw) fun u s1 ⟨x,H1,I1,r1,q1⟩=>?_;obtain⟨i,rfl,q⟩:=q1;obtain⟨t,rfl⟩:=r1;exact⟨some i,H1,I1,.int i t,q⟩
noncomputable def u_(X:Cx)(r:V->Option Int->Option Int->Hp->VK->Prop):Prop:=
 ∀(pins:List (Addr×Obj)) (s:Shared) (σ:St) (H:Hp) (x:V) (v vl vu:Value) (lo hi:Option Int) (sl:Addr) (Q:VK),Inv X pins σ H s->RelV x v->s.heap.IsSliceOf sl vl vu .none->IsPart vl lo->IsPart vu hi->r x lo hi H Q ->
  ∃ T id,typeLookup (.type T) "__getitem__"=pure (some (.builtin id))/\s.TypeIs v T/\wpAny (model X.prog X.w) X.A (getItem v (.ref sl)) (EP X pins σ Q) X.xe s
theorem u_.or{r':V->Option Int->Option Int->Hp->VK->Prop}(h:u_ X r)(h':u_ X r'):u_ X (fun x lo hi H Q=>r x lo hi H Q\/r' x lo hi H Q):=by
 intro pins s σ H x v vl vu lo hi sl Q I rx hs pl pu q;rcases q with q|q
 ·exact h pins s σ H x v vl vu lo hi sl Q I rx hs pl pu q
 ·exact h' pins s σ H x v vl vu lo hi sl Q I rx hs pl pu q
noncomputable def J7(r:V->Option Int->Option Int->Hp->VK->Prop)(te:TE)(tl th:TO):TE:=fun σ H Q=>te σ H fun x H1=>tl σ H1 fun l H2=>th σ H2 fun u H3=>r x l u H3 Q
theorem xv(hr:u_ X r)(he:PE X e te)(hl:PO X lo tl)(hu:PO X hi th):PE X (.Subscript e (.Slice lo hi none p2) pos) (J7 r te tl th):=by
 intro pins s σ H Q I h;refine Subscript_ (bS (he pins s σ H _ I h) fun v s1 ⟨x,H1,I1,r1,q1⟩=>?_);refine wpAny_Slice (bS (hl pins s1 σ H1 _ I1 q1) fun vl s2 ⟨l,H2,I2,pl,q2⟩=>bS (hu pins s2 σ H2 _ I2 q2) fun vu s3 ⟨u,H3,I3,pu,q3⟩=>?_);rw[evalPart_none];refine Kb ?_;have I4:Inv X pins σ H3 {s3 with heap:=s3.heap.push {cls:=.type "slice",data:=.fields #[vl,vu,.none]}}:=I3.kept (t':=s3.toks) fun b ob q=>JW _ q
 obtain⟨T,id,hT,ht,hg⟩:=hr pins {s3 with heap:=s3.heap.push {cls:=.type "slice",data:=.fields #[vl,vu,.none]}} σ H3 x v vl vu l u s3.heap.objs.size Q I4 r1 (Heap.IsSliceOf.new ..) pl pu q3
 show wpAny (model X.prog X.w) X.A (subscriptTail e (.Slice lo hi none p2) v (.ref s3.heap.objs.size)) (EP X pins σ Q) X.xe {s3 with heap:=s3.heap.push {cls:=.type "slice",data:=.fields #[vl,vu,.none]}}
 exact tail_any (ops:=[.ref s3.heap.objs.size,v]) ht hT hg (by with_unfolding_all rfl)
noncomputable def lS(xs:List V)(lo hi:Option Int):List V:=(xs.drop (HT.bG xs.length 0 lo)).take (HT.bG xs.length xs.length hi-HT.bG xs.length 0 lo)
theorem iG(xs:List V)(lo hi:Option Int):(lS xs lo hi).length<=xs.length:=by
 unfold lS;rw[KO,Mg];exact Kq (Nat.min_le_right _ _) (OU _ _)
noncomputable def z_(K:Pm):V->Option Int->Option Int->Hp->VK->Prop:=fun x lo hi H Q=>∃ a xs,x=.ref a/\cc K H a xs /\
 ¬ (HT.bG xs.length 0 lo=0/\HT.bG xs.length xs.length hi=xs.length)/\∀ p,H p=none->Q (.ref p) (upd H p (.tup (lS xs lo hi)))
theorem C0:u_ X (z_ X.K):=by
 intro pins s σ H x v vl vu lo hi sl Q I rx hs pl pu h;obtain⟨a,xs,rfl,hx,hw,q⟩:=h;cases rx;obtain⟨its,r,ht,hz⟩:=I.tuple hx;have hlen:its.toArray.size=xs.length:=by rw[J_];exact r.length.symm
 refine⟨"tuple",_,L7.lookup,ht.typeIs,?_⟩;refine HT.gU ht hs pl pu (by rw[hlen];exact hw) ?_ (by rw[hlen];exact hz)
 rw[hlen];refine⟨.ref s.heap.objs.size,_,I.laid (t':=s.toks) (o:=.tup (lS xs lo hi)) (fun b ob q=>JW _ q) (Kc _) ?_,rfl,q _ (I.aO.fresh (Kc _))⟩;exact⟨Kq (iG xs lo hi) hz,_,(r.drop (HT.bG xs.length 0 lo)).take (HT.bG xs.length xs.length hi-HT.bG xs.length 0 lo),dz.new _ _⟩
noncomputable def EA(K:Pm):R2:=fun x y H Q=>∃ a b xs ys,x=.ref a/\y=.ref b/\cc K H a xs/\cc K H b ys/\xs≠[]/\xs.length+ys.length<=sizeLine /\
 (ys=[]->Q (.ref a) H)/\(ys≠[]->∀ p,H p=none->Q (.ref p) (upd H p (.tup (xs++ys))))
theorem Vals.l_(r:Vals xs us):us=[] ↔ xs=[]:=by
 cases r with
 |nil=>simp
 |cons _ _=>simp
theorem Aw:cK X (binaryOp .Add) (EA X.K):=by
 intro pins s σ H x y v u Q I rx ry h;obtain⟨a,b,xs,ys,rfl,rfl,ha,hb,hx,hz,q1,q2⟩:=h;cases rx;cases ry;obtain⟨its,r1,p1,_⟩:=I.tuple ha;obtain⟨its2,r2,p2,_⟩:=I.tuple hb;refine HT.zP p1 p2 (fun z=>hx (r1.l_.mp z)) (fun z=>⟨.ref a,H,I,rfl,q1 (r2.l_.mp z)⟩) (fun z=>?_) (by rw[<- r1.length,<- r2.length];exact hz)
 refine⟨.ref s.heap.objs.size,_,I.laid (t':=s.toks) (o:=.tup (xs++ys)) (fun b ob q=>JW _ q) (Kc _) ?_,rfl,q2 (fun w=>z (r2.l_.mpr w)) _ (I.aO.fresh (Kc _))⟩;exact⟨by rw[JX];exact hz,_,r1.append r2,dz.new _ _⟩
end
noncomputable def ie(n:Nat)(i:Int):Option Nat:=if 0<=i then (if i<n then some i.toNat else none) else if -(n:Int)<=i then some (i+n).toNat else none
noncomputable def bw(xs:List α)(i:Int):Option α:=(ie xs.length i).bind fun j=>xs[j]?
theorem qW{i:Int}{j:Nat}(h:ie n i=some j):seqIndex? i n=some j/\j<n/\-(n:Int)<=i/\i<n:=by
 unfold ie at h;by_cases h0:0<=i
 ·rw[Ke h0] at h;by_cases h1:i<n
  ·rw[Ke h1] at h;have e:i.toNat=j:=Option.some.inj h;exact⟨by rw[seqIndex_of h0 h1,e],by lia,by lia,h1⟩
  ·rw[JZ h1] at h;cases h
 ·rw[JZ h0] at h;by_cases h1:-(n:Int)<=i
  ·rw[Ke h1] at h;have e:(i+n).toNat=j:=Option.some.inj h;exact⟨by rw[O_ (by lia) h1,e],by lia,h1,by lia⟩
  ·rw[JZ h1] at h;cases h
theorem mV{xs:List α}{i:Int}{v:α}(h:bw xs i=some v):∃ j,seqIndex? i xs.length=some j/\xs[j]?=some v/\j<xs.length/\-(xs.length:Int)<=i/\i<xs.length:=by
 unfold bw at h
 cases e:ie xs.length i with
 |none=>rw[e] at h;cases h
 |some j =>
  rw[e] at h;obtain⟨h1,h2,h3,h4⟩:=qW e;exact⟨j,h1,h,h2,h3,h4⟩
theorem bB{xs:List α}{j:Nat}{v:α}(h:xs[j]?=some v):bw xs (j:Int)=some v:=by
 have hj:j<xs.length:=(Kf.mp h).1;have e:ie xs.length (j:Int)=some j:=by
  unfold ie;rw[Ke (by lia),Ke (by lia)];simp
 unfold bw;rw[e];exact h
theorem vj(xs:List α)(v:α):bw (xs++[v]) (-1)=some v:=by
 have hl:(xs++[v]).length=xs.length+1:=by simp
 have e:ie (xs++[v]).length (-1)=some xs.length:=by
  unfold ie;rw[hl,JZ (by decide),Ke (by lia)]
  congr 1;lia
 unfold bw;rw[e];show (xs++[v])[xs.length]?=some v;simp
noncomputable def sH(b:Expr):Prop:=∀ o i,subscripted b false o i=operate [o,i] (getItem o i)
noncomputable def uY(X:Cx)(r:R2):Prop:=
 ∀(value slice:Expr) (pins:List (Addr×Obj)) (s:Shared) (σ:St) (H:Hp) (x y:V) (v u:Value) (Q:VK),Inv X pins σ H s->RelV x v->RelV y u->r x y H Q ->
  subscripted slice false v u=operate [v,u] (getItem v u)->wpAny (model X.prog X.w) X.A (subscriptTail value slice v u) (EP X pins σ Q) X.xe s
noncomputable def rJ(X:Cx)(id:String)(r:V->List V->Hp->VK->Prop):Prop:=
 ∀(pins:List (Addr×Obj)) (s:Shared) (σ:St) (H:Hp) (x:V) (xs:List V) (v:Value) (us:List Value) (Q:VK),Inv X pins σ H s->RelV x v->Vals xs us->r x xs H Q ->
  wpAny (model X.prog X.w) X.A (call (.builtin id) (v::us)) (EP X pins σ Q) X.xe s
section
variable {X:Cx} {a b:Expr} {ta tb:TE} {pos:Pos}
theorem uY.or{r r':R2}(h:uY X r)(h':uY X r'):uY X (fun x y H Q=>r x y H Q\/r' x y H Q):=by
 intro value slice pins s σ H x y v u Q I rx ry q hs;rcases q with q|q
 ·exact h value slice pins s σ H x y v u Q I rx ry q hs
 ·exact h' value slice pins s σ H x y v u Q I rx ry q hs
theorem BL{r:R2}(hr:uY X r)(ha:PE X a ta)(hb:PE X b tb)(hs:sH b):PE X (.Subscript a b pos) (zp r ta tb):=by
 intro pins s σ H Q I h;exact Subscript_ (Ck ha hb I h fun v u s2 x y H2 I2 rx ry q=>hr a b pins s2 σ H2 x y v u Q I2 rx ry q (hs _ _))
noncomputable def Ft(K:Pm):R2:=fun x y H Q=>∃ p xs i v,x=.ref p/\y=.int i/\cx K H p xs/\bw xs i=some v/\Q v H
noncomputable def FE(K:Pm):R2:=fun x y H Q=>∃ p xs i v,x=.ref p/\y=.int i/\cc K H p xs/\bw xs i=some v/\Q v H
noncomputable def Fy:R2:=fun x y H Q=>∃ z i c,x=.str z/\y=.int i/\z.length<=sizeLine/\bw z.cps.toList i=some c/\Q (.str ⟨#[c]⟩) H
theorem zE:uY X (Ft X.K):=by
 intro value slice pins s σ H x y v u Q I rx ry h hs;obtain⟨p,xs,i,z,rfl,rfl,hq,he,q⟩:=h;cases rx;obtain⟨t,rfl⟩:=ry;obtain⟨its,r,pl,hz⟩:=I.list hq;obtain⟨j,h1,h2,h3,h4,h5⟩:=mV he;obtain⟨w,ew,rw'⟩:=r.get h2;have hl:=r.length;have hn:=gH;have fin:EP X pins σ Q w s:=⟨z,H,I,rw',q⟩;by_cases h0:0<=i
 ·have hj:i.toNat=j:=by
   rw[seqIndex_of h0 h5] at h1;exact Option.some.inj h1
  exact item_listR pl.isList h0 (by lia) (by rw[hj];simpa using ew) fin hs
 ·have hj:(i+(its.toArray.size:Int)).toNat=j:=by
   rw[O_ (by lia) h4] at h1
   rw[J_,<- hl];exact Option.some.inj h1
  exact subscriptTail_builtinR (x:=w) pl.isList.typeIs slot_list_getitem.lookup
   (wpAny_getItem_list_neg (Q:=fun r s'=>r=w/\EP X pins σ Q r s') pl.isList (by lia) (by rw[J_]<;>lia) (by lia) (by rw[hj];simpa using ew) ⟨rfl,fin⟩) hs
theorem vU:uY X (FE X.K):=by
 intro value slice pins s σ H x y v u Q I rx ry h hs;obtain⟨p,xs,i,z,rfl,rfl,hq,he,q⟩:=h;cases rx;obtain⟨t,rfl⟩:=ry;obtain⟨its,r,pl,hz⟩:=I.tuple hq;obtain⟨j,h1,h2,h3,h4,h5⟩:=mV he;obtain⟨w,ew,rw'⟩:=r.get h2;have hl:=r.length;have hn:=gH;have fin:EP X pins σ Q w s:=⟨z,H,I,rw',q⟩;exact subscriptTail_builtinR (x:=w) pl.typeIs slot_tuple_getitem.lookup
  (getItem_tuple (j:=j) (Q:=fun r s'=>r=w/\EP X pins σ Q r s') pl (by lia) (by lia) (by rw[J_,<- hl];exact h1) (by simpa using ew) ⟨rfl,fin⟩) hs
theorem BR:uY X Fy:=by
 intro value slice pins s σ H x y v u Q I rx ry h hs;obtain⟨z,i,c,rfl,rfl,hz,he,q⟩:=h;obtain⟨t,rfl⟩:=rx;obtain⟨t',rfl⟩:=ry;obtain⟨j,h1,h2,h3,h4,h5⟩:=mV he;have hl:z.cps.toList.length=z.length:=by simp[Str.length]
 rw[hl] at h1 h4 h5;have hn:=gH;exact tail_any (typeIs_str s z t) slot_str_getitem.lookup (getItem_str (c:=c) (by
  have e1:decide (i < -(2^63:Int))=false:=Kv (by lia)
  have e2:decide (i >= 2^63)=false:=Kv (by lia)
  rw[e1,e2,Bool.or_false]) (by rw[h1];simpa using h2) ⟨.str ⟨#[c]⟩,H,I.tok _,⟨_,rfl⟩,q⟩) hs
noncomputable def Hi(K:Pm):R2:=fun x y H Q=>Ft K x y H Q\/FE K x y H Q\/Fy x y H Q
theorem Cp:uY X (Hi X.K):=zE.or (vU.or BR)
theorem qJ(its:List Value)(n j:Nat)(u:Value):Obj.mapSeq (·.setIfInBounds j u) {cls:=.type "list",data:=.seq its.toArray n}={cls:=.type "list",data:=.seq (its.set j u).toArray n}:=by
 simp[Obj.mapSeq]
theorem Inv.lst{p:Addr}(I:Inv X pins σ H s)(h:H p=some (.lst xs)):
  ∃(its:List Value) (n:Nat),Vals xs its/\s.heap.get? p=some {cls:=.type "list",data:=.seq its.toArray n}/\xs.length<=sizeLine:=by
 obtain⟨z,its,n,r,e⟩:=I.aO p _ h;exact⟨its,n,r,e,z⟩
theorem Inv.BN{p:Addr}{ys:List V}{n':Nat}{f:Obj->Obj}(I:Inv X pins σ H s)(h:H p=some (.lst xs))
  (ho:s.heap.get? p=some {cls:=.type "list",data:=.seq its.toArray n}) (hf:f {cls:=.type "list",data:=.seq its.toArray n}={cls:=.type "list",data:=.seq its'.toArray n'}) (r:Vals ys its') (hz:ys.length<=sizeLine) (t:Nat) :
  Inv X pins σ (upd H p (.lst ys)) {s with heap:=s.heap.update p f,toks:=t}:=by
 have e:(s.heap.update p f).get? p=some {cls:=.type "list",data:=.seq its'.toArray n'}:=by
  rw[M6 f ho (by rw[hf]<;>rfl),hf]
 refine I.write (x:=p) (e:=p) (by rw[h];trivial) (.inl rfl) (fun b u hb q=>(M1 _ _ (Ne.symm hb)).trans q) ⟨_,e⟩ ?_
 exact⟨hz,its',n',r,e⟩
noncomputable def Gb:V->V->V->Hp->(Hp->Prop)->Prop:=fun o i v H Q=>∃ p xs k j,o=.ref p/\i=.int k/\H p=some (.lst xs)/\ie xs.length k=some j/\Q (upd H p (.lst (xs.set j v)))
theorem set_list:Ef X Gb:=by
 intro pins s σ H o i v ov iv u Q I ro ri rv h;obtain⟨p,xs,k,j,rfl,rfl,hp,hj,q⟩:=h;cases ro;obtain⟨t,rfl⟩:=ri;obtain⟨its,n,r,ho,hz⟩:=I.lst hp;obtain⟨h1,h2,h3,h4⟩:=qW hj;have hl:=r.length;have hn:=gH;have I':Inv X pins σ (upd H p (.lst (xs.set j v))) {s with heap:=s.heap.update p (Obj.mapSeq (·.setIfInBounds j u))}:=
  I.BN hp ho (qJ its n j u) (r.set rv j) (by rw[K_];exact hz) s.toks
 by_cases h0:0<=k
 ·have hk:k.toNat=j:=by
   rw[seqIndex_of h0 h4] at h1;exact Option.some.inj h1
  exact PySem.W.ki_setAt ho h0 (by lia) (by rw[J_,<- hl];exact h4) (by rw[hk];exact⟨_,I',q⟩)
 ·have hk:(k+(its.toArray.size:Int)).toNat=j:=by
   rw[O_ (by lia) h3] at h1
   rw[J_,<- hl];exact Option.some.inj h1
  exact PySem.W.ki_setBack ho (by lia) (by rw[J_,<- hl];exact h3) (by lia) (by rw[hk];exact⟨_,I',q⟩)
theorem mX(lo hi:Option Int)(n:Nat):(sliceBounds lo hi none n).1=((HT.bG n 0 lo:Nat):Int)/\(sliceBounds lo hi none n).2.1=((HT.bG n n hi:Nat):Int)/\(sliceBounds lo hi none n).2.2=1:=by
 refine⟨?_,?_,rfl⟩
 ·cases lo with
  |none=>simp[sliceBounds,HT.bG]
  |some i =>
   simp only[sliceBounds,HT.bG,Option.getD_none,show (1:Int) > 0 by decide,LS]
   by_cases h:i<0
   ·simp only[h,LS]<;>lia
   ·simp only[h,LJ]<;>lia
 ·cases hi with
  |none=>simp[sliceBounds,HT.bG]
  |some i =>
   simp only[sliceBounds,HT.bG,Option.getD_none,show (1:Int) > 0 by decide,LS]
   by_cases h:i<0
   ·simp only[h,LS]<;>lia
   ·simp only[h,LJ]<;>lia
theorem kE(its:List Value)(lo hi:Option Int):slicePick its.toArray lo hi none=((its.drop (HT.bG its.length 0 lo)).take (HT.bG its.length its.length hi-HT.bG its.length 0 lo)).toArray:=by
 obtain⟨h1,h2,h3⟩:=mX lo hi its.toArray.size;unfold slicePick;rw[h1,h2,h3];simp only[sliceRange_one,pick_run,J_]<;>rfl
noncomputable def Gp(K:Pm):V->Option Int->Option Int->Hp->VK->Prop:=fun x lo hi H Q=>∃ a xs,x=.ref a/\cx K H a xs/\∀ p,H p=none->Q (.ref p) (upd H p (.lst (lS xs lo hi)))
theorem zx:u_ X (Gp X.K):=by
 intro pins s σ H x v vl vu lo hi sl Q I rx hs pl pu h;obtain⟨a,xs,rfl,hx,q⟩:=h;cases rx;obtain⟨its,r,ht,hz⟩:=I.list hx;have hlen:=r.length;refine⟨"list",_,slot_list_getitem.lookup,ht.isList.typeIs,?_⟩;refine wpAny_getItem_list_slice ht.isList hs pl pu .none (by simp) ?_ (by rw[J_]<;>lia)
 rw[kE,<- hlen];refine⟨.ref s.heap.objs.size,_,I.laid (t':=s.toks) (o:=.lst (lS xs lo hi)) (fun b ob q=>JW _ q) (Kc _) ?_,rfl,q _ (I.aO.fresh (Kc _))⟩;exact⟨Kq (iG xs lo hi) hz,_,0,(r.drop (HT.bG xs.length 0 lo)).take (HT.bG xs.length xs.length hi-HT.bG xs.length 0 lo),Km _ rfl⟩
noncomputable def dU:V->Bool
 |.aC=>true
 |.bl _=>true
 |.int _=>true
 |.str _=>true
 |_=>false
noncomputable def tJ:V->V->Bool
 |.aC,.aC=>true
 |.bl a,.bl b=>a == b
 |.bl a,.int b=>(if a then 1 else 0) == b
 |.int a,.bl b=>a ==(if b then 1 else 0)
 |.int a,.int b=>a == b
 |.str a,.str b=>a == b
 |_,_=>false
theorem qH{y:V}{u v:Value}(ry:RelV y u)(rx:RelV x v)(fy:dU y=true)(fx:dU x=true):SeqAt.EqAt A s u v (tJ y x):=by
 cases y with
 |aC =>
  cases ry
  cases x with
  |aC=>cases rx;exact SeqAt.EqAt.same _
  |bl b=>cases rx;exact SeqAt.EqAt.none_bool b
  |int b=>obtain⟨t,rfl⟩:=rx;exact SeqAt.EqAt.none_int b t
  |str b=>obtain⟨t,rfl⟩:=rx;exact SeqAt.EqAt.none_str b t
  |_=>exact absurd (show false=true from fx) Ka
 |bl a =>
  cases ry
  cases x with
  |aC=>cases rx;exact SeqAt.EqAt.bool_none a
  |bl b=>cases rx;exact SeqAt.EqAt.bool_bool a b
  |int b=>obtain⟨t,rfl⟩:=rx;exact SeqAt.EqAt.bool_int a b t
  |str b=>obtain⟨t,rfl⟩:=rx;exact SeqAt.EqAt.bool_str a b t
  |_=>exact absurd (show false=true from fx) Ka
 |int a =>
  obtain⟨t',rfl⟩:=ry
  cases x with
  |aC=>cases rx;exact SeqAt.EqAt.int_none a t'
  |bl b=>cases rx;exact SeqAt.EqAt.int_bool a t' b
  |int b=>obtain⟨t,rfl⟩:=rx;exact SeqAt.EqAt.int_int a t' b t
  |str b=>obtain⟨t,rfl⟩:=rx;exact SeqAt.EqAt.int_str a t' b t
  |_=>exact absurd (show false=true from fx) Ka
 |str a =>
  obtain⟨t',rfl⟩:=ry
  cases x with
  |aC=>cases rx;exact SeqAt.EqAt.str_none a t'
  |bl b=>cases rx;exact SeqAt.EqAt.str_bool a t' b
  |int b=>obtain⟨t,rfl⟩:=rx;exact SeqAt.EqAt.str_int a t' b t
  |str b=>obtain⟨t,rfl⟩:=rx;exact SeqAt.EqAt.str_str a t' b t
  |_=>exact absurd (show false=true from fx) Ka
 |_=>exact absurd (show false=true from fy) Ka
noncomputable def qw(x:V)(u:Value):Bool:=match u with
 |.none=>tJ .aC x
 |.bool b=>tJ (.bl b) x
 |.int i _=>tJ (.int i) x
 |.str z _=>tJ (.str z) x
 |_=>false
theorem x4{y:V}{u:Value}(r:RelV y u)(f:dU y=true):qw x u=tJ y x:=by
 cases y with
 |aC=>cases r;rfl
 |bl b=>cases r;rfl
 |int i=>obtain⟨t,rfl⟩:=r;rfl
 |str z=>obtain⟨t,rfl⟩:=r;rfl
 |_=>exact absurd (show false=true from f) Ka
theorem gL:∀{xs:List V} {us:List Value},Vals xs us->xs.all dU=true->us.any (qw x)=xs.any fun y=>tJ y x
 |_,_,.nil,_=>rfl
 |y::xs,u::us,.cons r t,f=>by
  rw[Lf,KI] at f;rw[NI,NI,x4 r f.1,gL t f.2]
theorem fR{v:Value}(rx:RelV x v)(fx:dU x=true):∀{xs:List V} {us:List Value},Vals xs us->xs.all dU=true->∀ u∈us,SeqAt.EqAt A s u v (qw x u)
 |_,_,.nil,_=>fun u hu=>by cases hu
 |y::xs,u::us,.cons r t,f=>fun u' hu=>by
  rw[Lf,KI] at f;rcases Ki.mp hu with rfl|hu
  ·rw[x4 r f.1];exact qH r rx f.1 fx
  ·exact fR rx fx t f.2 u' hu
noncomputable def GO(x:V)(xs:List V):Bool:=xs.any fun y=>tJ y x
noncomputable def II(K:Pm)(neg:Bool):R2:=fun x y H Q=>∃ p xs,y=.ref p/\(cx K H p xs\/cc K H p xs)/\dU x=true/\xs.all dU=true/\Q (.bl (if neg then !GO x xs else GO x xs)) H
theorem tS:cK X (compareOp .In) (II X.K false):=by
 intro pins s σ H x y v u Q I rx ry h;obtain⟨p,xs,rfl,hq,fx,fs,q⟩:=h;cases ry;rcases hq with hq|hq
 ·obtain⟨its,r,pl,hz⟩:=I.list hq;refine SeqAt.in_listAt (qw x) pl.isList (fun w hw=>fR rx fx r fs w (by simpa using hw)) ⟨.bl _,H,I,rfl,?_⟩
  rw[show its.toArray.any (qw x)=its.any (qw x) by simp,gL r fs]
  exact q
 ·obtain⟨its,r,pl,hz⟩:=I.tuple hq;refine SeqAt.in_tupleAt (qw x) pl (fun w hw=>fR rx fx r fs w (by simpa using hw)) ⟨.bl _,H,I,rfl,?_⟩
  rw[show its.toArray.any (qw x)=its.any (qw x) by simp,gL r fs]
  exact q
theorem mx:cK X (compareOp .NotIn) (II X.K true):=by
 intro pins s σ H x y v u Q I rx ry h;obtain⟨p,xs,rfl,hq,fx,fs,q⟩:=h;cases ry;rcases hq with hq|hq
 ·obtain⟨its,r,pl,hz⟩:=I.list hq;refine SeqAt.notIn_listAt (qw x) pl.isList (fun w hw=>fR rx fx r fs w (by simpa using hw)) ⟨.bl _,H,I,rfl,?_⟩
  rw[show its.toArray.any (qw x)=its.any (qw x) by simp,gL r fs]
  exact q
 ·obtain⟨its,r,pl,hz⟩:=I.tuple hq;refine SeqAt.notIn_tupleAt (qw x) pl (fun w hw=>fR rx fx r fs w (by simpa using hw)) ⟨.bl _,H,I,rfl,?_⟩
  rw[show its.toArray.any (qw x)=its.any (qw x) by simp,gL r fs]
  exact q
theorem mP:cK X (compareOp .NotIn) (fun x y H Q=>∃ i j,x=.str i/\y=.str j/\Q (.bl (!(!(Builtin.Str.occurrences j i 0 j.length 1).isEmpty))) H):=by
 intro pins s σ H x y v u Q I rx ry h;obtain⟨i,j,rfl,rfl,q⟩:=h;obtain⟨t,rfl⟩:=rx;obtain⟨t',rfl⟩:=ry;exact notIn_str ⟨.bl _,H,I,rfl,q⟩
theorem mD:bf X (.builtin "len") (fun xs H Q=>∃ p ys,xs=[.ref p]/\(cx X.K H p ys\/cc X.K H p ys)/\Q (.int ys.length) H):=by
 intro pins s σ H xs us Q I r h;obtain⟨p,ys,rfl,hq,q⟩:=h;obtain⟨u,rfl,rx⟩:=vals1 r;cases rx;have hn:=gH;rcases hq with hq|hq
 ·obtain⟨its,r',pl,hz⟩:=I.list hq;have hlen:=r'.length;exact Calls.call_len_list pl.isList (by simp only[J_]<;>lia) ⟨.int ys.length,H,I.tok _,⟨s.toks+1,by rw[J_,hlen]⟩,q⟩
 ·obtain⟨its,r',pl,hz⟩:=I.tuple hq;have hlen:=r'.length;exact len_tuple pl (by simp only[J_]<;>lia) ⟨.int ys.length,H,I.tok _,⟨s.toks+1,by rw[J_,hlen]⟩,q⟩
theorem mH:bf X (.builtin "len") (fun xs H Q=>∃ z,xs=[.str z]/\z.length<=sizeLine/\Q (.int z.length) H):=by
 intro pins s σ H xs us Q I r h;obtain⟨z,rfl,hz,q⟩:=h;obtain⟨u,rfl,t,rfl⟩:=vals1 r;have hn:=gH;exact len_str (by lia) ⟨.int z.length,H,I.tok _,⟨_,rfl⟩,q⟩
theorem bf.or{f:Value}{r r':List V->Hp->VK->Prop}(h:bf X f r)(h':bf X f r'):bf X f (fun xs H Q=>r xs H Q\/r' xs H Q):=by
 intro pins s σ H xs us Q I rs q;rcases q with q|q
 ·exact h pins s σ H xs us Q I rs q
 ·exact h' pins s σ H xs us Q I rs q
theorem lT:bf X (.type "list") (fun xs H Q=>∃ p ys,xs=[.ref p]/\(cx X.K H p ys\/cc X.K H p ys)/\∀ l,H l=none->Q (.ref l) (upd H l (.lst ys))):=by
 intro pins s σ H xs us Q I r h;obtain⟨p,ys,rfl,hq,q⟩:=h;obtain⟨u,rfl,rx⟩:=vals1 r;cases rx;have fin:∀(its:List Value),Vals ys its->ys.length<=sizeLine->∀(h':Heap) (c':Nat),(∀ b o',s.heap.get? b=some o'->h'.get? b=some o') ->
   h'.get? s.heap.objs.size=some {cls:=.type "list",dict:=none,data:=.seq its.toArray c',slots:=#[]}->EP X pins σ Q (.ref s.heap.objs.size) {s with heap:=h'}:=fun its r' hz h' c' kp e =>
  ⟨.ref s.heap.objs.size,_,I.laid (t':=s.toks) kp (Kc _) (show bt X.prog X.w _ h' _ (.lst ys) from⟨hz,its,c',r',e⟩),rfl,q _ (I.aO.fresh (Kc _))⟩
 rcases hq with hq|hq
 ·obtain⟨its,r',pl,hz⟩:=I.list hq;have hlen:=r'.length;obtain⟨o,ho,hc,n,hd⟩:=pl.isList;exact call_list_seq p (.inl rfl) ho hc hd (fun h' c' kp e=>fin its r' hz h' c' kp e) (by simp only[J_]<;>lia)
 ·obtain⟨its,r',pl,hz⟩:=I.tuple hq;have hlen:=r'.length;obtain⟨o,ho,hc,n,hd⟩:=pl;exact call_list_seq p (.inr rfl) ho hc hd (fun h' c' kp e=>fin its r' hz h' c' kp e) (by simp only[J_]<;>lia)
theorem kv:bf X (.type "tuple") (fun xs H Q=>∃ p ys,xs=[.ref p]/\((cx X.K H p ys/\∀ l,H l=none->Q (.ref l) (upd H l (.tup ys)))\/(cc X.K H p ys/\Q (.ref p) H))):=by
 intro pins s σ H xs us Q I r h;obtain⟨p,ys,rfl,h⟩:=h;obtain⟨u,rfl,rx⟩:=vals1 r;cases rx;rcases h with ⟨hq,q⟩|⟨hq,q⟩
 ·obtain⟨its,r',pl,hz⟩:=I.list hq;have hlen:=r'.length;refine call_tuple_list pl.isList (fun h' kp=>?_) (by simp only[J_]<;>lia)
  have I1:Inv X pins σ H {s with heap:=h'}:=I.kept (t':=s.toks) kp
  have I2:Inv X pins σ (upd H h'.objs.size (.tup ys)) {s with heap:=h'.push {cls:=.type "tuple",data:=.seq its.toArray}}:=
   I1.laid (t':=s.toks) (fun b o e=>JW _ e) (Kc _) (show bt X.prog X.w _ _ _ (.tup ys) from⟨hz,its,r',dz.new _ _⟩)
  exact⟨.ref h'.objs.size,_,I2,rfl,q _ (I1.aO.fresh (Kc _))⟩
 ·obtain⟨its,r',pl,hz⟩:=I.tuple hq;exact call_tuple_same pl ⟨.ref p,H,I,rfl,q⟩
noncomputable def HZ(K:Pm)(T:String)(x:V)(H:Hp):Prop:=match x with
 |.str _=>T="str"
 |.int _=>T="int"
 |.ref p=>(T="list"/\∃ xs,cx K H p xs)\/(T="tuple"/\∃ o,K.lookup p=some o/\o.cls=.type "tuple"/\o.dict=none) \/
   (T="dict"/\((∃ kvs,H p=some (.dK kvs))\/∃ kvs,H p=some (.dT kvs)))\/(T="set"/\∃ S n,H p=some (.set S n))
 |_=>False
theorem wz{T:String}{v:Value}(I:Inv X pins σ H s)(r:RelV x v)(ty:HZ X.K T x H):
  s.TypeIs v T/\∀ a,v=.ref a->∃ ob,s.heap.get? a=some ob/\ob.dict=none:=by
 cases x with
 |str z =>
  obtain⟨t,rfl⟩:=r
  cases (show T="str" from ty)
  exact⟨typeIs_str s z t,fun _ e=>nomatch e⟩
 |int i =>
  obtain⟨t,rfl⟩:=r
  cases (show T="int" from ty)
  exact⟨Mx s i t,fun _ e=>nomatch e⟩
 |ref p =>
  cases r;rcases ty with ⟨rfl,xs,hq⟩|⟨rfl,o,hk,hc,hd⟩|⟨rfl,hk⟩|⟨rfl,S,n,hk⟩
  ·obtain⟨its,_,pl,_⟩:=I.list hq;refine⟨pl.isList.typeIs,fun a e=>?_⟩;cases e;obtain⟨o,n,e,c,hd,_⟩:=pl;exact⟨o,e,hd⟩
  ·refine⟨⟨o,I.h8 p o hk,hc⟩,fun a e=>?_⟩;cases e;exact⟨o,I.h8 _ o hk,hd⟩
  ·have z:∃ o,s.heap.get? p=some o/\o.ExactDict:=by
    rcases hk with ⟨kvs,hk⟩|⟨kvs,hk⟩
    ·obtain⟨_,_,_,_,o,_,_,e,ex,_⟩:=I.aO p _ hk;exact⟨o,e,ex⟩
    ·obtain⟨_,_,_,_,o,_,_,e,ex,_⟩:=I.aO p _ hk;exact⟨o,e,ex⟩
   obtain⟨o,e,ex⟩:=z;refine⟨⟨o,e,ex.1⟩,fun a e2=>?_⟩;cases e2;exact⟨o,e,ex.2.1⟩
  ·obtain⟨o,_,_,_,e,ex,_⟩:=I.aO p _ hk;refine⟨⟨o,e,ex.1⟩,fun a e2=>?_⟩;cases e2;exact⟨o,e,ex.2.1⟩
 |_=>exact False.elim ty
noncomputable def Iu(K:Pm)(T:String)(r:V->List V->Hp->VK->Prop)(to:TE):TE:=fun σ H Q=>to σ H fun x H1=>HZ K T x H1/\r x [] H1 Q
noncomputable def IQ(K:Pm)(T:String)(r:V->List V->Hp->VK->Prop)(to:TE)(t:TA):TE:=fun σ H Q=>to σ H fun x H1=>HZ K T x H1/\t σ H1 fun xs H2=>r x xs H2 Q
variable {o e:Expr} {es:List Expr} {to:TE} {t:TA} {name:Str} {apos cpos:Pos} {T id:String} {r:V->List V->Hp->VK->Prop}
theorem CN(pa:PlainAttrs T)(slot:Slot T name id)(hty:typeOf (.builtin id)=pure (.type "method_descriptor"))(hm:rJ X id r)(ho:PE X o to)
  (hbase:autoParam (attributeBase o name X.env (eval o X.env)=eval o X.env) ℜ0) (hline:autoParam ((apos.endLine == cpos.line)=true) ℜ0):PE X (.Call (.Attribute o name apos) [] [] cpos) (Iu X.K T r to):=by
 intro pins s σ H Q I h;refine wpAny_Call_method0_late hbase hline (bS (ho pins s σ H _ I h) fun v s1 ⟨x,H1,I1,r1,ty,q1⟩=>?_);obtain⟨h1,h2⟩:=wz I1 r1 ty;exact⟨T,id,pa,slot,hty,h1,h2,OA rfl (PySem.evalArgs_none (hm pins s1 σ H1 x [] v [] Q I1 r1 .nil q1))⟩
theorem FY(pa:PlainAttrs T)(slot:Slot T name id)(hty:typeOf (.builtin id)=pure (.type "method_descriptor"))(hm:rJ X id r)(ho:PE X o to)(ha:PA X (e::es) t)
  (hbase:autoParam (attributeBase o name X.env (eval o X.env)=eval o X.env) ℜ0)
  (hfew:autoParam (((backTo cpos (starEach (e::es) X.env)).all (fun x=>!x.1) && (backToKw cpos (keywordEach [] X.env)).all (fun x=>x.1.isSome)
   && decide ((e::es).length+([]:List Keyword).length+(if ([]:List Keyword).isEmpty then 0 else 1)<30))=true) ℜ0)
  (hline:autoParam ((apos.endLine == cpos.line)=true) ℜ0) (hs:autoParam (starEach (e::es) X.env=(false,eval e X.env)::starEach es X.env) ℜ0) (hplain:autoParam ((backTo cpos (starEach es X.env)).any (·.1)=false) ℜ0) :
  PE X (.Call (.Attribute o name apos) (e::es) [] cpos) (IQ X.K T r to t):=by
 intro pins s σ H Q I h;refine wpAny_Call_method_late hbase hfew hline rfl (bS (ho pins s σ H _ I h) fun v s1 ⟨x,H1,I1,r1,ty,q1⟩=>?_);obtain⟨h1,h2⟩:=wz I1 r1 ty;refine⟨T,id,pa,slot,hty,h1,h2,?_⟩;have hA:=ha cpos pins s1 σ H1 _ I1 q1;rw[hs] at hA ⊢;refine OA (by show (false || (backTo cpos (starEach es X.env)).any (·.1))=false;rw[hplain]<;>rfl) (Calls.evalArgs_plain ?_)
 exact bS hA fun us s2 ⟨vs,H2,I2,r2,q2⟩=>hm pins s2 σ H2 x vs v us Q I2 r1 r2 q2
/- xs.append(e),list.index on a module's tuple .. are rJ facts of 06m -/
end
noncomputable def GS(X:Cx)(id:String)(r:V->List V->Hp->VK->Prop):Prop:=
 ∀(pins:List (Addr×Obj)) (s:Shared) (σ:St) (H:Hp) (x:V) (xs:List V) (v:Value) (us:List Value) (Q:VK),Inv X pins σ H s->RelV x v->Vals xs us->r x xs H Q ->
  wpAny (model X.prog X.w) X.A (call (.builtin id) (v::us)) (EP X pins σ Q) X.xe s
theorem Vals.one:∀{x:V} {us:List Value},Vals [x] us->∃ u,us=[u]/\RelV x u
 |_,_,.cons r .nil=>⟨_,rfl,r⟩
theorem Vals.eraseIdx:∀{xs:List V} {us:List Value} (i:Nat),Vals xs us->Vals (xs.eraseIdx i) (us.eraseIdx i)
 |_,_,_,.nil=>.nil
 |_,_,0,.cons _ t=>t
 |_,_,i+1,.cons r t=>.cons r (Vals.eraseIdx i t)
theorem Vals.rep(h:Vals xs us):∀ k:Nat,Vals (List.replicate k xs).flatten (List.replicate k us).flatten
 |0=>.nil
 |k+1=>by
  rw[KG,KG,Lk,Lk];exact Vals.append h (Vals.rep h k)
theorem lH:∀(l:List α) (i:Nat),(l.eraseIdx i).length<=l.length
 |[],_=>Kc _
 |_::_,0=>Mc _
 |_::r,i+1=>Nat.succ_le_succ (lH r i)
theorem foldl_rep(its:List Value):∀(k:Nat) (acc:List Value),
  List.foldl (fun x1 x2=>x1++x2) acc.toArray (List.replicate k its.toArray)=(acc++(List.replicate k its).flatten).toArray
 |0,acc=>by simp
 |k+1,acc=>by
  have e:acc.toArray++its.toArray=(acc++its).toArray:=by simp
  have e2:(acc++its)++(List.replicate k its).flatten=acc++(List.replicate (k+1) its).flatten:=by
   rw[KG,Lk,Ku]
  rw[<- e2,<- foldl_rep its k (acc++its),<- e,KG,List.foldl_cons]
section
variable {X:Cx} {pins:List (Addr×Obj)} {σ:St} {H:Hp} {s:Shared} {l b:Addr} {xs ys zs:List V}
theorem Inv.C6{f:Array Value->Array Value}{t':Nat}(I:Inv X pins σ H s)(hH:H l=some (.lst xs))
  (e:s.heap.get? l=some {cls:=.type "list",data:=.seq its.toArray n}) (hf:f its.toArray=its'.toArray) (hv:Vals ys its') (hz:ys.length<=sizeLine) :
  Inv X pins σ (upd H l (.lst ys)) {s with heap:=s.heap.update l (Obj.mapSeq f),toks:=t'}:=by
 have q:=PySem.IsL.update e f;rw[hf] at q;refine I.write (x:=l) (e:=l) (by rw[hH];exact trivial) (.inl rfl) (fun b' u hb hu=>(M1 s.heap (Obj.mapSeq f) (Ne.symm hb)).trans hu) ⟨_,q⟩ ?_
 exact⟨hz,its',_,hv,q⟩
theorem Inv.CP{t':Nat}(I:Inv X pins σ H s)(hv:Vals ys its)(hz:ys.length<=sizeLine):
  Inv X pins σ (upd H s.heap.objs.size (.lst ys)) {s with heap:=s.heap.push {cls:=.type "list",data:=.seq its.toArray},toks:=t'}:=
 I.laid (fun _ _ q=>JW _ q) (Kc _) ⟨hz,its,0,hv,Km _ rfl⟩
theorem Inv.fresh(I:Inv X pins σ H s):H s.heap.objs.size=none:=I.aO.fresh (Kc _)
theorem Inv.qz(I:Inv X pins σ H s)(hH:H l=some (.lst xs)):xs.length<=sizeLine/\∃(its:List Value) (n:Nat),Vals xs its/\xs.length=its.length/\s.heap.get? l=some {cls:=.type "list",data:=.seq its.toArray n}:=by
 obtain⟨z,its,n,r,e⟩:=I.aO l _ hH;exact⟨z,its,n,r,r.length,e⟩
theorem ya(h:n<=sizeLine):Builtin.List.listTooLong n=false:=by
 unfold Builtin.List.listTooLong;exact Kv (by lia)
end
section
variable {X:Cx}
noncomputable def sU:V->List V->Hp->VK->Prop:=fun x vs H Q=>∃ l xs y,x=.ref l/\vs=[y]/\H l=some (.lst xs)/\xs.length<sizeLine/\Q .aC (upd H l (.lst (xs++[y])))
theorem bT:GS X "list.append" sU:=by
 intro pins s σ H x vs v us Q I rx rv h;obtain⟨l,xs,y,rfl,rfl,hH,hz,q⟩:=h;cases rx;obtain⟨u,rfl,ru⟩:=rv.one;obtain⟨z,its,n,r,hl,e⟩:=I.qz hH;refine L3 F.slot_list_append ⟨_,e,rfl⟩ F.entry_list_append (F.args_list_append_2 _ _) (PySem.list_append l its.toArray n u (by rw[J_];lia)) ⟨e,?_⟩
 refine⟨.aC,_,I.C6 (its':=its++[u]) hH e (by simp) (r.append (.cons ru .nil)) ?_,rfl,q⟩
 rw[JX,KL];lia
noncomputable def vV:V->List V->Hp->VK->Prop:=fun x vs H Q=>∃ l xs i k y,x=.ref l/\vs=[.int i]/\H l=some (.lst xs)/\-(2^63)<=i/\i<2^63/\seqIndex? i xs.length=some k/\xs[k]?=some y/\Q y (upd H l (.lst (xs.eraseIdx k)))
theorem yr:GS X "list.pop" vV:=by
 intro pins s σ H x vs v us Q I rx rv h;obtain⟨l,xs,i,k,y,rfl,rfl,hH,h1,h2,hk,hy,q⟩:=h;cases rx;obtain⟨u,rfl,ru⟩:=rv.one;obtain⟨t,rfl⟩:=ru;obtain⟨z,its,n,r,hl,e⟩:=I.qz hH;obtain⟨w,hw,rw'⟩:=r.get hy;refine L3 F.slot_list_pop ⟨_,e,rfl⟩ F.entry_list_pop (F.args_list_pop_2 _ _)
  (MeetsSeq.list_pop_at l its.toArray n i t k w (OM h1 h2) (by rw[J_,<- hl];exact hk) (by rw[<- K5];exact hw) (by rw[J_];lia)) ⟨e,?_⟩
 refine⟨y,_,I.C6 (its':=its.eraseIdx k) hH e ?_ (r.eraseIdx k) ?_,rw',q⟩
 ·show its.toArray.eraseIdxIfInBounds k=(its.eraseIdx k).toArray;rw[List.eraseIdxIfInBounds_toArray]
 ·have:=lH xs k;lia
noncomputable def Gf:R2:=fun x y H Q=>∃ l b xs zs,x=.ref l/\y=.ref b/\H l=some (.lst xs)/\H b=some (.lst zs)/\xs.length+zs.length<=sizeLine/\∀ p,H p=none->Q (.ref p) (upd H p (.lst (xs++zs)))
theorem CI:cK X (binaryOp .Add) Gf:=by
 intro pins s σ H x y v u Q I rx ry h;obtain⟨l,b,xs,zs,rfl,rfl,hH,hB,hz,q⟩:=h;cases rx;cases ry;obtain⟨z,its,n,r,hl,e⟩:=I.qz hH;obtain⟨z2,its2,n2,r2,hl2,e2⟩:=I.qz hB;refine PySem.P.add_list e e2 ?_ (by rw[J_,J_];lia)
 have ea:its.toArray++its2.toArray=(its++its2).toArray:=by simp
 rw[ea];exact⟨.ref _,_,I.CP (t':=s.toks) (r.append r2) (by rw[JX];lia),rfl,q _ I.fresh⟩
noncomputable def Fu:R2:=fun x y H Q=>∃ l k xs,x=.ref l/\y=.int k/\H l=some (.lst xs)/\-(2^63)<=k/\k<2^63/\xs.length*k.toNat<=sizeLine /\
 ∀ p,H p=none->Q (.ref p) (upd H p (.lst (List.replicate k.toNat xs).flatten))
theorem len_rep(xs:List α)(k:Nat):(List.replicate k xs).flatten.length=k*xs.length:=by
 induction k with
 |zero=>simp
 |succ k ih=>rw[KG,Lk,JX,ih,MK,Nat.add_comm]
theorem BZ:cK X (binaryOp .Mult) Fu:=by
 intro pins s σ H x y v u Q I rx ry h;obtain⟨l,k,xs,rfl,rfl,hH,h1,h2,hz,q⟩:=h;cases rx;obtain⟨t,rfl⟩:=ry;obtain⟨z,its,n,r,hl,e⟩:=I.qz hH;have hlen:its.toArray.size*k.toNat<=sizeLine:=by rw[J_,<- hl];exact hz
 have hcap:¬ its.toArray.size*k.toNat >(2^63-1) / 8:=by
  have:(sizeLine:Nat)<=(2^63-1) / 8:=by decide
  lia
 have hfit:¬ (!Builtin.List.listFitsIndex k)=true:=by
  rw[OM h1 h2];exact Ka
 have hlong:¬ Builtin.List.listTooLong (its.toArray.size*k.toNat)=true:=by
  rw[ya hlen];exact Ka
 have hnew:List.foldl (fun x1 x2=>x1++x2) #[] (List.replicate (if its.toArray.isEmpty=true then 0 else k.toNat) its.toArray)=(List.replicate k.toNat its).flatten.toArray:=by
  have f0:∀ m:Nat,List.foldl (fun x1 x2=>x1++x2) #[] (List.replicate m its.toArray)=(List.replicate m its).flatten.toArray:=fun m=>by
   have:=foldl_rep its m [];rw[L9] at this;exact this
  rw[f0]
  cases its with
  |nil=>simp
  |cons a r'=>rw[JZ (by simp)]
 refine LZ (T:="list") (U:="int") (by decide) ⟨_,e,rfl⟩ (fun s'=>Mx s' k t) noFill_list_mul F.fills_int_mul F.slot_int_rmul repeat_list F.slot_int_index.lookup
  (L3 F.slot_int_rmul (Mx s k t) F.entry_int_rmul (F.args_int_rmul_2 _ _) (int___rmul___int_list k t l its.toArray n)
   ⟨e,rfl,⟨_,e,rfl⟩,L3 F.slot_list_mul ⟨_,e,rfl⟩ F.entry_list_mul (F.args_list_mul_2 _ _) (AutoListH.list___mul___list_int_3 l its.toArray n k t hfit hcap hlong) ⟨e,?_⟩⟩)
 rw[hnew];exact⟨.ref _,_,I.CP (t':=s.toks) (r.rep k.toNat) (by rw[len_rep,Nat.mul_comm];exact hz),rfl,q _ I.fresh⟩
end
noncomputable def Ds(i:Expr):Prop:=∀ ov iv,subscripted i false ov iv=operate [ov,iv] (getItem ov iv)
theorem zK{prog:Program}{w:World}{E:Value->Shared->Prop}{env:Env}{value slice:Expr}{pos:Pos}{T id:String}{Q:Value->Shared->Prop}
  (hl:typeLookup (.type T) "__getitem__"=pure (some (.builtin id))) (hs:Ds slice)
  (h:wpAny (model prog w) A (eval value env) (fun o s₁=>wpAny (model prog w) A (eval slice env) (fun i s₂=>s₂.TypeIs o T/\wpAny (model prog w) A (getItem o i) Q E s₂) E s₁) E s) :
  wpAny (model prog w) A (eval (.Subscript value slice pos) env) Q E s:=by
 refine Subscript_ (Lg h (fun o s₁ h₁=>Lg h₁ (fun i s₂ h₂=>?_) fun _ _ x=>x) fun _ _ x=>x);obtain⟨hT,h₂⟩:=h₂;unfold subscriptTail;refine JU ?_;rw[getitemInPython_of_ne hT.not_modules];refine JU (wpAny_specialOf hT hl ?_);have fin:wpAny (model prog w) A (subscripted slice false o i) (fun r s₃=>wpAny (model prog w) A (letTemporaryGo value o r >>= fun _=>pure r) Q E s₃) E s₂:=by
  rw[hs o i];exact wpAny_operating (Lg h₂ (fun r s₃ h₃=>JU (wpAny_letTemporaryGo (Kb h₃))) fun _ _ x=>x)
 first
  |exact Kb (JU fin)
  |exact JU (Kb (JU fin))
  |exact JU fin
end L2
namespace Att
open PySem PySem.W PySem.Calls PyProof.Rows
variable{l:OpenLaw}
theorem iV{P:Params}{h:Heap}:∀(ns:List Int) (vs:List Value),WellAll P h vs (ns.map WData.int)->IntsAre vs ns:=by
 intro ns
 induction ns with
 |nil =>
  intro vs w;rw[List.map_nil] at w;cases w;exact .nil
 |cons n ns ih =>
  intro vs w;rw[List.map_cons] at w
  cases w with
  |cons a b =>
   cases a;exact .cons _ _ (ih _ b)
theorem uD{n:Nat}(hn:l.most=some n){P:Params}{h:Heap}{args:List WData}{vals:List Value}
  (hpre:l.row.toRowW.claim.pre args=true) (hwl:WellAll P h vals args) :
  ∃ a vs ns,vals=[Value.ref a]/\args=[WData.list (ns.map WData.int)]/\h.get? a=some {cls:=.type "list",data:=.seq vs.toArray}/\IntsAre vs ns/\ns.length<=n:=by
 have hsh:WShape.hasAll [] args [.list .int]=true:=(pre_splitW hpre).1;have hc:l.pre.holds [] {args:=args}=true:=(pre_splitW hpre).2;obtain⟨d,r,rfl,h1,h2⟩:=hasAllW_cons hsh;obtain rfl:=hasAllW_nil h2;obtain⟨xs,rfl,h3⟩:=hasW_list h1;obtain⟨ns,rfl⟩:=items_int h3;have hlen:ns.length<=n:=by
  unfold OpenLaw.pre at hc;have h4:(WTm.not (.lt (.lit (.int (n:Int))) (.len (.arg 0)))).holds [] {args:=[.list (ns.map .int)]}=true:=by
   have h4:=(holds_andW hc).1;rw[hn] at h4;exact h4
  have h5:=condW_of h4 (w_not (w_lt w_lit (w_len_list (w_arg rfl))));rw[List.length_map] at h5;refine Nat.le_of_not_lt fun q=>?_;have q':(n:Int)<((ns.length:Nat):Int):=by lia
  first
   | (rw[decide_eq_true q'] at h5;exact absurd h5 (by decide))
   | (simp at h5;lia)
 cases hwl with
 |cons w1 w2 =>
  cases w2
  cases w1 with
  |list ho hall=>exact⟨_,_,ns,rfl,rfl,ho,iV ns _ hall,hlen⟩
theorem uR(l:OpenLaw)(args:List WData):l.row.toRowW.claim.post args (.bool true) args=true:=
 postW_of (r:=l.row.toRowW) (X:=(true == true))
  (show WShape.has [] (.bool true) .bool=true by first|rfl|decide|simp[WShape.has,WShape.arms,WShape.armsAll])
  (show (WTm.eq .res (.lit (.bool true))).value [] {args:=args,res:=some (.bool true),after:=args}=some (.bool (true == true)) from w_eq_bool (w_res rfl) w_lit) rfl
theorem n_{n:Nat}{q:Program}{loose:List Str}{XP:(Str->Option Value)->Heap->Prop}{YP:World->Heap->Prop}{d:DefRec}
  (hn:l.most=some n) (hdf:d.params.defaults=[])
  (call:∀(w:World) (s₀ s₁:Shared) (mg mb:Str->Option Value) (fa:Addr) (o:Obj) (pm cd doc:Value) (a:Addr) (vs:List Value) (ns:List Int),
   Ground q loose [] XP w s₀ mg mb s₁.heap->YP w s₁.heap ->
   s₁.heap.get? fa=some o->o.data=.func (docDef d.name d.params d.body d.scope pm cd doc)->s₁.heap.CodeRec cd d.name->mg d.name=some (.ref fa) ->
   s₁.heap.get? a=some {cls:=.type "list",data:=.seq vs.toArray}->IntsAre vs ns->ns.length<=n->s₁.gens=#[] ->
   codeAny (model l.prog w) callerA (.call (.ref fa) ⟨[.ref a],[]⟩) (fun r s'=>r=.ok (.ret (.bool true))/\OldK s₁.heap s'.heap/\s'.os=s₁.os/\AllBare s'.gens) s₁) :
  WalkO q loose XP YP l.row.toRowW d [] (fun f vs=>PySem.call f vs):=by
 intro w s₀ s₁ mg mb G Y fa o pm cd doc dV kV ho hd hcd hD hmg hg args vals as hpre hlay hrd hwl hlo;obtain rfl:dV=.none:=Dflts.none hD hdf;obtain rfl:kV=.none:=Dflts.noKw hD;obtain⟨a,vs,ns,rfl,rfl,hobj,hints,hlen⟩:=uD hn hpre hwl;refine enter_call (codeAny_mono (call w s₀ s₁ mg mb fa o pm cd doc a vs ns G Y ho (fd_plain hd) hcd hmg hobj hints hlen hg) fun r s' hq=>?_);obtain⟨rfl,h2,h3,h4⟩:=hq;exact⟨.inl ⟨.bool true,.bool true,[],rfl,fun _=>rfl,.bool true,uR l _,fun _=>⟨List.Pairwise.nil,fun _ hm=>(nomatch hm)⟩⟩,h2,h3,h4⟩
end Att
namespace L2
open PySem PySem.Spec PyProof.Rows
variable{P prog q:Program}{K:Pm}{N ON loose:List Str}{mb mg:Str->Option Value}{base h h':Heap}{a b f fa i1 i2 it l l1 l2 p z:Addr}{o:HO}{w:World}{CX:kL}{i j k n:Nat}{fd:FuncData}{name qual x:Str}{sp:Sp}{vs xs ys:List V}{ns:List Int}{X:Cx}{st:Stmt}{A:Around}{osc scope:Scope}{env:Env}{cells:List (Str×Addr)}{s:Shared}{e elt iter tg:Expr}{es ifs:List Expr}{tc:TT}{te:TE}{pins:List (Addr×Obj)}{σ:St}{H H' H1:Hp}{E Q:Value->Shared->Prop}{apos cpos tp:Pos}{r:List V->Hp->VK->Prop}{ta:TA}{items:Array Value}{fp:List Addr}{α:Type}{r':R2}{hi lo:Option Expr}{ad:Nat->Addr}{md:List Bool}{P1 P2:Nat->Value->Prop}{S1 S2:Nat->Heap->Prop}{cls:Value}{To:Option Addr}
theorem lu:∀{vs:List Value} {ns:List Int},IntsAre vs ns->Vals (ns.map V.int) vs
 |_,_,.nil=>.nil
 |_,_,.cons n t h=>.cons ⟨t,rfl⟩ (lu h)
structure hG (q:Program) (K:Pm):Prop where
 nt:PySem.W.noTabs K=true
 nd:((bQ K).map (·.2.1)).Nodup
 fd:∀ x∈dP,PySem.W.tabIn K x=none\/((recsOf q).find? (fun e=>e.name == x)).isSome=true
theorem hG.at{mean:ExcName->Option Value}(L:hG q K)(T:Top q loose mean mg mb h)(X:K.In h):∀ t∈bQ K,PySem.W.CodeHd h t.1 t.2.1/\h.get? t.2.1=some (PySem.W.tabObj #[]):=fun t ht=>by
 unfold bQ at ht;obtain⟨x,hx,e⟩:=MJ.mp ht;obtain⟨p,e1,e2⟩:=Option.map_eq_some_iff.mp e;obtain⟨c,Pt⟩:=p;subst e2;rcases L.fd x hx with z|z
 ·rw[z] at e1;cases e1
 ·obtain⟨d,hd⟩:=Oc.mp z;exact PySem.W.tab_of T X hd e1
noncomputable def nj:List (Addr×Addr×Str)->Addr->Option HO
 |[],_=>none
 |t::r,b=>if b=t.2.1 then some (.va #[.str t.2.2 0]) else nj r b
theorem fY:∀{l:List (Addr×Addr×Str)},nj l b=some o->∃ t∈l,b=t.2.1/\o=.va #[.str t.2.2 0]
 |t::r,e=>by
  unfold nj at e;by_cases z:b=t.2.1
  ·rw[Ke z] at e;cases e;exact⟨t,.head _,z,rfl⟩
  ·rw[JZ z] at e;obtain⟨u,hu,q⟩:=fY e;exact⟨u,.tail _ hu,q⟩
theorem oX{t:Addr×Addr×Str}:∀{l:List (Addr×Addr×Str)},(l.map (·.2.1)).Nodup->t∈l->nj l t.2.1=some (.va #[.str t.2.2 0])
 |u::r,nd,m=>by
  obtain⟨n1,n2⟩:=KQ.mp nd;unfold nj;rcases Ki.mp m with rfl|m
  ·rw[Ke rfl]
  ·rw[JZ fun z=>n1 (KA.mpr ⟨t,m,z⟩)];exact oX n2 m
theorem x5{s₁:Shared}{vs:List Value}
  (KX:K.In s₁.heap) (hns:s₁.heap.Ns mainGlobals mg) (hb:s₁.heap.Ns builtinsNs mb) (hbb:∀ x:Str,x≠"__name__"->mb x=bootBuiltins x) (hlim:s₁.heap.NoLimit) (hbm:BY mg s₁.heap)
  (hT:∀ t∈bQ K,PySem.W.CodeHd s₁.heap t.1 t.2.1/\s₁.heap.get? t.2.1=some (PySem.W.tabObj #[])) (L:hG q K) (hg:s₁.gens=#[])
  (ha:s₁.heap.get? a=some {cls:=.type "list",data:=.seq vs.toArray}) (hi:IntsAre vs ns) (hl:ns.length<=sizeLine) (hr:b7 k callerA)
  (F:∀ base:Heap,K.In base->base.Ns mainGlobals mg->d_ P w K mg base CX k fa fd [x] sp) (hbind:∀(s:Shared) (u:Value),BindsTo s fd ⟨[u],[]⟩ [(x,u)])
  (hsp:∀ H:Hp,True->cx K H a (ns.map V.int)->sp [.ref a] H (fun v _=>v=.bl true) fun _ _ _=>False)
  (hCX:∀ H e s',CX [] H s₁ (fun _ _ _=>False) e s'->False) :
  codeAny (model P w) callerA (.call (.ref fa) ⟨[.ref a],[]⟩) (fun r s'=>r=.ok (.ret (.bool true))/\OldK s₁.heap s'.heap/\s'.os=s₁.os/\AllBare s'.gens) s₁:=by
 have rv:=lu hi;have lenV:=hi.length;have naT:∀ t∈bQ K,t.2.1≠a:=fun t ht z=>by
  have e:=(hT t ht).2;rw[z,ha] at e;cases e
 let oS:Obj:={cls:=.type "list",data:=.seq vs.toArray}
 have core:∀ S:Option HO,(S=none\/S=some (.ia oS (.lst (ns.map V.int))))->(S≠none->K.lookup a=none)->cx K (fun b=>if b=a then S else nj (bQ K) b) a (ns.map V.int) ->
   codeAny (model P w) callerA (.call (.ref fa) ⟨[.ref a],[]⟩) (fun r s'=>r=.ok (.ret (.bool true))/\OldK s₁.heap s'.heap/\s'.os=s₁.os/\AllBare s'.gens) s₁:=by
  intro S hS hK hSq;generalize hH:(fun b=>if b=a then S else nj (bQ K) b)=H at hSq
  have hA:H a=S:=by rw[<- hH];exact Ke rfl
  have hB:∀ b,b≠a->H b=nj (bQ K) b:=fun b z=>by rw[<- hH];exact JZ z
  have free:∀{b:Addr} {o:Obj},s₁.heap.get? b=some o->o≠PySem.W.tabObj #[]->(b=a->S=none)->H b=none:=fun {b o} e hn hz=>by
   by_cases z:b=a
   ·rw[z,hA];exact hz z
   ·rw[hB b z]
    cases q:nj (bQ K) b with
    |none=>rfl
    |some u =>
     obtain⟨t,ht,e1,_⟩:=fY q;have e2:=(hT t ht).2;rw[<- e1,e] at e2;exact absurd (Option.some.inj e2) hn
  have nsK:∀{b:Addr} {m:Str->Option Value},s₁.heap.Ns b m->(kA s₁.heap H).Ns b m:=fun {b m} ⟨o,es,ep,e,d,r⟩=>⟨o,es,ep,gM e (free e (fun z=>by rw[z] at d;cases d) fun z=>by rw[z,ha] at e;cases e;cases d),d,r⟩
  have hKb:K.In (kA s₁.heap H):=fun b o e=>gM (KX b o e) (free (KX b o e) (fun z=>by
    have h2:=Ln.mp L.nt (b,o) (PySem.W.mem_of_lookupK e);subst z;exact absurd (show false=true from h2) Ka) fun z=>by
    cases q:S with
    |none=>rfl
    |some u=>rw[z,hK (by rw[q];simp)] at e;cases e)
  have hcd:∀ t∈bQ K,PySem.W.CodeHd (kA s₁.heap H) t.1 t.2.1:=fun t ht=>by
   obtain⟨o,us,fl,tf,fg,tg,eF,tx,tt,e1,e2,r⟩:=(hT t ht).1;exact⟨o,us,fl,tf,fg,tg,eF,tx,tt,gM e1 (free e1 (fun z=>by rw[z] at e2;cases e2) fun z=>by rw[z,ha] at e1;cases e1;exact absurd (Value.type.inj e2) (by decide)),e2,r⟩
  have hbm':BY mg (kA s₁.heap H):=by
   obtain⟨bm,ob,b1,b2,b3,b4,b5⟩:=hbm;exact⟨bm,ob,b1,b2,gM b3 (free b3 (fun z=>by rw[z] at b4;cases b4) fun z=>by rw[z,ha] at b3;cases b3;exact absurd (Value.type.inj b4) (by decide)),b4,b5⟩
  have aO:fV P w H s₁.heap:=fun b u e=>by
   by_cases z:b=a
   ·rw[z,hA] at e;rcases hS with h0|h0
    ·rw[h0] at e;cases e
    ·rw[h0] at e;cases e;subst z;exact⟨ha,by rw[JY];exact hl,vs,_,rv,ha⟩
   ·rw[hB b z] at e;obtain⟨t,ht,e1,e2⟩:=fY e;subst e2;exact⟨#[],by rw[e1];exact (hT t ht).2,trivial,fun pos cv c=>by cases (show (none:Option Value)=some cv from c)⟩
  have hM:Mod K mg (kA s₁.heap H):=⟨hKb,nsK hns,⟨mb,nsK hb,hbb⟩,let ⟨mc,h1,h2⟩:=hlim;⟨mc,nsK h1,h2⟩,hcd,hbm'⟩
  have e0:zV P w K mg (kA s₁.heap H) callerA [] s₁ H:=⟨rfl,hM,fun b o e=>zh e,Pa (uy _ _),trivial,fun b hb=>absurd (show b∈([]:List Addr) from hb) (by simp),aO,.of_eq hg,fun t ht=>⟨#[],by
   rw[hB _ (naT t ht),oX L.nd ht,N8]⟩⟩
  refine Ob ((F _ hKb (nsK hns)).run callerA [] s₁ H ⟨[.ref a],[]⟩ [.ref a] [.ref a] _ _ hr e0 (hbind s₁ (.ref a)) (.cons rfl .nil) (hsp H trivial hSq)) fun r s' h=>?_
  cases r with
  |error e=>exact (hCX H e s' h).elim
  |ok fl =>
   cases fl with
   |next=>exact False.elim h
   |brk=>exact False.elim h
   |cont=>exact False.elim h
   |ret u =>
    obtain⟨v,H',os,bare,un,hok',r',qv⟩:=h;have q':v=.bl true:=qv;subst q';obtain rfl:u=Value.bool true:=r';have each:∀ b o,s₁.heap.get? b=some o->s'.heap.get? b=some o\/∃ c,PySem.W.CodeHd s₁.heap c b/\o=PySem.W.tabObj #[]/\∃ ps,s'.heap.get? b=some (PySem.W.tabObj ps):=fun b o e=>by
     cases qb:H b with
     |none=>exact .inl (un.keep b o e qb (by intro z;exact absurd (show b∈([]:List Addr) from z) (by simp)) (by simp))
     |some u =>
      by_cases z:b=a
      ·rw[z,hA] at qb;rcases hS with h0|h0
       ·rw[h0] at qb;cases qb
       ·have z2:=un.jn a oS _ (by rw[hA,h0])
        obtain⟨e2,_⟩:=hok' a _ z2;rw[z,ha] at e;cases e;exact .inl (by rw[z];exact e2)
      ·have qt:=qb;rw[hB b z] at qt;obtain⟨t,ht,e1,e2⟩:=fY qt;obtain⟨h1,h2⟩:=hT t ht;rw[<- e1] at h1 h2;rw[e] at h2;cases h2;subst e2;obtain⟨more,e3⟩:=un.iQ b _ qb;obtain⟨qs,e4,_⟩:=hok' b _ e3;exact .inr ⟨_,h1,rfl,qs,e4⟩
    refine⟨rfl,⟨fun b o e=>?_,fun b o e=>?_⟩,os,bare⟩
    ·rcases each b o e with z|⟨c,hc,z,ps,hp⟩
     ·exact .inl z
     ·subst z;exact .inr (.inl ⟨(hc.tab e).isCodeTable,rfl,#[],ps,rfl,by rw[Array.empty_append];exact hp⟩)
    ·rcases each b o e with z|⟨c,hc,z,ps,hp⟩
     ·exact⟨o,z⟩
     ·exact⟨_,hp⟩
 cases hk:K.lookup a with
 |some o =>
  have e:=KX a o hk;rw[ha] at e;cases e;exact core none (.inl rfl) (fun z=>absurd rfl z) (.inr ⟨_,vs.toArray,_,hk,rfl,rfl,rfl,by rw[J_,lenV];exact hl,by simpa using rv⟩)
 |none=>exact core (some (.ia oS (.lst (ns.map V.int)))) (.inr rfl) (fun _=>hk) (.inl (.inr ⟨oS,Ke rfl⟩))
theorem zz{l:PySem.W.OpenLaw}{XP:(Str->Option Value)->Heap->Prop}{YP:World->Heap->Prop}{d:DefRec}{K:Params->Pm}{CX:World->kL}{sp:World->Sp}
  (hn:l.most=some n) (hn2:n<=sizeLine) (hdf:d.params.defaults=[]) (hr:b7 k callerA)
  (hY:∀(w:World) (h:Heap),YP w h->(K w.params).In h)
  (F:∀(w:World) (mg:Str->Option Value) (fa:Addr) (h:Heap),(K w.params).In h->h.Ns mainGlobals mg->mg d.name=some (.ref fa) ->
   ∃ fd:FuncData,(∀(s:Shared) (u:Value),BindsTo s fd ⟨[u],[]⟩ [(x,u)]) /\
    ∀ base:Heap,(K w.params).In base->base.Ns mainGlobals mg->d_ l.prog w (K w.params) mg base (CX w) k fa fd [x] (sp w))
  (hsp:∀(w:World) (H:Hp) (a:Addr) (ns:List Int),ns.length<=n->True->cx (K w.params) H a (ns.map V.int)->sp w [.ref a] H (fun v _=>v=.bl true) fun _ _ _=>False)
  (hCX:∀(w:World) (H:Hp) (s:Shared) (e:Value) (s':Shared),CX w [] H s (fun _ _ _=>False) e s'->False) (hL:∀(w:World) (h:Heap),(K w.params).In h->hG q (K w.params)) :
  PySem.W.WalkO q loose XP YP l.row.toRowW d [] (fun f vs=>PySem.call f vs):=by
 refine Att.n_ hn hdf fun w s₀ s₁ mg mb fa o pm cd doc a vs ns G Y ho hd hcd hmg hobj hints hlen hg=>?_;have KX:=hY w _ Y;obtain⟨fd,hb,hF⟩:=F w mg fa _ KX G.T.g hmg;have L:=hL w _ KX;exact x5 KX G.T.g G.T.b G.T.builtins G.T.nolimit G.T.bmain (L.at G.T KX) L hg hobj hints (Kq hlen hn2) hr hF hb (fun H hO hS=>hsp w H a ns hlen hO hS) fun H e s'=>hCX w H s₁ e s'
noncomputable def dC(s:Stmt):Arguments:=match s with
 |.FunctionDef _ a _ _ _ _ _ _ _ _=>a
 |_=>{posonlyargs:=[],args:=[],vararg:=none,kwonlyargs:=[],kw_defaults:=[],kwarg:=none,defaults:=[]}
noncomputable def bA(s:Stmt):List Stmt:=match s with
 |.FunctionDef _ _ b _ _ _ _ _ _ _=>b
 |_=>[]
noncomputable def aa(s:Stmt):Scope:=match s with
 |.FunctionDef _ _ _ _ _ _ sc _ _ _=>sc
 |_=>{kind:=.function,names:=[],isGenerator:=false,isCoroutine:=false}
abbrev aU:kL:=fun _ _ _ _ _ _=>False
abbrev E0:XK:=fun _ _ _=>False
theorem ax:Passes aU X E0:=fun _ _ _ _ _ _ _ h=>h.elim
structure yB (K:Pm) (x qual:Str) (st:Stmt) (f:Addr) (fd:FuncData):Prop where
 ex:∃(oc:Value) (od:Option Addr) (kV doc pm:Value) (an:Option Addr) (cdv ct:Value) (osl:Array (Option Value)),
  fd=PySem.W.fnOf x qual (dC st) (bA st) (aa st) .none kV doc pm an cdv ct/\K.lookup f=some ⟨oc,od,.func fd,osl⟩/\PySem.W.codeIn K cdv qual=true
 kp:PySem.W.keepIn K (.ref f)=true
section
variable {P:Program} {w:World} {K:Pm} {mg:Str->Option Value} {base:Heap}
theorem yB.ok{ps:List Str}(F:yB K x qual st f fd)(S:ao N ps (aa st))(len:∀ vs H Q E,sp vs H Q E->vs.length=ps.length)
  (hbody:∀(cdv:Value) (A:Around) (outer:List Env) (s:Shared) (H:Hp) (vs:List V) (Q:VK) (E:XK),b7 k (A.deeper (envOfC qual (aa st) s.heap.objs.size f cdv))->sp vs H Q E ->
   ∃ t,pG (gK aU P w K mg base N qual (aa st) f cdv A outer s H E).zJ (bA st) t/\t {nx:=fun _ H'=>Q .aC H',rt:=Q} (start N vs) H):d_ P w K mg base aU (k+1) f fd ps sp:=by
 obtain⟨oc,od,kV,doc,pm,an,cdv,ct,osl,rfl,lk,hcd⟩:=F.ex;refine AY lk hcd S len fun A outer s H vs Q E hr hsp=>?_;obtain⟨t,h,q⟩:=hbody cdv A outer s H vs Q E hr hsp;exact⟨t,h.zJ,q⟩
theorem yB.binds{ps:List Str}(F:yB K x qual st f fd)
  (h:∀(kV doc pm:Value) (an:Option Addr) (cdv ct:Value) (us:List Value),us.length=ps.length->bindArgs (PySem.W.fnOf x qual (dC st) (bA st) (aa st) .none kV doc pm an cdv ct) ⟨us,[]⟩=pure (ps.zip us)):Binds K fd ps []:=by
 obtain⟨oc,od,kV,doc,pm,an,cdv,ct,osl,rfl,lk,hcd⟩:=F.ex;exact .all (h kV doc pm an cdv ct)
theorem pH{oc:Value}{od an:Option Addr}{osl:Array (Option Value)}{kV doc pm cdv ct:Value}(l:K.lookup f=some ⟨oc,od,.func (PySem.W.fnOf x qual (dC st) (bA st) (aa st) .none kV doc pm an cdv ct),osl⟩)
  (c:PySem.W.codeIn K cdv qual=true) (k:PySem.W.keepIn K (.ref f)=true):yB K x qual st f (PySem.W.fnOf x qual (dC st) (bA st) (aa st) .none kV doc pm an cdv ct):=⟨⟨oc,od,kV,doc,pm,an,cdv,ct,osl,rfl,l,c⟩,k⟩
end
theorem aS(hr:b7 k A):A.units+1<cLine:=Kx (Nat.add_le_add_left (by decide:1<=64) _) hr.units
section
variable {X:Cx}
theorem pv(i:Nat){pos:Pos}(hN:autoParam (X.N[i]?=some x) ℜ0)(hv:autoParam (D4 X.env.scope x) ℜ4)(hd:autoParam ((x ==("__debug__":Str))=false) ℜ1)
  (hcd:autoParam ((x ==("__classdict__":Str))=false) ℜ1):PE X (.Name x pos) (Dg i):=CG hN hv hd hcd
end
noncomputable def bL(H H':Hp):Prop:=∀ b o,H b=some o->H' b=some o
theorem bL.refl(H:Hp):bL H H:=fun _ _ h=>h
noncomputable def eA(cells:List (Str×Addr)):List (Str×NameKind)->List (Str×Addr)->List (Str×Addr)
 |[],acc=>acc
 | (n,k)::r,acc=>if k=.free then eA cells r ((n,(cells.lookup n).getD 0)::acc) else eA cells r acc
theorem gu(h:∀ x∈scope.names,x.2=.free->∃ c,env.cells.lookup x.1=some c):closureFor scope env=pure (eA env.cells scope.names []):=by
 have all:∀(l:List (Str×NameKind)) (acc:List (Str×Addr)),(∀ x∈l,x.2=.free->∃ c,env.cells.lookup x.1=some c) ->
   (forIn l acc fun (x:Str×NameKind) (cs:List (Str×Addr))=>(match x with | (name,kind)=>if (kind == NameKind.free)=true then (do let c <- cellOf env name;pure (ForInStep.yield ((name,c)::cs))) else pure (ForInStep.yield cs):Sem (ForInStep (List (Str×Addr)))))=(pure (eA env.cells l acc):Sem (List (Str×Addr))):=by
  intro l
  induction l with
  |nil=>intro acc _;rfl
  |cons x r ih =>
   intro acc hl;obtain⟨n,k⟩:=x;rw[MF];by_cases hk:k=.free
   ·subst hk;obtain⟨c,hc⟩:=hl (n,.free) Kk rfl;have e:cellOf env n=pure c:=by unfold cellOf;rw[hc]
    simp only[Mh,LS,e,eA,pure_bind];rw[ih _ fun y hy=>hl y (Kh _ hy),hc];rfl
   ·have hb:(k == NameKind.free)=false:=by simpa using hk
    simp only[hb,Lr,LJ,eA,hk,pure_bind];exact ih _ fun y hy=>hl y (Kh _ hy)
 unfold closureFor;simp only[bind_pure];exact all scope.names [] h
theorem i4:∀{l:List (Str×NameKind)} {acc:List (Str×Addr)},(∀ x∈l,x.2=.free->∃ c,cells.lookup x.1=some c)->(∀ x c,acc.lookup x=some c->cells.lookup x=some c) ->
  ∀ x c,(eA cells l acc).lookup x=some c->cells.lookup x=some c
 |[],_,_,h,x,c,e=>h x c e
 | (n,k)::r,acc,hl,h,x,c,e=>by
  unfold eA at e;have hr:∀ y∈r,y.2=.free->∃ c,cells.lookup y.1=some c:=fun y hy=>hl y (Kh _ hy)
  split at e
  ·rename_i hk;refine i4 hr (fun y d q=>?_) x c e;rw[Ls] at q
   split at q
   ·rename_i hy;obtain⟨c',hc'⟩:=hl (n,k) Kk hk;have hy':y=n:=by simpa using hy
    subst hy';simp only[] at hc';rw[hc'] at q ⊢;exact q
   ·exact h y d q
  ·exact i4 hr h x c e
theorem ij:∀{l:List (Str×NameKind)} {acc:List (Str×Addr)},(∃ c,acc.lookup x=some c)->∃ c,(eA cells l acc).lookup x=some c
 |[],_,h=>h
 | (n,k)::r,acc,h=>by
  unfold eA;split
  ·refine ij ?_;rw[Ls];split
   ·exact⟨_,rfl⟩
   ·exact h
  ·exact ij h
theorem gf:∀{l:List (Str×NameKind)} {acc:List (Str×Addr)},(x,NameKind.free)∈l->∃ c,(eA cells l acc).lookup x=some c
 |[],_,h=>by simp at h
 | (n,k)::r,acc,h=>by
  unfold eA;rcases Ki.mp h with e|h
  ·cases e;rw[Ke rfl];exact ij ⟨(cells.lookup x).getD 0,by rw[Ls];simp⟩
  ·split
   ·exact gf h
   ·exact gf h
noncomputable def aJ(X:Cx)(scope:Scope)(N:List Str)(C:Addr)(s:Shared)(H:Hp)(fp:List Addr):Cx where
 prog:=X.prog
 w:=X.w
 K:=X.K
 mg:=X.mg
 base:=X.base
 A:=X.A
 N:=N
 s₀:=s
 H₀:=H
 env:=compEnvC scope (eA X.env.cells scope.names []) C X.env
 outer:=X.stack
 stack:=X.stack
 ex:=fp
 calm:=X.calm
 fn:=fun _=>false
 pn:=[]
 xe:=fun _ _=>False
structure cm (osc:Scope) (ON:List Str) (scope:Scope) (own N:List Str):Prop where
 kind:scope.kind=.function
 nd:N.Nodup
 len:N.length=own.length+ON.length
 jA:∀ y∈scope.names,y.2≠.cell
 loc:∀ y∈scope.names,y.2=.local->scope.names.lookup y.1=some .local
 free:∀ y∈scope.names,y.2=.free->osc.names.lookup y.1=some .cell\/osc.names.lookup y.1=some .free
 out:∀ p∈ON.zip (N.drop own.length),p.1=p.2\/scope.names.lookup p.2=none
 own:∀ x∈N.drop own.length,scope.names.lookup x≠some .local
theorem cH(x:Str)(hn:∀ y∈scope.names,y.2≠.cell):((relabel scope env).names.lookup x=some .local->scope.names.lookup x=some .local) /\
  ((relabel scope env).names.lookup x=some .cell\/(relabel scope env).names.lookup x=some .free->scope.names.lookup x=some .free):=by
 unfold relabel;simp only;revert hn;generalize scope.names=l;intro hn
 induction l with
 |nil=>simp
 |cons y r ih =>
  obtain⟨n,k⟩:=y;have ih:=ih fun y hy=>hn y (Kh _ hy);have hk:k≠.cell:=hn (n,k) Kk;rw[KD];simp only;by_cases hc:(k == NameKind.free && env.scope.kind == ScopeKind.function && env.kindOf n == some NameKind.cell)=true
  ·rw[Ke hc,Ls,Ls];have hf:k=.free:=by
    simp only[KI] at hc
    simpa using hc.1.1
   split
   ·subst hf;simp
   ·exact ih
  ·rw[JZ hc,Ls,Ls];split
   ·constructor
    ·exact fun h=>h
    ·rintro (h|h)
     ·exact absurd (Option.some.inj h) hk
     ·exact h
   ·exact ih
noncomputable def Ey(X:Cx)(ifs:List Expr)(t:TT):Prop:=
 ∀(pins:List (Addr×Obj)) (s:Shared) (σ:St) (H:Hp) (Q:Bool->Hp->Prop),Inv X pins σ H s->t σ H Q ->
  wpAny (model X.prog X.w) X.A (forIn ifs true fun c r=>if r=true then do let ok <- isTrue c X.env (eval c X.env);pure (ForInStep.yield ok) else pure (ForInStep.yield r)) (TP X pins σ Q) X.xe s
noncomputable def B7:TT:=fun _ H Q=>Q true H
theorem zw:Ey X [] B7:=fun _ _ _ H _ I h=>wpAny_tests_nil ⟨H,I,h⟩
theorem Aj{c:Expr}{t:TT}(h:PT X c t):Ey X [c] t:=fun pins s σ H Q I hw=>wpAny_tests_one (h pins s σ H Q I hw)
theorem lW{R:Result->Shared->Prop}{target:Expr}{pos:Pos}{it acc:Value}(I:Nat->Shared->Prop)
  (turn:∀ n s,I n s->wpAny (model prog w) A (pyNext it) (fun r s₁=>match r with
   |none=>R (.ok .next) s₁
   |some v=>wpAny (model prog w) A (letOwnedTupleGo target it v) (fun _ s₁'=>wpAny (model prog w) A (assign target env v) (fun _ s₂ =>
     wpAny (model prog w) A (forIn ifs true fun c r=>if r=true then do let ok <- isTrue c env (eval c env);pure (ForInStep.yield ok) else pure (ForInStep.yield r)) (fun ok s₃ =>
      if ok=true then wpAny (model prog w) A (eval elt env) (fun x s₄ =>
       wpAny (model prog w) A (call (.builtin "list.append") [acc,x]) (fun _ s₅=>∃ m,m<n/\I m s₅) (fun _ _=>False) s₄) (fun _ _=>False) s₃
      else ∃ m,m<n/\I m s₃) (fun _ _=>False) s₂) (fun _ _=>False) s₁') (fun _ _=>False) s₁) (fun _ _=>False) s)
  (n:Nat) (h:I n s):codeAny (model prog w) A (.compLoop (.ListComp elt [⟨target,iter,ifs,0⟩] scope pos) 0 it acc env) R s:=by
 refine codeAny_loop rfl I (fun n s hI=>?_) n h;show wpAny _ A ((compTurn (.ListComp elt [⟨target,iter,ifs,0⟩] scope pos) 0 it acc env).onRaise (fun x=>do noteFrame x env;theTreesLotGoes x)) _ _ s
 refine wpAny_noted ?_;rw[compTurn_list];refine JU (MZ (JU (Lg (turn n s hI) (fun r s₁ h₁=>?_) fun _ _ h'=>h'.elim)))
 cases r with
 |none=>exact Kb h₁
 |some v =>
  refine JU (Lg h₁ (fun _ s₁' h₁'=>?_) fun _ _ h'=>h'.elim);refine JU (Lg h₁' (fun _ s₂ h₂=>JU (Lg h₂ (fun ok s₃ h₃=>?_) fun _ _ h'=>h'.elim)) fun _ _ h'=>h'.elim)
  cases ok with
  |false=>exact Kb ⟨rfl,h₃⟩
  |true =>
   exact JU (JU (Lg h₃ (fun x s₄ h₄=>JU (Lg h₄ (fun _ s₅ h₅=>Kb (Kb ⟨rfl,h₅⟩)) fun _ _ h'=>h'.elim)) fun _ _ h'=>h'.elim))
noncomputable def lE(wi:TI)(k:Nat)(g:TG)(tc:TT)(te:TE):TE:=fun σ H Q=>wi σ H fun J H1=>∀ D,H1 D=none ->
 ∃ W:Nat->Nat->List V->St->Hp->Prop,(∃ m,W 0 m [] (List.replicate k none++σ) (upd H1 D (.lst [])))/\∀ i m ys σ' H',W i m ys σ' H'->H' D=some (.lst ys) /\
  ((J.stop i H'/\Q (.ref D) H')\/(J.go i H'/\ys.length<sizeLine/\∀ x H2,J.G1 i H' x H2->g x σ' H2 fun σ3 H3=>tc σ3 H3 fun b H4 =>
   if b=true then te σ3 H4 fun v H5=>H5 D=some (.lst ys)/\∃ m',m'<m/\W (i+1) m' (ys++[v]) σ3 (upd H5 D (.lst (ys++[v])))
   else ∃ m',m'<m/\W (i+1) m' ys σ3 H4))
theorem kM{own:List Str}{pos:Pos}{wi:TI}{g:TG}(S:cm osc ON scope own N)(hosc:X.env.scope=osc)(hON:X.N=ON)(hc:X.calm=true)(hi:PI X tg iter wi)
  (hg:∀ C s H fp,PG (aJ X scope N C s H fp) tg g) (ht:∀ C s H fp,Ey (aJ X scope N C s H fp) ifs tc) (he:∀ C s H fp,PE (aJ X scope N C s H fp) elt te)
      {Q:VK} (I:Inv X pins σ H s) (h:lE wi own.length g tc te σ H Q) {RR:Value->Addr->Result->Shared->Prop}
  (fin:∀(D C:Addr) (H':Hp) (s':Shared) (m:Str->Option Value),Inv X pins σ H' s'->Q (.ref D) H'->H' C=none->X.s₀.heap.objs.size<=C->C≠X.env.locals->(∀ x c,X.env.cells.lookup x=some c->c≠C)->(∀ p∈X.pn++pins,p.1≠C) ->
   s'.heap.Ns C m->RR (.ref D) C (.ok .next) s') :
  wpAny (model X.prog X.w) X.A (eval iter X.env) (fun x s₁=>wpAny (model X.prog X.w) X.A (pyIter x) (fun it s₂=>wpAny (model X.prog X.w) X.A (newList []) (fun acc s₃ =>
   wpAny (model X.prog X.w) X.A (newFunctionEnv scope X.env.globals (eA X.env.cells scope.names []) [] X.env.qual none .none (some X.env)) (fun cenv s₄ =>
    codeAny (model X.prog X.w) X.A (.compStart (.ListComp elt [⟨tg,iter,ifs,0⟩] scope pos) 0 it acc {cenv with scope:=relabel scope X.env}) (RR acc cenv.locals) s₄) X.xe s₃) X.xe s₂) X.xe s₁) X.xe s:=by
 refine bS (hi pins s σ H _ I h) fun v s1 h1=>bS h1 fun itv s2 h2=>?_;obtain⟨it,fp,tn,J,H2,e,I2,T,st2,f2,q⟩:=h2;subst e;refine Ll (wpAny_newFunctionEnv S.jA (by intro y hy;simp at hy) (fun h₁ hns₁ hsb₁=>?_) S.kind)
 dsimp only at hns₁ hsb₁ ⊢;have I3:Inv X pins σ (upd H2 s2.heap.objs.size (.lst [])) {s2 with heap:=s2.heap.push {cls:=.type "list",data:=.seq ([]:List Value).toArray},toks:=s2.toks}:=I2.CP (t':=s2.toks) .nil (Nat.zero_le _)
 have hD2:H2 s2.heap.objs.size=none:=I2.fresh;obtain⟨W,⟨m0,w0⟩,turn⟩:=q _ hD2;generalize hs3:({s2 with heap:=s2.heap.push {cls:=.type "list",data:=.seq ([]:List Value).toArray},toks:=s2.toks}:Shared)=s3 at I3
 have eh3:s3.heap=s2.heap.push {cls:=.type "list",data:=.seq ([]:List Value).toArray}:=by rw[<- hs3]
 generalize hD:s2.heap.objs.size=D at I3 turn w0 hD2 ⊢;generalize hH3:upd H2 D (.lst [])=H3 at I3 w0;rw[<- eh3] at hns₁ hsb₁ ⊢;have hC3:H3 s3.heap.objs.size=none:=I3.fresh;have hsz3:s3.heap.objs.size=D+1:=by rw[eh3,Md,hD]
 have fp2:∀ b∈fp,b<s2.heap.objs.size:=fun b hb=>by
  obtain⟨o,e,_⟩:=T.obj _ _ st2 b hb;exact Kn e
 have f3:∀ b∈fp,kf X pins H3 b:=fun b hb=>by
  obtain⟨g0,g1⟩:=f2 b hb;refine⟨?_,g1⟩;rw[<- hH3,aj (by rw[<- hD];exact K1 (fp2 b hb))]
  exact g0
 have neC:∀ b o,s3.heap.get? b=some o->b≠s3.heap.objs.size:=fun b o e=>K1 (Kn e);have old:∀ b o,s3.heap.get? b=some o->h₁.get? b=some o:=fun b o e=>hsb₁.extBut b o (neC b o e) (JW _ e);have hk:=S.kind;have hfr:∀ y∈scope.names,y.2=.free->∃ c,X.env.cells.lookup y.1=some c:=fun y hy hf=>I3.ok.has _ (by subst hosc;exact S.free y hy hf)
 have sub:=i4 (acc:=[]) hfr (by intro x c e;simp at e)
 have JB:∀ tk,Inv (aJ X scope N s3.heap.objs.size s3 H3 fp) [] (List.replicate own.length none++σ) H3 {s3 with heap:=h₁,toks:=tk}:=fun tk=>by
  refine⟨⟨I3.ok.mod,S.kind,I3.ok.glob,I3.ok.blt,Kc _,fun x y c e1 e2=>I3.ok.inj x y c (sub x c e1) (sub y c e2),fun x hx=>?_,fun x c hf _=>(by cases hf),I3.ok.hd,I3.ok.frames,.inl rfl,fun b hb=>?_,I3.bs,Kq I3.ok.yQ I3.sz,fun b o e hb=>?_,fun b hb hf=>?_,I3.stack,I3.jd,I3.ok.tabs.un I3.base⟩,
   rfl,I3.bare,Un.kept old,⟨_,hns₁,fun i x v e1 e2 e3=>?_⟩,fun x c e=>?_,hC3,fun x c e=>I3.dY x c (sub x c e),fun p hp=>absurd (show p∈([]:List (Addr×Obj)) from hp) (by simp),I3.aO.kept old,?_⟩
  ·have q:=(cH (env:=X.env) x S.jA).2 hx;exact gf (PySem.mem_of_lookup q)
  ·have hb:b∈fp:=hb;obtain⟨_,g1,g2,g3,g4,g5⟩:=f3 b hb;refine⟨?_,fun x c e=>g4 x c (sub x c e)⟩;have:=fp2 b hb;show b≠s3.heap.objs.size;rw[hsz3,<- hD];exact K1 (M4 this)
  ·have hb:b∈fp:=hb;obtain⟨_,g1,g2,g3,g4,g5⟩:=f3 b hb;rcases g3 with g3|g3
   ·exact I3.ok.xj b o e g3
   ·exact absurd (Kz (Kn e) (Kq I3.ok.yQ g3)) (LG _)
  ·have hb:b∈fp:=hb;obtain⟨_,g1,g2,g3,g4,g5⟩:=f3 b hb;rcases Ki.mp (I3.jL b hf) with z|z
   ·exact g1 z
   ·exact g2 z
  ·have hi:own.length<=i:=by
    rcases KR i own.length with hlt|hge
    ·rw[LY (by simpa using hlt),Mt] at e2
     split at e2<;>cases e2
    ·exact hge
   rw[L1 (by simpa using hi),Kl] at e2
   have e1:N[own.length+(i-own.length)]?=some x:=by rw[Nat.add_sub_cancel' hi];exact e1
   have e1d:(N.drop own.length)[i-own.length]?=some x:=by rw[L4];exact e1
   have nl:scope.names.lookup x≠some .local:=S.own x (KW e1d);have vis:scope.names.lookup x=some .free:=by
    rcases e3 with z|z
    ·exact absurd ((cH (env:=X.env) x S.jA).1 z) nl
    ·exact (cH (env:=X.env) x S.jA).2 z
   have hlen:=I3.len;have hlt:i-own.length<X.N.length:=by
    rw[<- hlen];exact (Kf.mp e2).1
   have hxN:X.N[i-own.length]?=some x:=by
    rw[JV hlt];have mz:(X.N[i-own.length],x)∈ON.zip (N.drop own.length):=by
     rw[<- hON];refine KW (i:=i-own.length) ?_;rw[List.getElem?_zip_eq_some];exact⟨JV hlt,e1d⟩
    rcases S.out _ mz with z|z
    ·exact K4 some z
    ·exact absurd z (by rw[vis];simp)
   have hko:X.env.scope.names.lookup x=some .cell\/X.env.scope.names.lookup x=some .free:=by subst hosc;exact S.free _ (PySem.mem_of_lookup vis) rfl
   obtain⟨m,hn,hl⟩:=I3.loc;have hv:D4 X.env.scope x:=by
    rcases hko with z|z
    ·exact .inr (.inl z)
    ·exact .inr (.inr z)
   obtain⟨u,ru,lk⟩:=hl _ x v hxN e2 hv;refine⟨u,ru,.inr ⟨?_,?_⟩⟩
   ·rcases e3 with z|z
    ·exact absurd ((cH (env:=X.env) x S.jA).1 z) nl
    ·exact z
   ·rcases lk with ⟨k,_⟩|⟨_,c,ec,hcell⟩
    ·exfalso
     have k':X.env.scope.names.lookup x=some .local:=k;rcases hko with z|z
     ·rw[k'] at z;cases z
     ·rw[k'] at z;cases z
    ·obtain⟨c',ec'⟩:=gf (cells:=X.env.cells) (acc:=[]) (PySem.mem_of_lookup vis);have:=sub x c' ec';rw[ec] at this;cases this;obtain⟨o,ho,hd⟩:=hcell;exact⟨c,ec',o,old c o ho,hd⟩
  ·obtain⟨v,o,ho,hd⟩:=I3.cell x c (sub x c e);exact⟨v,o,old c o ho,hd⟩
  ·show (List.replicate own.length none++σ).length=N.length;rw[S.len,JX,Kl,I3.len,hON]
 have stat:∀{H':Hp},(∀ b∈fp,H' b=none)->∀ b∈fp,kf (aJ X scope N s3.heap.objs.size s3 H3 fp) [] H' b:=fun {H'} hn b hb=>by
  obtain⟨_,g1,g2,g3,g4,g5⟩:=f3 b hb;refine⟨hn b hb,?_,fun hf=>?_,.inl hb,fun x c e=>g4 x c (sub x c e),fun p hp=>absurd (show p∈([]:List (Addr×Obj)) from hp) (by simp)⟩
  ·have:=fp2 b hb;show b≠s3.heap.objs.size;rw[hsz3,<- hD];exact K1 (M4 this)
  ·rcases Ki.mp (I3.jL b hf) with z|z
   ·exact g1 z
   ·exact g2 z
 have st4:tn 0 h₁:=T.keep _ _ _ st2 fun b hb o e=>old b o (by rw[eh3];exact JW _ e)
 have loop:∀ s4:Shared,s4={s3 with heap:=h₁,toks:=s2.toks+([]:List (Str×Value)).length} ->
   codeAny (model X.prog X.w) X.A (.compLoop (.ListComp elt [⟨tg,iter,ifs,0⟩] scope pos) 0 (.ref it) (.ref D) (aJ X scope N s3.heap.objs.size s3 H3 fp).env) (RR (.ref D) s3.heap.objs.size) s4:=by
  rintro s4 rfl;refine lW (fun n s'=>∃ i ys σ' H',Inv (aJ X scope N s3.heap.objs.size s3 H3 fp) [] σ' H' s'/\tn i s'.heap/\(∀ b∈fp,H' b=none)/\W i n ys σ' H') ?_ m0 ⟨0,[],_,H3,JB _,st4,fun b hb=>(f3 b hb).1,w0⟩;rintro n s5 ⟨i,ys,σ5,H5,I5,st5,fr5,w5⟩;obtain⟨hD5,ways⟩:=turn i n ys σ5 H5 w5;rcases ways with ⟨stop,qn⟩|⟨go,hys,step⟩
  ·refine bS (T.done (aJ X scope N s3.heap.objs.size s3 H3 fp) rfl rfl rfl hc i [] s5 σ5 H5 _ I5 (stat fr5) st5 stop) fun r s6 ⟨hr,I6⟩=>?_;subst hr;obtain⟨m,hn,_⟩:=I6.loc;refine fin D _ H5 s6 m ?_ qn I6.free (Kq I3.sz (Kc _)) ?_ (fun x c e z=>?_) (fun p hp z=>?_) hn
   ·refine I3.Ba (ch:=fp) I6.os I6.base I6.aO I6.bare fun b hb=>?_;obtain⟨_,g1,g2,g3,g4,g5⟩:=f3 b hb;exact⟨g3,g1,g4,g5⟩
   ·exact Mf I3.lt
   ·obtain⟨v,o,ho,_⟩:=I3.cell x c e;exact absurd (Kn ho) (by rw[z];exact LG _)
   ·exact absurd (Kn (I3.pin p hp).1) (by rw[z];exact LG _)
  ·refine bS (T.item (aJ X scope N s3.heap.objs.size s3 H3 fp) rfl rfl rfl hc i [] s5 σ5 H5 _ I5 (stat fr5) st5 go) fun r s6 ⟨u,hr,h6⟩=>?_;subst hr;refine bS h6 fun _ s7 ⟨x,H7,I7,r7,y7,st7,fr7⟩=>?_;have I7':=I7.pinned (stat fr7) (T.obj _ _ st7);have back:∀{σ8:St} {H8:Hp} {s8:Shared},Inv (aJ X scope N s3.heap.objs.size s3 H3 fp) ([]++jw fp s7.heap) σ8 H8 s8->tn (i+1) s8.heap/\∀ b∈fp,H8 b=none:=fun {σ8 H8 s8} I8=>by
    refine⟨T.keep _ _ _ st7 fun b hb o e=>(I8.pin (b,o) (K2 _ (K2 _ (fk hb e)))).1,fun b hb=>?_⟩;obtain⟨o,e,d⟩:=T.obj _ _ st7 b hb;exact (I8.pin (b,o) (K2 _ (K2 _ (fk hb e)))).2.1
   refine bS (hg _ _ _ _ _ s7 σ5 H7 x u _ I7' r7 (step x H7 y7)) fun _ s8 ⟨σ8,H8,I8,q8⟩=>?_;refine bS (ht _ _ _ _ _ s8 σ8 H8 _ I8 q8) fun ok s9 ⟨H9,I9,q9⟩=>?_
   cases ok with
   |false =>
    rw[JZ (by simp)] at q9 ⊢
    obtain⟨m',hm,w9⟩:=q9;exact⟨m',hm,i+1,ys,σ8,H9,I9.fN,(back I9).1,(back I9).2,w9⟩
   |true =>
    rw[Ke rfl] at q9 ⊢;refine bS (he _ _ _ _ _ s9 σ8 H9 _ I9 q9) fun y s10 ⟨v10,H10,I10,r10,hD10,m',hm,w10⟩=>?_;refine bS (bT _ s10 σ8 H10 (.ref D) [v10] (.ref D) [y] (fun r H11=>r=.aC/\H11=upd H10 D (.lst (ys++[v10]))) I10 rfl (.cons r10 .nil) ⟨D,ys,v10,rfl,rfl,hD10,hys,rfl,rfl⟩) fun _ s11 ⟨_,H11,I11,_,_,e11⟩=>?_;subst e11;exact⟨m',hm,i+1,_,σ8,_,I11.fN,(back I11).1,(back I11).2,w10⟩
 have start:=codeAny_compStart_list (R:=RR (.ref D) s3.heap.objs.size) (loop _ rfl) (T.self X.A 0 _ _ _ st4 (loop _ rfl));subst hs3;exact start
theorem zT{own:List Str}{pos:Pos}{wi:TI}{g:TG}(S:cm osc ON scope own N)(hosc:X.env.scope=osc)(hON:X.N=ON)(hc:X.calm=true)(hi:PI X tg iter wi)
  (hg:∀ C s H fp,PG (aJ X scope N C s H fp) tg g) (ht:∀ C s H fp,Ey (aJ X scope N C s H fp) ifs tc) (he:∀ C s H fp,PE (aJ X scope N C s H fp) elt te)
  (hs:autoParam (∀ x,foldedSetIterable iter X.env x=pure x) ℜ3) :
  PE X (.ListComp elt [⟨tg,iter,ifs,0⟩] scope pos) (lE wi own.length g tc te):=by
 intro pins s σ H Q I h;have hfr:∀ y∈scope.names,y.2=.free->∃ c,X.env.cells.lookup y.1=some c:=fun y hy hf=>I.ok.has _ (by subst hosc;exact S.free y hy hf)
 rw[eval_ListComp];refine Od (use:=none) rfl hs (gu hfr) S.kind S.loc ?_;refine kM S hosc hON hc hi hg ht he I h (RR:=fun acc C=>compPost (model X.prog X.w) X.A X.xe none (EP X pins σ Q) acc C) ?_;intro D C H' s' m I' q h1 h2 h3 h4 h5 hn;exact⟨m,hn,fun h'' hs''=>⟨.ref D,H',I'.turned (t':=s'.toks) (fun b o hb e=>(hs''.2 b hb).trans e) h1 h3 (.inr h2) h4 h5,rfl,q⟩⟩
theorem qp{own:List Str}{pos spos py:Pos}{wi:TI}{g:TG}{y:Str}(hN:X.N.Nodup)(hj:X.N[j]?=some y)(hx:Loc X.env.scope y)(S:cm osc ON scope own N)(hosc:X.env.scope=osc)(hON:X.N=ON)(hc:X.calm=true)(hi:PI X tg iter wi)
  (hg:∀ C s H fp,PG (aJ X scope N C s H fp) tg g) (ht:∀ C s H fp,Ey (aJ X scope N C s H fp) ifs tc) (he:∀ C s H fp,PE (aJ X scope N C s H fp) elt te)
  (hsw:autoParam (swapsWith (.ListComp elt [⟨tg,iter,ifs,0⟩] scope pos) (some (.Name y py)) spos.line X.env=pure true) ℜ0)
  (hf:autoParam (X.fn y=true\/X.env.scope.names.lookup y=some .local) ℜ2)
  (hs:autoParam (∀ x,foldedSetIterable iter X.env x=pure x) ℜ3) :
  PS X (.Assign [.Name y py] (.ListComp elt [⟨tg,iter,ifs,0⟩] scope pos) spos) (qo (lE wi own.length g tc te) (d5 j)):=by
 intro pins s σ H Dn I h;have hfr:∀ y∈scope.names,y.2=.free->∃ c,X.env.cells.lookup y.1=some c:=fun y hy hf=>I.ok.has _ (by subst hosc;exact S.free y hy hf)
 rw[exec_Assign_Name_used _ _ _ _ hsw];refine JU (MZ (JU ?_));show wpAny _ X.A (do let _ <- comprehension (.ListComp elt [⟨tg,iter,ifs,0⟩] scope pos) scope X.env _ (newList []) false (eval iter X.env) (some (assign (.Name y py) X.env))) _ _ s
 refine JU (Lg (Od (use:=some (assign (.Name y py) X.env)) (Q:=fun _ s'=>SP X pins Dn .next s') rfl hs (gu hfr) S.kind S.loc ?_) (fun _ s' hq=>Kb (Kb hq)) fun _ _ e=>e);refine kM S hosc hON hc hi hg ht he I h (RR:=fun acc C=>compPost (model X.prog X.w) X.A X.xe (some (assign (.Name y py) X.env)) (fun _ s'=>SP X pins Dn .next s') acc C) ?_;intro D C H' s' m I' q h1 h2 h3 h4 h5 hn;show wpAny _ X.A (assign (.Name y py) X.env (.ref D)) _ _ _;refine wpAny_assign_Name (lp I' hN hj hx (v:=.ref D) rfl (fun s'' I'' hsb=>?_) hf);obtain⟨a,sb,ha⟩:=hsb;have nC:C≠a:=by
  rcases ha with ha|ha
  ·rw[ha];exact h3
  ·exact (h4 y a ha).symm
 exact⟨m,hn.sameBut sb nC,fun h'' hs''=>⟨_,H',I''.turned (t':=s''.toks) (fun b o hb e=>(hs''.2 b hb).trans e) h1 h3 (.inr h2) h4 h5,q⟩⟩
noncomputable def cS(e:Expr):Bool:=match e with
 |.Starred ..=>false
 |_=>true
theorem dq(h:cS e=true):starEach (e::es) env=(false,eval e env)::starEach es env:=by
 cases e<;>first|rfl|cases h
theorem plain_any{pos:Pos}:∀{es:List Expr},es.all cS=true->(backTo pos (starEach es env)).any (·.1)=false
 |[],_=>rfl
 |e::es,h=>by
  rw[Lf,KI] at h;rw[dq h.1];show (false || (backTo pos (starEach es env)).any (·.1))=false;rw[plain_any h.2];rfl
theorem plain_all{pos:Pos}:∀{es:List Expr},es.all cS=true->(backTo pos (starEach es env)).all (fun x=>!x.1)=true
 |[],_=>rfl
 |e::es,h=>by
  rw[Lf,KI] at h;rw[dq h.1];show (true && (backTo pos (starEach es env)).all (fun x=>!x.1))=true;rw[plain_all h.2];rfl
theorem Du(h:(e::es).all cS=true)(hl:(e::es).length<30):
  ((backTo cpos (starEach (e::es) env)).all (fun x=>!x.1) && (backToKw cpos (keywordEach [] env)).all (fun x=>x.1.isSome) && decide ((e::es).length+([]:List Keyword).length+(if ([]:List Keyword).isEmpty then 0 else 1)<30))=true:=by
 rw[plain_all h];have e2:(backToKw cpos (keywordEach [] env)).all (fun x=>x.1.isSome)=true:=rfl;rw[e2];have e3:(e::es).length+([]:List Keyword).length+(if ([]:List Keyword).isEmpty then 0 else 1)<30:=hl
 rw[KY e3];rfl
section
variable {X:Cx} {e:Expr} {es:List Expr} {te:TE} {t:TA}
theorem HL(ha:PE X e te)(hr:PA X es t)(h:autoParam (cS e=true) ℜ0):PA X (e::es) (lD te t):=qV ha hr (dq h)
theorem EJ{id:String}{p pos:Pos}(hc:bf X (.builtin id) r)(hg:Gl X x)(hm:X.mg x=none)(hv:bootBuiltins x=some (.builtin id))(ha:PA X (e::es) t)(h1:autoParam (cS e=true) ℜ0)(h2:autoParam (es.all cS=true) ℜ0)(hn:autoParam (x≠"__name__") ℜ1)(hdb:autoParam ((x ==("__debug__":Str))=false) ℜ1):
  PE X (.Call (.Name x p) (e::es) [] pos) (Bg r t):=vK hc hg hm hv ha hn hdb (dq h1) (plain_any h2)
theorem FD{T:String}{p pos:Pos}(hc:bf X (.type T) r)(hg:Gl X x)(hm:X.mg x=none)(hv:bootBuiltins x=some (.type T))(ha:PA X (e::es) t)(h1:autoParam (cS e=true) ℜ0)(h2:autoParam (es.all cS=true) ℜ0)(hn:autoParam (x≠"__name__") ℜ1)(hdb:autoParam ((x ==("__debug__":Str))=false) ℜ1):
  PE X (.Call (.Name x p) (e::es) [] pos) (Bg r t):=u7 hc hg hm hv ha hn hdb (dq h1) (plain_any h2)
theorem Df{o:Expr}{to:TE}{T id:String}{r:V->List V->Hp->VK->Prop}(pa:PlainAttrs T)(slot:Slot T name id)(hty:typeOf (.builtin id)=pure (.type "method_descriptor"))(hm:rJ X id r)(ho:PE X o to)(ha:PA X (e::es) t)
  (hbase:attributeBase o name X.env (eval o X.env)=eval o X.env) (hline:(apos.endLine == cpos.line)=true) (h:(e::es).all cS=true) (hl:(e::es).length<30):PE X (.Call (.Attribute o name apos) (e::es) [] cpos) (IQ X.K T r to t):=by
 have h':=h;rw[Lf,KI] at h';exact FY pa slot hty hm ho ha hbase (Du h hl) hline (dq h'.1) (plain_any h'.2)
theorem pW{a:Expr}{p pos:Pos}(hg:Gl X "range")(hm:X.mg "range"=none)(ha:PA X [a] ta)(h:autoParam (cS a=true) ℜ0):PI X tg (.Call (.Name "range" p) [a] [] pos) (wq ta):=u3 hg hm ha (dq h)
end
structure HasFn (K:Pm) (mg:Str->Option Value) (x:Str) (st:Stmt) (ps:List Str):Prop where
 ex:∃(f:Addr) (fd:FuncData),yB K x x st f fd/\Binds K fd ps []/\mg x=some (.ref f)
structure ae (P:Program) (w:World) (K:Pm) (mg:Str->Option Value) (base:Heap) (CX:kL) (k:Nat) (x:Str) (ps:List Str) (sp:Sp):Prop where
 ex:∃(f:Addr) (fd:FuncData),mg x=some (.ref f)/\PySem.W.keepIn K (.ref f)=true/\Binds K fd ps []/\d_ P w K mg base CX k f fd ps sp
section
variable {P:Program} {w:World} {K:Pm} {mg:Str->Option Value} {base:Heap}
theorem HasFn.ok{ps:List Str}(F:HasFn K mg x st ps)(S:ao N ps (aa st))(len:∀ vs H Q E,sp vs H Q E->vs.length=ps.length)
  (hbody:∀(f:Addr) (cdv:Value) (A:Around) (outer:List Env) (s:Shared) (H:Hp) (vs:List V) (Q:VK) (E:XK),b7 k (A.deeper (envOfC x (aa st) s.heap.objs.size f cdv))->sp vs H Q E ->
   ∃ t,pG (gK aU P w K mg base N x (aa st) f cdv A outer s H E).zJ (bA st) t/\t {nx:=fun _ H'=>Q .aC H',rt:=Q} (start N vs) H):ae P w K mg base aU (k+1) x ps sp:=by
 obtain⟨f,fd,F1,b,m⟩:=F.ex;exact⟨f,fd,m,F1.kp,b,F1.ok S len fun cdv A outer s H vs Q E hr h=>hbody f cdv A outer s H vs Q E hr h⟩
theorem ae.mono{ps:List Str}(F:ae P w K mg base CX j x ps sp)(h:j<=k):ae P w K mg base CX k x ps sp:=by
 obtain⟨f,fd,m,kp,b,G⟩:=F.ex;exact⟨f,fd,m,kp,b,G.mono h⟩
end
section
variable {X:Cx} {CX:kL} {k:Nat} {ps:List Str} {sp:Sp} {E:XK} {x:Str} {p pos:Pos} {e:Expr} {es:List Expr} {t:TA}
theorem E3(F:ae X.prog X.w X.K X.mg X.base CX k x ps sp)(hr:b7 k X.A)(hg:Gl X x)(hx:Passes CX X E)(ha:PA X (e::es) t)(h1:autoParam (cS e=true) ℜ0)(h2:autoParam (es.all cS=true) ℜ0)(hdb:autoParam ((x ==("__debug__":Str))=false) ℜ1):
  PE X (.Call (.Name x p) (e::es) [] pos) (jD sp [] E t):=by
 obtain⟨f,fd,m,kp,b,G⟩:=F.ex;exact yK G hr hg m kp b .nil hx ha hdb (dq h1) (plain_any h2)
theorem Cs(F:ae X.prog X.w X.K X.mg X.base CX k x ps sp)(hr:b7 k X.A)(hg:Gl X x)(hx:Passes CX X E)(hdb:autoParam ((x ==("__debug__":Str))=false) ℜ1):
  PE X (.Call (.Name x p) [] [] pos) (jD sp [] E oq):=by
 obtain⟨f,fd,m,kp,b,G⟩:=F.ex;exact vT G hr hg m kp b .nil hx hdb
end
noncomputable def BW:Expr->Option V
 |.Constant (.int i) _ _=>some (.int i)
 |.Constant (.str x) _ _=>some (.str x)
 |.Constant (.bool b) _ _=>some (.bl b)
 |.Constant .none _ _=>some .aC
 |_=>none
noncomputable def kK:List Expr->Option (List V)
 |[]=>some []
 |e::es=>match BW e,kK es with
  |some v,some vs=>some (v::vs)
  |_,_=>none
noncomputable def tK(vs:List V):TA:=fun _ H Q=>Q vs H
theorem Ce{v:V}(h:BW e=some v):PE X e (tC v)/\∀ es,starEach (e::es) X.env=(false,eval e X.env)::starEach es X.env:=by
 unfold BW at h
 split at h
 ·cases h;exact⟨yj,fun _=>rfl⟩
 ·cases h;exact⟨vC,fun _=>rfl⟩
 ·cases h;exact⟨AJ,fun _=>rfl⟩
 ·cases h;exact⟨xa,fun _=>rfl⟩
 ·cases h
theorem lj{X:Cx}:∀{es:List Expr} {vs:List V},kK es=some vs->PA X es (tK vs)
 |[],vs,h=>by cases h;exact y1
 |e::es,vs,h=>by
  unfold kK at h
  split at h
  ·rename_i v ws e1 e2;cases h;have p:=Ce (X:=X) e1;exact qV (te:=tC v) (t:=tK ws) p.1 (lj e2) (p.2 es)
  ·cases h
noncomputable def sq(H:Hp)(p:Addr):Option (Bool×List V):=match H p with
 |some (.lst xs)=>some (true,xs)
 |some (.tup xs)=>some (false,xs)
 |some (.ia _ (.lst xs))=>some (true,xs)
 |some (.ia _ (.tup xs))=>some (false,xs)
 |_=>none
section
variable {X:Cx}
noncomputable def kn(K:Pm):R2:=fun x y H Q=>match x,y with
 |.int i,.int j=>Q (.int (i+j)) H
 |.str i,.str j=>i.length+j.length<=sizeLine/\Q (.str (i++j)) H
 |.ref a,.ref b=>match H a,H b with
  |some (.lst xs),some (.lst ys)=>xs.length+ys.length<=sizeLine/\∀ p,H p=none->Q (.ref p) (upd H p (.lst (xs++ys)))
  |some (.tup xs),some (.tup ys)=>xs≠[]/\ys≠[]/\xs.length+ys.length<=sizeLine/\∀ p,H p=none->Q (.ref p) (upd H p (.tup (xs++ys)))
  |_,_=>False
 |_,_=>False
noncomputable def Ci:R2:=fun x y H Q=>match x,y with
 |.int i,.int j=>nX i j/\Q (.int (i*j)) H
 |.ref a,.int j=>Fu (.ref a) (.int j) H Q
 |_,_=>False
theorem zS:cK X (binaryOp .Mult) Ci:=by
 intro pins s σ H x y v u Q I rx ry h
 cases x with
 |int i=>cases y with
  |int j=>exact DS pins s σ H _ _ v u Q I rx ry ⟨i,j,rfl,rfl,h.1,h.2⟩
  |_=>exact (show False from h).elim
 |ref a=>cases y with
  |int j=>exact BZ pins s σ H _ _ v u Q I rx ry h
  |_=>exact (show False from h).elim
 |_=>exact (show False from h).elim
noncomputable def J9(K:Pm):R2:=fun x y H Q=>match x,y with
 |.str z,.int i=>z.length<=sizeLine/\(match bw z.cps.toList i with|some c=>Q (.str ⟨#[c]⟩) H|none=>False)
 |.ref p,.int i=>match sq H p with
  |some (_,xs)=>(match bw xs i with|some v=>Q v H|none=>False)
  |none=>∃ xs v,cc K H p xs/\bw xs i=some v/\Q v H
 |_,_=>False
noncomputable def HV(K:Pm):V->Option Int->Option Int->Hp->VK->Prop:=fun x lo hi H Q=>match x with
 |.ref p=>match sq H p with
  |some (true,xs)=>∀ q,H q=none->Q (.ref q) (upd H q (.lst (lS xs lo hi)))
  |some (false,xs)=>z_ K (.ref p) lo hi H Q
  |none=>z_ K (.ref p) lo hi H Q
 |_=>False
noncomputable def xw:V->V->V->Hp->(Hp->Prop)->Prop:=fun o i v H Q=>match o,i with
 |.ref p,.int k=>match H p with
  |some (.lst xs)=>(match ie xs.length k with|some j=>Q (upd H p (.lst (xs.set j v)))|none=>False)
  |_=>False
 |_,_=>False
theorem uset:Ef X xw:=by
 intro pins s σ H o i v ov iv u Q I ro ri rv h
 cases o with
 |ref p=>cases i with
  |int k =>
   unfold xw at h;simp only at h
   split at h
   ·rename_i xs e
    split at h
    ·rename_i j e';exact set_list pins s σ H _ _ v ov iv u Q I ro ri rv ⟨p,xs,k,j,rfl,rfl,e,e',h⟩
    ·exact h.elim
   ·exact h.elim
  |_=>exact (show False from h).elim
 |_=>exact (show False from h).elim
noncomputable def E7:List V->Hp->VK->Prop:=fun xs H Q=>match xs with
 |[.int i,.int j]=>Q (.int (if j<i then j else i)) H
 |_=>False
theorem tI(hc:X.calm=true):bf X (.builtin "min") E7:=by
 intro pins s σ H xs us Q I r h;rcases xs with _|⟨x,_|⟨y,_|⟨z,xs⟩⟩⟩
 ·exact (show False from h).elim
 ·cases x<;>exact (show False from h).elim
 ·cases x with
  |int i=>cases y with
   |int j=>exact tq hc pins s σ H _ us Q I r ⟨i,j,rfl,h⟩
   |_=>exact (show False from h).elim
  |_=>exact (show False from h).elim
 ·cases x with
  |int i=>cases y<;>exact (show False from h).elim
  |_=>exact (show False from h).elim
noncomputable def EB:List V->Hp->VK->Prop:=fun xs H Q=>match xs with
 |[.int i,.int j]=>Q (.int (if j > i then j else i)) H
 |_=>False
theorem i7(hc:X.calm=true):bf X (.builtin "max") EB:=by
 intro pins s σ H xs us Q I r h;rcases xs with _|⟨x,_|⟨y,_|⟨z,zs⟩⟩⟩
 ·exact (show False from h).elim
 ·cases x<;>exact (show False from h).elim
 ·cases x with
  |int i=>cases y with
   |int j=>exact uU hc pins s σ H _ us Q I r ⟨i,j,rfl,h⟩
   |_=>exact (show False from h).elim
  |_=>exact (show False from h).elim
 ·cases x<;>first|exact (show False from h).elim | (cases y<;>exact (show False from h).elim)
noncomputable def iz(K:Pm):List V->Hp->VK->Prop:=fun xs H Q=>match xs with
 |[.ref p]=>match sq H p with
  |some (true,ys)=>∀ l,H l=none->Q (.ref l) (upd H l (.tup ys))
  |some (false,_)=>Q (.ref p) H
  |none=>∃ ys,cc K H p ys/\Q (.ref p) H
 |_=>False
noncomputable def EZ:List V->Hp->VK->Prop:=fun xs H Q=>match xs with
 |[.int i]=>Q (.int i) H
 |[.bl k]=>Q (.int (if k=true then 1 else 0)) H
 |_=>False
theorem gc:bf X (.type "int") EZ:=by
 intro pins s σ H xs us Q I r h;rcases xs with _|⟨x,_|⟨y,ys⟩⟩
 ·exact (show False from h).elim
 ·cases x with
  |int i=>exact kR pins s σ H _ us Q I r (.inl ⟨i,rfl,h⟩)
  |bl k=>exact kR pins s σ H _ us Q I r (.inr ⟨k,rfl,h⟩)
  |_=>exact (show False from h).elim
 ·cases x<;>exact (show False from h).elim
noncomputable def Ff:List V->Hp->VK->Prop:=fun xs H Q=>match xs with
 |[.int i]=>i.natAbs.log2<1920/\Q (.str (toString i)) H
 |[.str z]=>Q (.str z) H
 |_=>False
theorem tH:bf X (.type "str") Ff:=by
 intro pins s σ H xs us Q I r h
 match xs,h with
 |[.int i],h=>exact lY pins s σ H _ us Q I r ⟨i,rfl,h.1,h.2⟩
 |[.str z],h =>
  obtain⟨u,rfl,t,rfl⟩:=vals1 r;exact PySem.P.str_of_str ⟨.str z,H,I,⟨_,rfl⟩,h⟩
noncomputable def BG(H:Hp):V->Option String
 |.aC=>some "NoneType"
 |.bl _=>some "bool"
 |.int _=>some "int"
 |.str _=>some "str"
 |.ref a=>match H a with
  |some (.lst _)=>some "list"
  |some (.tup _)=>some "tuple"
  |some (.dK _)=>some "dict"
  |_=>none
 |_=>none
theorem DB{x:V}{t:String}(h:BG H x=some t):gO K H x (.type t):=by
 unfold BG at h
 split at h
 ·cases h;exact .aC
 ·cases h;exact .bl _
 ·cases h;exact .int _
 ·cases h;exact .str _
 ·split at h
  ·rename_i e;cases h;exact .lst e
  ·rename_i e;cases h;exact .tup e
  ·rename_i e;cases h;exact .dK e
  ·cases h
 ·cases h
noncomputable def hZ(t c:String):Bool:=decide (t=c) || (t == "bool" && c == "int")
theorem xA{t c:String}(ht:t∈["NoneType","bool","int","str","list","tuple","dict"])(hc:c∈["bool","int","str","list","tuple","dict"]):PySem.W.kitOne K (.type t) (.type c)=some (hZ t c):=by
 simp only[Ki,Ld,Mi] at ht hc;rcases ht with rfl|rfl|rfl|rfl|rfl|rfl|rfl<;>rcases hc with rfl|rfl|rfl|rfl|rfl|rfl<;>rfl
theorem Di{x:V}{t:String}(h:BG H x=some t):t∈["NoneType","bool","int","str","list","tuple","dict"]:=by
 unfold BG at h
 split at h
 ·cases h;decide
 ·cases h;decide
 ·cases h;decide
 ·cases h;decide
 ·split at h
  ·cases h;decide
  ·cases h;decide
  ·cases h;decide
  ·cases h
 ·cases h
noncomputable def pf(K:Pm):List V->Hp->VK->Prop:=fun xs H Q=>match xs with
 |[x,.ty T]=>T∈["bool","int","str","list","tuple","dict"]/\match BG H x with
  |some t=>Q (.bl (hZ t T)) H
  |none=>∃ t b,gO K H x t/\PySem.W.kitOne K t (.type T)=some b/\Q (.bl b) H
 |_=>False
theorem uv:bf X (.builtin "isinstance") (pf X.K):=by
 intro pins s σ H xs us Q I r h;rcases xs with _|⟨x,_|⟨y,_|⟨z,xs⟩⟩⟩
 ·exact (show False from h).elim
 ·exact (show False from h).elim
 rotate_left
 ·cases y<;>exact (show False from h).elim
 cases y with
 |ty T =>
  obtain⟨u,w',rfl,r1,r2⟩:=vals2 r;cases r2;obtain⟨hT,h⟩:=h
  split at h
  ·rename_i t e;exact lr I r1 (DB e) (xA (Di e) hT) fun tk=>⟨.bl _,H,I.tok _,rfl,h⟩
  ·obtain⟨t,b,ty,k,q⟩:=h;exact lr I r1 ty k fun tk=>⟨.bl b,H,I.tok _,rfl,q⟩
 |_=>exact (show False from h).elim
theorem DZ{T:String}{pos:Pos}(hg:Gl X x)(hm:X.mg x=none)(hv:bootBuiltins x=some (.type T))(hn:autoParam (x≠"__name__") ℜ1)(hd:autoParam ((x ==("__debug__":Str))=false) ℜ1):PE X (.Name x pos) (tC (.ty T)):=A5 hg hm hv rfl hn hd
noncomputable def rJoin(K:Pm):V->List V->Hp->VK->Prop:=fun x vs H Q=>∃ z l ys,x=.str z/\vs=[.ref l]/\cx K H l (ys.map V.str)/\(ys.map (·.length)).sum+ys.length*z.length<=16777216/\Q (.str (Str.join z ys)) H
theorem j0:∀{ys:List Str} {us:List Value},Vals (ys.map V.str) us->StrsAre us ys
 |[],_,.nil=>.nil
 |y::ys,_,.cons r t=>by
  obtain⟨k,rfl⟩:=r;exact .cons y k (j0 t)
theorem zD:rJ X "str.join" (rJoin X.K):=by
 intro pins s σ H x xs v us Q I rx rs h;obtain⟨z,l,ys,rfl,rfl,hq,hz,q⟩:=h;obtain⟨t,rfl⟩:=rx;obtain⟨u,rfl,ru⟩:=vals1 rs;cases ru;obtain⟨its,rv,pl,_⟩:=I.list hq;refine join_list pl.isList (by simpa using j0 rv) hz fun t' k=>?_
 have e:Txt.join z ys=Str.join z ys:=StrLaws.glued_eq_join z ys;rw[e];exact⟨.str _,H,I.tok _,⟨_,rfl⟩,q⟩
end
section
variable {X:Cx} {e:Expr} {te:TE}
theorem rS(p:Nat->Bool):∀(l:List Nat),l.drop (l.takeWhile p).length=l.dropWhile p
 |[]=>rfl
 |x::l=>by
  by_cases h:p x
  ·simp[List.takeWhile_cons,N1,h,rS p l]
  ·simp[List.takeWhile_cons,N1,h]
end
open AutoSeq1 (wpAny_loadPart')
section
variable {prog:Program} {w:World} {A:Around} {E:Value->Shared->Prop} {s:Shared}
theorem iW{x:Value}(hit:s.heap.IsTupleIter it l i)(hl:s.heap.IsTuple l items)(hx:items[i]?=some x)
  (hQ:∀ h',h'.IsTupleIter it l (i+1)->Heap.SameBut it s.heap h'->Q x {s with heap:=h'}):wpAny (model prog w) A (Builtin.SmallTypes.nextOf (.ref it)) Q E s:=by
 obtain⟨o,ho,hc,hd⟩:=id hit;obtain⟨ol,hol,_,nl,hdl⟩:=hl;unfold Builtin.SmallTypes.nextOf;refine JU (Le (name:=Str.ofString "__next__") hit.typeIs LV (Lh LV hit.typeIs N9 ?_ (N5 _)));show wpAny _ _ (field (.ref it) 0 >>= _) _ _ s;refine JU (Li ho hd (x:=.ref l) rfl ?_);show wpAny _ _ (if (Value.ref l == Value.none)=true then _ else _) _ _ s
 rw[JZ (show ¬ ((Value.ref l == Value.none)=true) from Ka)];show wpAny _ _ (field (.ref it) 1 >>= _) _ _ s;refine JU (Li ho hd (x:=.int i 0) rfl ?_);show wpAny _ _ (seqItems? (.ref l) >>= _) _ _ s;refine JU (LK hol hdl ?_);simp only[K6,hx];refine JU (MN ho hd (by simp) (Kb ⟨x,rfl,Kb (hQ _ ?_ (Lz ..))⟩))
 exact⟨_,M6 _ ho (Nf (My hd _)),(Obj.cls_mapFields ..).trans hc,by rw[My hd];simp[rawInt]⟩
theorem j5(hh:A.handled=none)(hit:s.heap.IsTupleIter it l i)(hl:s.heap.IsTuple l items)(hx:items[i]?=none)
  (hE:∀ h' e,Heap.ExtBut it s.heap h'->(∃ o,h'.get? e=some o/\o.cls=.type "StopIteration")->E (.ref e) {s with heap:=h'}):wpAny (model prog w) A (Builtin.SmallTypes.nextOf (.ref it)) Q E s:=by
 obtain⟨o,ho,hc,hd⟩:=id hit;obtain⟨ol,hol,_,nl,hdl⟩:=hl;unfold Builtin.SmallTypes.nextOf;refine JU (Le (name:=Str.ofString "__next__") hit.typeIs LV (Lh LV hit.typeIs N9 ?_ (N5 _)));show wpAny _ _ (field (.ref it) 0 >>= _) _ _ s;refine JU (Li ho hd (x:=.ref l) rfl ?_);show wpAny _ _ (if (Value.ref l == Value.none)=true then _ else _) _ _ s
 rw[JZ (show ¬ ((Value.ref l == Value.none)=true) from Ka)];show wpAny _ _ (field (.ref it) 1 >>= _) _ _ s;refine JU (Li ho hd (x:=.int i 0) rfl ?_);show wpAny _ _ (seqItems? (.ref l) >>= _) _ _ s;refine JU (LK hol hdl ?_);simp only[K6,hx];refine JU (NU (JU (MN ho hd (by simp) ?_)))
 show wpAny _ _ (newExc (.type "StopIteration") [] >>= _) _ _ _;refine JU ?_;simp only[newExc,newTuple];refine JU (Ll ?_ (by size_fits))
 refine JU (m:=firstArgMember _ _) (wpAny_of_eq (a:=Value.none) (by first|rfl | (simp only[firstArgMember];rfl)) ?_)
 refine Ll ?_ (by size_fits)
 simp only[raiseNew];refine JU (wpAny_handled ?_)
 first|rw[show A.in1.handled=none from hh]|rw[hh]
 refine JU (Kb (wpAny_throw ?_));exact hE _ _ (((Lz ..).extBut.push _).push _) ⟨_,Km _ rfl,rfl⟩
theorem iu(hh:A.handled=none)(it l:Addr)(hne:l≠it)(items:Array Value):
  Draws prog w A it [it,l] items.size (fun i v=>items[i]?=some v) (fun i h=>h.IsTupleIter it l i/\h.IsTuple l items) where
 live:=fun _ _ st=>let ⟨o,ho,_⟩:=st.1;⟨o,ho⟩
 frame:=fun _ _ _ st hk=>⟨let ⟨o,e,r⟩:=st.1;⟨o,hk it (by simp) o e,r⟩,let ⟨o,e,r⟩:=st.2;⟨o,hk l (by simp) o e,r⟩⟩
 item:=fun i s Q E hi st hQ=>by
  refine iW st.1 st.2 (x:=items[i]) (by simp[hi]) fun h' hit' hs'=>?_
  exact hQ _ h' s.toks (by simp[hi]) ⟨hit',st.2.extBut hs'.extBut hne⟩ hs'
 done:=fun s Q E st hE=>j5 hh st.1 st.2 (by simp) hE
theorem jt(l:Addr)(items:Array Value)(n:Nat)(dct:Option Addr)(sl:Array (Option Value)):
  Meets (Builtin.«enumerate.__new__» ⟨[.type "enumerate",.ref l],[]⟩) (fun _ R s=>s.heap.get? l=some {cls:=.type "tuple",dict:=dct,data:=.seq items n,slots:=sl} /\
   R (.ok (.ret (.ref (s.heap.push {cls:=.type "tuple_iterator",data:=.fields #[.ref l,.int 0 0]}).objs.size)))
    {s with heap:=(s.heap.push {cls:=.type "tuple_iterator",data:=.fields #[.ref l,.int 0 0]}).push {cls:=.type "enumerate",data:=.fields #[.none,.bool false,.ref s.heap.objs.size,rawInt 0,.none,.none]}}):=
 .of_wp fun prog w A R s h=>by
  obtain⟨hp,g,d,tk,os⟩:=s;obtain⟨hl,h⟩:=h;have hsub:=sub_enumerate;have hL:Heap.IsTuple (Shared.heap ⟨hp,g,d,tk,os⟩) l items:=⟨_,hl,rfl,n,rfl⟩;wp_walk using Nm hl;refine wpAny_stack_any fun st=>Kb ?_;split
  ·rename_i c _ _ _ _ _
   cases (c == Value.type "enumerate")<;>(wp_walk using Nm hl,L5 hL;exact⟨_,rfl,h⟩)
  ·wp_walk using Nm hl,L5 hL;exact⟨_,rfl,h⟩
theorem ko(hL:s.heap.IsTuple l items)
  (h:∀ h',IsEnum h' (s.heap.objs.size+1) s.heap.objs.size 0 .none->h'.IsTupleIter s.heap.objs.size l 0->h'.objs.size=s.heap.objs.size+2 ->
   (∀ b o,s.heap.get? b=some o->h'.get? b=some o)->Q (.ref (s.heap.objs.size+1)) {s with heap:=h'}) :
  wpAny (model prog w) A (call (.type "enumerate") [.ref l]) Q E s:=by
 obtain⟨⟨c,dct,dt,sl⟩,hl,hc,n,hd⟩:=hL
 replace hc:c=.type "tuple":=hc
 replace hd:dt=.seq items n:=hd
 subst hc hd;refine callType_new F.called_enumerate (by decide) (F.typeCall_enumerate_1 _) (F.newCall_enumerate_1 _) (fun obj=>F.args_object_init_2 obj _) F.entry_enumerate_new (jt l items n dct sl) ⟨hl,?_⟩
 have hz:(s.heap.push {cls:=.type "tuple_iterator",data:=.fields #[.ref l,.int 0 0]}).objs.size=s.heap.objs.size+1:=Md ..;show _/\_;rw[hz];have he:IsEnum ((s.heap.push {cls:=.type "tuple_iterator",data:=.fields #[.ref l,.int 0 0]}).push {cls:=.type "enumerate",data:=.fields #[.none,.bool false,.ref s.heap.objs.size,rawInt 0,.none,.none]}) (s.heap.objs.size+1) s.heap.objs.size 0 .none:=by
  have:=Km (s.heap.push {cls:=.type "tuple_iterator",data:=.fields #[.ref l,.int 0 0]}) (o:={cls:=.type "enumerate",data:=.fields #[.none,.bool false,.ref s.heap.objs.size,rawInt 0,.none,.none]}) rfl;rw[hz] at this;exact this
 refine⟨⟨_,he,rfl⟩,h _ he ⟨_,JW _ (Km _ rfl),rfl,rfl⟩ (by rw[Md,hz]) fun b o x=>JW _ (JW _ x)⟩
end
section
variable {X:Cx} {pins:List (Addr×Obj)} {σ:St} {H:Hp} {s:Shared} {h':Heap}
theorem Inv.turns{t':Nat}(I:Inv X pins σ H s)(hf:∀ b∈fp,kf X pins H b)(k:∀ b o,b∉fp->s.heap.get? b=some o->h'.get? b=some o):Inv X pins σ H {s with heap:=h',toks:=t'}:=by
 have nf:∀ b u,H b=some u->b∉fp:=fun b u e z=>by rw[(hf b z).1] at e;cases e
 refine I.step (g':=s.gens) (d':=s.drawn) (ch:=fp) (fun b hb=>?_) (fun b o _ _ hc e _=>k b o hc e) (fun b o _ _ hc e _=>⟨o.slots,k b o hc e⟩) (fun _ _ _ _ n=>n)
  (fun b o hc e=>⟨o,k b o hc e⟩) (fun _ _ e=>e) (fun _ _ _ e=>e) (fun b ps e=>⟨#[],by rw[e];simp⟩) (fun m hm=>?_) (fun b u e=>?_) I.bare
 ·obtain⟨_,g1,g2,g3,g4,g5⟩:=hf b hb;exact⟨g3,g1,g4,g5⟩
 ·obtain⟨o,es,ep,ho,r⟩:=hm;exact⟨o,es,ep,k _ o (fun z=>(hf _ z).2.1 rfl) ho,r⟩
 ·refine (I.aO b u e).jN (fun c v hc q=>k c v ?_ q) (fun _ q=>q) (fun _ _ q=>q) fun _ _ _ q=>q;rcases hc with z|z
  ·rw[z];exact nf b u e
  ·exact nf c _ z
theorem Inv.nv{t':Nat}(I:Inv X pins σ H s)(hf:∀ b∈fp,kf X pins H b)(hp:s.heap.objs.size<=p)(k:∀ b o,b∉fp->s.heap.get? b=some o->h'.get? b=some o)
  (new:bt X.prog X.w (upd H p o) h' p o):Inv X pins σ (upd H p o) {s with heap:=h',toks:=t'}:=by
 have nf:∀ b u,H b=some u->b∉fp:=fun b u e z=>by rw[(hf b z).1] at e;cases e
 have fr:H p=none:=I.aO.fresh hp;have np:∀ b u,H b=some u->b≠p:=fun b u e=>aB e fr;have ne:∀ b o,s.heap.get? b=some o->b≠p:=fun b o e z=>by rw[z] at e;exact absurd (Kz (Kn e) hp) (LG _)
 refine I.step (g':=s.gens) (d':=s.drawn) (ch:=fp) (fun b hb=>?_) (fun b o _ _ hc e _=>k b o hc e) (fun b o _ _ hc e _=>⟨o.slots,k b o hc e⟩) (fun b o _ e n=>by rw[aj (ne b o e)];exact n)
  (fun b o hc e=>⟨o,k b o hc e⟩) (fun b xs e=>by rw[aj (np b _ e)];exact e) (fun b o u e=>by rw[aj (np b _ e)];exact e) (fun b ps e=>⟨#[],by rw[aj (np b _ e),e];simp⟩) (fun m hm=>?_) (fun b u e=>?_) I.bare
 ·obtain⟨_,g1,g2,g3,g4,g5⟩:=hf b hb;exact⟨g3,g1,g4,g5⟩
 ·obtain⟨o,es,ep,ho,r⟩:=hm;exact⟨o,es,ep,k _ o (fun z=>(hf _ z).2.1 rfl) ho,r⟩
 ·by_cases hb:b=p
  ·subst hb;rw[az] at e;cases e;exact new
  ·rw[aj hb] at e;refine (I.aO b u e).jN (fun c v hc q=>k c v ?_ q) (fun c q=>by rw[aj (np c _ q)];exact q) (fun c xs q=>by rw[aj (np c _ q)];exact q) fun c _ _ q=>by rw[aj (np c _ q)];exact q
   rcases hc with z|z
   ·rw[z];exact nf b u e
   ·exact nf c _ z
end
noncomputable def getL(K:Pm)(a:Addr):Nat->Hp->V->Prop:=fun i H x=>∃ xs,cx K H a xs/\xs[i]?=some x
noncomputable def Jg(K:Pm)(a:Addr):Nat->Hp->V->Prop:=fun i H x=>∃ xs,cc K H a xs/\xs[i]?=some x
noncomputable def Ib(K:Pm)(a:Addr):Nat->Hp->Prop:=fun i H=>∃ xs,cx K H a xs/\xs.length=i
noncomputable def HK(K:Pm)(a:Addr):Nat->Hp->Prop:=fun i H=>∃ xs,cc K H a xs/\xs.length=i
noncomputable def y_(K:Pm)(a:Addr):It:=
 ⟨fun i H=>∃ x,Jg K a i H x,fun i H x H'=>∃ p y,(∀ xs,cc K H a xs->xs[i]?=some y)/\H p=none/\x=.ref p/\H'=upd H p (.tup [.int i,y]),HK K a⟩
theorem pJ{tk:Nat}(a it e:Addr)(hne:e≠it):Turn P w K (.Tuple es tk tp) (y_ K a) [e,it] e (fun i h=>(∃ old,IsEnum h e it i old)/\h.IsTupleIter it a i) where
 mem:=by simp
 obj:=fun i h st b hb=>by
  obtain⟨⟨old,he⟩,o,eo,c,d⟩:=st;rcases Ki.mp hb with z|z
  ·subst z;exact⟨_,he,fun v z=>by cases z⟩
  ·have z:b=it:=by simpa using z
   subst z;exact⟨o,eo,fun v z=>by rw[d] at z;cases z⟩
 keep:=fun i h h' st k=>by
  obtain⟨⟨old,he⟩,o,eo,r⟩:=st;exact⟨⟨old,k e (by simp) _ he⟩,o,k it (by simp) o eo,r⟩
 item:=by
  intro X hP hw hK hc i pins s σ H E I hf st hg;subst hP hw hK;obtain⟨x,xs,hq,hx⟩:=hg;obtain⟨⟨old,he⟩,hit⟩:=st;obtain⟨its,rv,p,hz⟩:=I.tuple hq;obtain⟨u,hu,ru⟩:=rv.get hx;obtain⟨g0,g1,g2,g3,g4,g5⟩:=hf e (by simp)
  obtain⟨f0,f1,f2,f3,f4,f5⟩:=hf it (by simp)
  have ht:s.heap.IsTuple a its.toArray:=p;have ha:a≠it:=by
   rintro rfl;obtain⟨o,e1,c1,_⟩:=hit;obtain⟨o',e2,c2,_⟩:=ht;rw[e1] at e2;cases e2;rw[c1] at c2;exact absurd (Value.type.inj c2) (by decide)
  have hea:e≠a:=by
   rintro rfl;obtain⟨o',e2,c2,_⟩:=ht;have e1:s.heap.get? e=some _:=he;rw[e1] at e2;cases e2;exact absurd (Value.type.inj c2) (by decide)
  have hi:i<its.toArray.size:=by
   have:=(Kf.mp hu).1
   simpa using this
  refine Ox (iu (A:=X.A.in1) (I.ok.hd hc) it a ha its.toArray) he ⟨hit,ht⟩ hi hne (by simp[hne,hea]) fun x' h' tk' hP ho hs' hT hsz hk=>?_
  have ex:x'=u:=by
   have hP':its.toArray[i]?=some x':=hP;rw[Lm,hu] at hP';exact (Option.some.inj hP').symm
  subst ex;refine⟨.ref s.heap.objs.size,rfl,NJ ho fun h2 he2 hs2=>?_⟩;have fr:H s.heap.objs.size=none:=I.aO.fresh (Kc _);have hle:e≠s.heap.objs.size:=K1 (Kn he);have hT2:h2.get? s.heap.objs.size=some {cls:=.type "tuple",data:=.seq #[.int i tk',x']}:=(hs2.2 _ (Ne.symm hle)).trans hT;have I2:Inv X pins σ (upd H s.heap.objs.size (.tup [.int i,x])) {s with heap:=h2,toks:=tk'+1}:=by
   refine I.nv (fp:=[e,it]) hf (Kc _) (fun b o hb eb=>?_) ⟨by show 2<=sizeLine;decide,[.int i tk',x'],.cons ⟨_,rfl⟩ (.cons ru .nil),⟨_,hT2,rfl,_,rfl,rfl⟩⟩
   have n1:b≠e:=fun z=>hb (by simp[z])
   have n2:b≠it:=fun z=>hb (by simp[z])
   exact (hs2.2 b n1).trans (hk b o n1 n2 eb)
  refine⟨.ref s.heap.objs.size,_,I2,rfl,⟨s.heap.objs.size,x,fun ys hy=>by rw[I.ik hy hq];exact hx,fr,rfl,rfl⟩,⟨⟨x',?_⟩,?_⟩,fun b hb=>?_⟩
  ·have e:(((i+1:Nat)):Int)=(i:Int)+1:=by lia
   rw[e];exact he2
  ·obtain⟨o,e1,r⟩:=hs'.1;exact⟨o,(hs2.2 it (Ne.symm hne)).trans e1,r⟩
  ·have n:b≠s.heap.objs.size:=by
    rcases Ki.mp hb with z|z
    ·subst z;exact hle
    ·have z:b=it:=by simpa using z
     subst z;obtain⟨o,e1,_⟩:=hit;exact K1 (Kn e1)
   rw[aj n];exact (hf b hb).1
 done:=by
  intro X hP hw hK hc i pins s σ H E I hf st hg;subst hP hw hK;obtain⟨xs,hq,hx⟩:=hg;obtain⟨⟨old,he⟩,hit⟩:=st;obtain⟨its,rv,p,hz⟩:=I.tuple hq;have ht:s.heap.IsTuple a its.toArray:=p;have ha:a≠it:=by
   rintro rfl;obtain⟨o,e1,c1,_⟩:=hit;obtain⟨o',e2,c2,_⟩:=ht;rw[e1] at e2;cases e2;rw[c1] at c2;exact absurd (Value.type.inj c2) (by decide)
  have hl:=rv.length;have hsz:its.toArray.size=i:=by simp;lia
  refine OB (iu (A:=X.A.in1) (I.ok.hd hc) it a ha its.toArray) he (by rw[hsz];exact⟨hit,ht⟩) fun h' eb=>⟨rfl,?_⟩
  exact I.turns (t':=s.toks) hf fun b o hb e1=>eb b o (fun z=>hb (by simp[z])) e1
 self:=fun A i s Q E st h=>by
  obtain⟨⟨old,he⟩,_⟩:=st;exact MR he h
section
variable {X:Cx} {es:List Expr} {tk:Nat} {tp:Pos}
noncomputable def BI(K:Pm)(ta:TA):TI:=fun σ H R=>ta σ H fun vs H1=>∃ a,vs=[.ref a]/\(∃ xs,cc K H1 a xs)/\R (y_ K a) H1
theorem zc{p pos:Pos}(hg:Gl X "enumerate")(hm:X.mg "enumerate"=none)(ha:PA X [e] ta)(h1:autoParam (cS e=true) ℜ0)(hv:autoParam (bootBuiltins "enumerate"=some (.type "enumerate")) ℜ6):
  PI X (.Tuple es tk tp) (.Call (.Name "enumerate" p) [e] [] pos) (BI X.K ta):=by
 intro pins s σ H R I h;refine Call_ (fQ I hg hm hv (Ly (bS (ha pos pins s σ H _ I h) fun us s1 ⟨vs,H1,I1,r1,q1⟩=>?_) (dq h1) rfl));obtain⟨a,e,⟨xs,hq⟩,q⟩:=q1;subst e;obtain⟨u,rfl,ru⟩:=vals1 r1;cases ru;obtain⟨its,rv,pt,hz⟩:=I1.tuple hq;refine ko (show s1.heap.IsTuple a its.toArray from pt) fun h' he hit hsz hk=>?_;refine MR he ?_;have I2:Inv X pins σ H1 {s1 with heap:=h'}:=I1.kept (t':=s1.toks) hk
 refine⟨s1.heap.objs.size+1,[s1.heap.objs.size+1,s1.heap.objs.size],_,_,H1,rfl,I2,pJ a s1.heap.objs.size (s1.heap.objs.size+1) (Mf (Oe _)),⟨⟨_,he⟩,hit⟩,fun b hb=>?_,q⟩;have hb':s1.heap.objs.size<=b:=by
  rcases Ki.mp hb with z|z
  ·rw[z];exact Mc _
  ·have z:b=s1.heap.objs.size:=by simpa using z
   rw[z];exact Kc _
 exact I1.qm hb' (I1.aO.fresh hb')
end
namespace Ap
theorem Hz(K:Pm)(b:Bool)(H:Hp)(k:Bool):wK K (.bl b) H k=(k=b):=rfl
theorem IU(K:Pm)(i:Int)(H:Hp)(k:Bool):wK K (.int i) H k=(k=(i != 0)):=rfl
end Ap
theorem IW(x:α)(r:List α):bw (x::r) 0=some x:=bB (j:=0) rfl
theorem IP(a x:α)(r:List α):bw (a::x::r) 1=some x:=bB (j:=1) rfl
theorem Jb(a b x:α)(r:List α):bw (a::b::x::r) 2=some x:=bB (j:=2) rfl
theorem IM(a b c x:α)(r:List α):bw (a::b::c::x::r) 3=some x:=bB (j:=3) rfl
theorem Dy{i:Int}(h0:0<=i)(h:i<n):ie n i=some i.toNat:=by unfold ie;rw[Ke h0,Ke h]
namespace Ap
theorem setRef(p:Addr)(k:Int)(v:V)(H:Hp)(Q:Hp->Prop):xw (.ref p) (.int k) v H Q=(match H p with
  |some (.lst xs)=>(match ie xs.length k with|some j=>Q (upd H p (.lst (xs.set j v)))|none=>False)
  |_=>False):=rfl
end Ap
structure QE (X:Cx) (e:Expr) (t:TE):Prop where h:PE X e t
structure QT (X:Cx) (e:Expr) (t:TT):Prop where h:PT X e t
structure QW (X:Cx) (e:Expr) (t:TT):Prop where h:PW X e t
structure QA (X:Cx) (es:List Expr) (t:TA):Prop where h:PA X es t
structure QS (X:Cx) (st:Stmt) (t:TS):Prop where h:PS X st t
structure QB (X:Cx) (sts:List Stmt) (t:TS):Prop where h:pG X sts t
structure QI (X:Cx) (tg it:Expr) (t:TI):Prop where h:PI X tg it t
structure QG (X:Cx) (e:Expr) (t:TG):Prop where h:PG X e t
structure FI (X:Cx) (es:List Expr) (t:u4):Prop where h:En X es t
structure QO (X:Cx) (e:Option Expr) (t:TO):Prop where h:PO X e t
structure Ew (X:Cx) (es:List Expr) (t:TT):Prop where h:Ey X es t
namespace Z
noncomputable def sim(b:Expr):Bool:=match b with
 |.Name .. |.Constant .. |.Call .. |.BinOp .. |.Subscript .. |.Attribute .. |.UnaryOp .. |.Compare .. |.IfExp ..=>true
 |_=>false
theorem Jy{b:Expr}(h:sim b=true):sH b:=by
 cases b<;>first | (intro _ _;rfl)|cases h
noncomputable def He(b:Expr):Bool:=match b with
 |.Name .. |.Call .. |.Subscript .. |.Attribute ..=>true
 |_=>false
theorem ptr{b:Expr}(h:He b=true):∀ whole,isTrue b env whole=(do let v <- whole;standAt b.pos;holding [v] (truthy v)):=by
 cases b<;>first | (intro _;rfl)|cases h
noncomputable def Er(b:Expr):Bool:=match b with
 |.ListComp .. |.SetComp .. |.DictComp ..=>false
 |_=>true
theorem Jn{b:Expr}{tg:Option Expr}{l:Nat}(h:Er b=true):swapsWith b tg l env=pure false:=by
 cases b<;>first|rfl|cases h
section
variable {X:Cx}
theorem FW(K:Pm)(hK:X.K=K):bf X (.builtin "isinstance") (pf K):=by subst hK;exact uv
end
section
variable {X:Cx} {a b c e o:Expr} {es:List Expr} {ta tb tc te to:TE} {t:TA} {pos p p2:Pos} {tA tB':TT} {rest:List Expr} {x:Str}
theorem int{i:Int}:QE X (.Constant (.int i) j pos) (tC (.int i)):=⟨yj⟩
theorem bl{i:Bool}:QE X (.Constant (.bool i) j pos) (tC (.bl i)):=⟨AJ⟩
theorem aC:QE X (.Constant .none j pos) (tC .aC):=⟨xa⟩
theorem str{i:Str}:QE X (.Constant (.str i) j pos) (tC (.str i)):=⟨vC⟩
theorem v(i:Nat)(hN:autoParam (X.N[i]?=some x) ℜ0)(hv:autoParam (D4 X.env.scope x) ℜ4)(hd:autoParam ((x ==("__debug__":Str))=false) ℜ1)
  (hcd:autoParam ((x ==("__classdict__":Str))=false) ℜ1):QE X (.Name x pos) (Dg i):=⟨pv i hN hv hd hcd⟩
theorem glob{w:V}{u:Value}(hg:Gl X x)(hm:X.mg x=some u)(r:RelV w u)(hd:autoParam ((x ==("__debug__":Str))=false) ℜ1):QE X (.Name x pos) (tC w):=⟨mh hg hm r hd⟩
theorem op{o:Operator}{r:R2}(ho:cK X (binaryOp o) r)(ha:QE X a ta)(hb:QE X b tb):QE X (.BinOp a o b pos) (zp r ta tb):=⟨G9 ho ha.h hb.h⟩
theorem un{o:UnaryOp}{r:V->Hp->VK->Prop}(ho:Hq X (unaryOp o) r)(ha:QE X a ta):QE X (.UnaryOp o a pos) (J8 r ta):=⟨G8 ho ha.h⟩
theorem cmp{o:CmpOp}{r:R2}(ho:cK X (compareOp o) r)(ha:QE X a ta)(hb:QE X b tb)(hm:autoParam (behindInMarks o b=false) ℜ0):QE X (.Compare a [o] [b] pos) (zp r ta tb):=⟨zf ho ha.h hb.h hm⟩
theorem chain{o o':CmpOp}{r:R2}(ho:cK X (compareOp o) r)(ho':cK X (compareOp o') r')(ha:QE X a ta)(hb:QE X b tb)(hc:QE X c tc)(hm:autoParam (lastMarks [o,o'] [b,c]=false) ℜ5):QE X (.Compare a [o,o'] [b,c] pos) (qA r r' ta tb tc):=⟨yg ho ho' ha.h hb.h hc.h hm⟩
theorem and(ha:QE X a ta)(hb:QE X (.BoolOp .And (b::rest) pos) tb):QE X (.BoolOp .And (a::b::rest) pos) (BD ta tb):=⟨C3 ha.h hb.h⟩
theorem one{o:BoolOp}(ha:QE X a ta):QE X (.BoolOp o [a] pos) ta:=⟨C1 ha.h⟩
theorem CW(hc:QT X c tA)(ha:QE X a ta)(hb:QE X b tb):QE X (.IfExp c a b pos) (Jo tA ta tb):=⟨wG hc.h ha.h hb.h⟩
theorem slice{r:V->Option Int->Option Int->Hp->VK->Prop}{tl th:TO}(hr:u_ X r)(he:QE X e te)(hl:QO X lo tl)(hu:QO X hi th):QE X (.Subscript e (.Slice lo hi none p2) pos) (J7 r te tl th):=⟨xv hr he.h hl.h hu.h⟩
theorem DF:QO X none rE:=⟨Ad⟩
theorem mT(he:QE X e te):QO X (some e) (Bm te):=⟨Ac he.h⟩
theorem ix{r:R2}(hr:uY X r)(ha:QE X a ta)(hb:QE X b tb)(hs:autoParam (sim b=true) ℜ0):QE X (.Subscript a b pos) (zp r ta tb):=⟨BL hr ha.h hb.h (Jy hs)⟩
theorem tup(h:QA X es t):QE X (.Tuple es k pos) (Fw t):=⟨CA h.h⟩
theorem lst(h:QA X es t):QE X (.List es pos) (EV t):=⟨CO h.h⟩
theorem nil:QA X [] oq:=⟨y1⟩
theorem cons(ha:QE X e te)(hr:QA X es t)(h:autoParam (cS e=true) ℜ0):QA X (e::es) (lD te t):=⟨HL ha.h hr.h h⟩
theorem consts(h:kK es=some vs):QA X es (tK vs):=⟨lj h⟩
theorem cb{id:String}(hc:bf X (.builtin id) r)(hg:Gl X x)(hm:X.mg x=none)(hv:bootBuiltins x=some (.builtin id))(ha:QA X (e::es) t)(h1:autoParam (cS e=true) ℜ0)(h2:autoParam (es.all cS=true) ℜ0)(hn:autoParam (x≠"__name__") ℜ1)(hdb:autoParam ((x ==("__debug__":Str))=false) ℜ1):
  QE X (.Call (.Name x p) (e::es) [] pos) (Bg r t):=⟨EJ hc hg hm hv ha.h h1 h2 hn hdb⟩
theorem ct{T:String}(hc:bf X (.type T) r)(hg:Gl X x)(hm:X.mg x=none)(hv:bootBuiltins x=some (.type T))(ha:QA X (e::es) t)(h1:autoParam (cS e=true) ℜ0)(h2:autoParam (es.all cS=true) ℜ0)(hn:autoParam (x≠"__name__") ℜ1)(hdb:autoParam ((x ==("__debug__":Str))=false) ℜ1):
  QE X (.Call (.Name x p) (e::es) [] pos) (Bg r t):=⟨FD hc hg hm hv ha.h h1 h2 hn hdb⟩
theorem JP{T:String}(hg:Gl X x)(hm:X.mg x=none)(hv:bootBuiltins x=some (.type T))(hn:autoParam (x≠"__name__") ℜ1)(hd:autoParam ((x ==("__debug__":Str))=false) ℜ1):QE X (.Name x pos) (tC (.ty T)):=⟨DZ hg hm hv hn hd⟩
theorem fn{ps:List Str}{E:XK}(F:ae X.prog X.w X.K X.mg X.base CX k x ps sp)(hr:b7 k X.A)(hg:Gl X x)(hx:Passes CX X E)(ha:QA X (e::es) t)(h1:autoParam (cS e=true) ℜ0)(h2:autoParam (es.all cS=true) ℜ0)(hdb:autoParam ((x ==("__debug__":Str))=false) ℜ1):
  QE X (.Call (.Name x p) (e::es) [] pos) (jD sp [] E t):=⟨E3 F hr hg hx ha.h h1 h2 hdb⟩
theorem Hn{ps:List Str}{E:XK}(F:ae X.prog X.w X.K X.mg X.base CX k x ps sp)(hr:b7 k X.A)(hg:Gl X x)(hx:Passes CX X E)(hdb:autoParam ((x ==("__debug__":Str))=false) ℜ1):
  QE X (.Call (.Name x p) [] [] pos) (jD sp [] E oq):=⟨Cs F hr hg hx hdb⟩
theorem bm(K:Pm)(hK:X.K=K){T id:String}{r:V->List V->Hp->VK->Prop}(pa:PlainAttrs T)(slot:Slot T name id)(hty:typeOf (.builtin id)=pure (.type "method_descriptor"))(hm:rJ X id r)(ho:QE X o to)(ha:QA X (e::es) t)
  (hbase:autoParam (attributeBase o name X.env (eval o X.env)=eval o X.env) ℜ0) (hline:autoParam ((apos.endLine == pos.line)=true) ℜ0) (h:autoParam ((e::es).all cS=true) ℜ0) (hl:autoParam ((e::es).length<30) ℜ1):QE X (.Call (.Attribute o name apos) (e::es) [] pos) (IQ K T r to t):=by
 subst hK;exact⟨Df pa slot hty hm ho.h ha.h hbase hline h hl⟩
theorem comp{own:List Str}{wi:TI}{g:TG}{tc:TT}(S:cm osc ON scope own N)(hosc:X.env.scope=osc)(hON:X.N=ON)(hc:X.calm=true)(hi:QI X tg iter wi)
  (hg:∀ C s H fp,QG (aJ X scope N C s H fp) tg g) (ht:∀ C s H fp,Ew (aJ X scope N C s H fp) ifs tc) (he:∀ C s H fp,QE (aJ X scope N C s H fp) elt te) (hs:autoParam (∀ x,foldedSetIterable iter X.env x=pure x) ℜ3) :
  QE X (.ListComp elt [⟨tg,iter,ifs,0⟩] scope pos) (lE wi own.length g tc te):=⟨zT S hosc hON hc hi.h (fun C s H fp=>(hg C s H fp).h) (fun C s H fp=>(ht C s H fp).h) (fun C s H fp=>(he C s H fp).h) hs⟩
theorem aV{o:CmpOp}{r:R2}(ho:cK X (compareOp o) r)(ha:QE X a ta)(hb:QE X b tb)(hm:autoParam (behindInMarks o b=false) ℜ0):QT X (.Compare a [o] [b] pos) (xN (zp r ta tb)):=⟨yU ho ha.h hb.h hm⟩
theorem tw(h:QW X e tA):QT X e tA:=⟨h.h.pt⟩
theorem mO(ha:QT X a tA):QT X (.UnaryOp .Not a pos) (Fd tA):=⟨DV ha.h⟩
noncomputable def IV(K:Pm)(ta:TE):TT:=fun σ H Q=>ta σ H fun x H'=>∃ k,wK K x H' k/\Q k H'
theorem CT(K:Pm)(hK:X.K=K)(ha:QE X a ta)(he:autoParam (He a=true) ℜ0):QT X a (IV K ta):=by subst hK;exact⟨vF ha.h (ptr he)⟩
theorem lh(ha:QT X a tA):QW X (.BoolOp .And [a] pos) tA:=⟨Au ha.h⟩
theorem qC(ha:QT X a tA):QW X (.BoolOp .Or [a] pos) tA:=⟨Dm ha.h⟩
theorem tO(ha:QT X a tA)(hb:QW X (.BoolOp .And (b::rest) pos) tB'):QW X (.BoolOp .And (a::b::rest) pos) (D9 tA tB'):=⟨CZ ha.h hb.h⟩
theorem Br(ha:QT X a tA)(hb:QW X (.BoolOp .Or (b::rest) pos) tB'):QW X (.BoolOp .Or (a::b::rest) pos) (Ja tA tB'):=⟨E6 ha.h hb.h⟩
theorem aG(hN:X.N.Nodup)(hi:X.N[i]?=some x)(hx:Loc X.env.scope x)(hf:autoParam (X.fn x=true\/X.env.scope.names.lookup x=some .local) ℜ2):QG X (.Name x pos) (d5 i):=⟨zY hN hi hx hf⟩
theorem D_(K:Pm)(hK:X.K=K){tg:u4}(hc:X.calm=true)(h:FI X es tg)(hn:autoParam ((assignEach es X.env).length=n) ℜ0)(hst:autoParam ((assignEach es X.env).findIdx? (·.1)=none) ℜ0):QG X (.Tuple es k pos) (zr K n tg):=by subst hK;exact⟨xJ hc h.h hn hst⟩
theorem fF:FI X [] yM:=⟨ze⟩
theorem bD{g:TG}{u:u4}(h1:QG X e g)(h2:FI X es u)(hs:autoParam ((assignEach (e::es) X.env).map (·.2)=assign e X.env::(assignEach es X.env).map (·.2)) ℜ0):FI X (e::es) (lJ g u):=⟨wC h1.h h2.h hs⟩
theorem oZ{i:Expr}{ti:TE}(ho:QE X o to)(hi:QE X i ti)
  (ha:autoParam (∀ v,assign (.Subscript o i pos) X.env v=(do
   let ov <- holding [v] (eval o X.env)
   let iv <- holding [v,ov] (eval i X.env)
   standAt pos
   holding [v,ov,iv] (setItem ov iv v)
   release [v,ov,iv] [])) ℜ3):QG X (.Subscript o i pos) (Ga to ti xw):=⟨D3 ho.h hi.h uset ha⟩
theorem jk{ta:TA}(hg:Gl X "range")(hm:X.mg "range"=none)(ha:QA X [a] ta)(h:autoParam (cS a=true) ℜ0):QI X tg (.Call (.Name "range" p) [a] [] pos) (wq ta):=⟨pW hg hm ha.h h⟩
theorem enum(K:Pm)(hK:X.K=K){ta:TA}(hg:Gl X "enumerate")(hm:X.mg "enumerate"=none)(ha:QA X [e] ta)(h1:autoParam (cS e=true) ℜ0):QI X (.Tuple es k tp) (.Call (.Name "enumerate" p) [e] [] pos) (BI K ta):=by subst hK;exact⟨zc hg hm ha.h h1⟩
theorem rF:Ew X [] B7:=⟨zw⟩
theorem Hw(h:QT X c tA):Ew X [c] tA:=⟨Aj h.h⟩
end
section
variable {X:Cx} {e o tg:Expr} {te to:TE} {st:Stmt} {sts xs ys:List Stmt} {t u:TS} {pos pos':Pos} {x:Str}
theorem bN:QB X [] Bn:=⟨zM⟩
theorem aA(h:QS X st t):QB X [st] t:=⟨zu h.h⟩
theorem af(h:QS X st t)(h2:QB X sts u):QB X (st::sts) (GH t u):=⟨vi h.h h2.h⟩
theorem set(hN:X.N.Nodup)(hi:X.N[i]?=some x)(hx:Loc X.env.scope x)(he:QE X e te)(hs:autoParam (Er e=true) ℜ0)(hf:autoParam (X.fn x=true\/X.env.scope.names.lookup x=some .local) ℜ2):
  QS X (.Assign [.Name x pos'] e pos) (qo te (d5 i)):=⟨DG hN hi hx he.h (Jn hs) hf⟩
theorem setC{own:List Str}{p2:Pos}{wi:TI}{g:TG}(hN:X.N.Nodup)(hj:X.N[j]?=some x)(hx:Loc X.env.scope x)(S:cm osc ON scope own N)(hosc:X.env.scope=osc)(hON:X.N=ON)(hc:X.calm=true)(hi:QI X tg iter wi)
  (hg:∀ C s H fp,QG (aJ X scope N C s H fp) tg g) (ht:∀ C s H fp,Ew (aJ X scope N C s H fp) ifs tc) (he:∀ C s H fp,QE (aJ X scope N C s H fp) elt te)
  (hsw:autoParam (swapsWith (.ListComp elt [⟨tg,iter,ifs,0⟩] scope p2) (some (.Name x pos')) pos.line X.env=pure true) ℜ0)
  (hf:autoParam (X.fn x=true\/X.env.scope.names.lookup x=some .local) ℜ2) (hs:autoParam (∀ x,foldedSetIterable iter X.env x=pure x) ℜ3) :
  QS X (.Assign [.Name x pos'] (.ListComp elt [⟨tg,iter,ifs,0⟩] scope p2) pos) (qo (lE wi own.length g tc te) (d5 j)):=⟨qp hN hj hx S hosc hON hc hi.h (fun C s H fp=>(hg C s H fp).h) (fun C s H fp=>(ht C s H fp).h) (fun C s H fp=>(he C s H fp).h) hsw hf hs⟩
theorem asg{g:TG}(he:QE X e te)(hg:QG X tg g)(hs:autoParam (swapsWithSole [tg] e pos.line X.env=pure false) ℜ0)(hw:autoParam (swappedStores [tg] e X.env=pure none) ℜ0)
  (h1:autoParam ((assignEach [tg] X.env).map (·.2)=[assign tg X.env]) ℜ0):QS X (.Assign [tg] e pos) (qo te g):=⟨CY he.h hg.h hs hw h1⟩
theorem ret(he:QE X e te):QS X (.Return (some e) pos) (Gs te):=⟨BX he.h⟩
theorem expr(he:QE X e te)(hs:autoParam (Er e=true) ℜ0):QS X (.Expr e pos) (AS te):=⟨Av he.h (Jn hs)⟩
theorem eL{c:Expr}(hc:QT X c tc)(ha:QB X xs t)(hb:QB X ys u):QS X (.If c xs ys pos) (Gw tc t u):=⟨EI hc.h ha.h hb.h⟩
theorem eU{wi:TI}{g:TG}(hp:PassesOwn (model X.prog X.w) X.A X.env X.xe)(hc:X.calm=true)(hi:QI X tg iter wi)(hg:QG X tg g)(hb:QB X xs t)(hs:autoParam (∀ x,foldedSetIterable iter X.env x=pure x) ℜ3):QS X (.For tg iter xs [] pos) (FA wi g t):=⟨Dd hp hc hi.h hg.h hb.h hs⟩
theorem ki{c:Expr}(hp:PassesOwn (model X.prog X.w) X.A X.env X.xe)(hc:QT X c tc)(hb:QB X xs t):QS X (.While c xs [] pos) (yk tc t):=⟨y2 hp hc.h hb.h⟩
end
end Z
theorem HasFn.JF{ps:List Str}(F:HasFn K mg x st ps)(S:ao N ps (aa st))(len:∀ vs H Q E,sp vs H Q E->vs.length=ps.length)
  (hbody:∀(f:Addr) (cdv:Value) (A:Around) (outer:List Env) (s:Shared) (H:Hp) (vs:List V) (Q:VK) (E:XK),b7 k (A.deeper (envOfC x (aa st) s.heap.objs.size f cdv))->sp vs H Q E ->
   ∃ t,QB (gK aU P w K mg base N x (aa st) f cdv A outer s H E).zJ (bA st) t/\t {nx:=fun _ H'=>Q .aC H',rt:=Q} (start N vs) H):ae P w K mg base aU (k+1) x ps sp:=
 F.ok S len fun f cdv A outer s H vs Q E hr h=>let ⟨t,q,r⟩:=hbody f cdv A outer s H vs Q E hr h;⟨t,q.h,r⟩
theorem yH{ps:List Str}(F:yB K x x st f fd)(S:ao N ps (aa st))(len:∀ vs H Q E,sp vs H Q E->vs.length=ps.length)
  (hbody:∀(cdv:Value) (A:Around) (outer:List Env) (s:Shared) (H:Hp) (vs:List V) (Q:VK) (E:XK),b7 k (A.deeper (envOfC x (aa st) s.heap.objs.size f cdv))->sp vs H Q E ->
   ∃ t,QB (gK aU P w K mg base N x (aa st) f cdv A outer s H E).zJ (bA st) t/\t {nx:=fun _ H'=>Q .aC H',rt:=Q} (start N vs) H):d_ P w K mg base aU (k+1) f fd ps sp:=
 F.ok S len fun cdv A outer s H vs Q E hr h=>let ⟨t,q,r⟩:=hbody cdv A outer s H vs Q E hr h;⟨t,q.h,r⟩
noncomputable def kF(e:Addr)(cls:Value)(d:Option Addr)(h:Heap):Prop:=∃ o vs,h.get? e=some o/\o.cls=cls/\o.dict=d/\o.data=.fields vs
inductive T where
 |aC|bl (b:Bool)|int (i:Int)|str (x:Str)|tup (ts:List T)|lst (ts:List T)|ee (ts:List T)|eJ (lo hi:Int)|dZ (ts:List T)|n5 (ks:List Key) (ts:List T)|exc (c:Value) (f:Option (Str×Int))
variable{c:T}{args ts:List T}
abbrev aX:=Addr->Prop
variable{B B' B1:aX}{Src:Hp->aX->Prop}
noncomputable def Hf(K:Pm)(a:Addr)(xs:List V):Prop:=∃(o:Obj) (its:Array Value) (n:Nat),K.lookup a=some o/\o.cls=.type "tuple"/\o.data=.seq its n/\its.size<=sizeLine/\Vals xs its.toList
noncomputable def JI(K:Pm)(a:Addr)(xs:List V):Prop:=∃(o:Obj) (its:Array Value) (n:Nat),K.lookup a=some o/\o.cls=.type "list"/\o.dict=none/\o.data=.seq its n/\its.size<=sizeLine/\Vals xs its.toList
noncomputable def LB(K:Pm)(H:Hp)(B:aX)(a:Addr)(xs:List V):Prop:=(¬ B a/\Rd H a (.lst xs))\/JI K a xs
mutual
inductive Rep (K:Pm) (H:Hp) (B:aX):V->T->Prop
 |aC:Rep K H B .aC .aC
 |bl (b:Bool):Rep K H B (.bl b) (.bl b)
 |int (i:Int):Rep K H B (.int i) (.int i)
 |str (x:Str):Rep K H B (.str x) (.str x)
 |tup {a:Addr} {vs:List V} {ts:List T} (n:¬ B a) (h:H a=some (.tup vs)) (r:ay K H B vs ts):Rep K H B (.ref a) (.tup ts)
 |dZ {a:Addr} {vs:List V} {ts:List T} (h:Hf K a vs) (r:ay K H B vs ts):Rep K H B (.ref a) (.dZ ts)
 |lst {a:Addr} {vs:List V} {ts:List T} (n:¬ B a) (h:H a=some (.lst vs)) (r:ay K H B vs ts):Rep K H B (.ref a) (.lst ts)
 |ee {a:Addr} {vs:List V} {ts:List T} (h:LB K H B a vs) (r:ay K H B vs ts):Rep K H B (.ref a) (.ee ts)
 |eJ {a:Addr} {lo hi:Int} (n:¬ B a) (h:H a=some (.eJ lo hi)):Rep K H B (.ref a) (.eJ lo hi)
 |n5 {a:Addr} {ks:List Key} {vs:List V} {ts:List T} (n:¬ B a) (h:Rd H a (.dK (ks.zip vs))) (l:ks.length=vs.length) (r:ay K H B vs ts):Rep K H B (.ref a) (.n5 ks ts)
 |exc {a:Addr} {c:Value} (n:¬ B a) (h:H a=some (.ext (kF a c none))):Rep K H B (.ref a) (.exc c none)
 |Ar {a d:Addr} {c:Value} {x:Str} {i:Int} (n:¬ B a) (h:H a=some (.ext (kF a c (some d)))) (m:¬ B d) (g:H d=some (.xd [(x,.int i)])):Rep K H B (.ref a) (.exc c (some (x,i)))
inductive ay (K:Pm) (H:Hp) (B:aX):List V->List T->Prop
 |nil:ay K H B [] []
 |cons {v:V} {t:T} {vs:List V} {ts:List T} (h:Rep K H B v t) (r:ay K H B vs ts):ay K H B (v::vs) (t::ts)
end
noncomputable def Fr(B:aX)(H:Hp)(B':aX)(H':Hp):Prop:=∀ b o,H b=some o->¬ B b->H' b=some o/\¬ B' b
theorem Fr.refl:Fr B H B H:=fun _ _ h n=>⟨h,n⟩
theorem Fr.trans{B2:aX}{H2:Hp}(a:Fr B H B1 H1)(b:Fr B1 H1 B2 H2):Fr B H B2 H2:=fun c o h n=>let ⟨h1,n1⟩:=a c o h n;b c o h1 n1
theorem Fr.same(s:bL H H'):Fr B H B H':=fun b o h n=>⟨s b o h,n⟩
theorem Fr.less(s:∀ b,B' b->B b):Fr B H B' H:=fun b o h n=>⟨h,fun z=>n (s b z)⟩
theorem Fr.set(h:B a):Fr B H B (upd H a o):=fun b u e n=>⟨by rw[aj (by rintro rfl;exact n h)];exact e,n⟩
theorem bL.new(h:H p=none):bL H (upd H p o):=fun b u e=>by rw[aj (aB e h)];exact e
theorem Fr.more(h:H p=none):Fr B H (fun b=>b=p\/B b) (upd H p o):=fun b u e n=>⟨bL.new h b u e,fun z=>z.elim (aB e h) n⟩
theorem Rd.fr{u:HO}(f:Fr B H B' H')(n:¬ B a)(h:Rd H a u):¬ B' a/\Rd H' a u:=by
 rcases h with h|⟨o,h⟩
 ·exact⟨(f a _ h n).2,.inl (f a _ h n).1⟩
 ·exact⟨(f a _ h n).2,.inr ⟨o,(f a _ h n).1⟩⟩
section
variable {K:Pm} {H H':Hp} {B B':aX}
theorem LB.fr(f:Fr B H B' H')(h:LB K H B a xs):LB K H' B' a xs:=h.elim (fun z=>.inl (z.2.fr f z.1)) .inr
theorem LB.sq(h:LB K H B a xs):cx K H a xs:=h.elim (fun z=>.inl z.2) .inr
mutual
theorem Rep.fr(f:Fr B H B' H'):∀{v:V} {t:T},Rep K H B v t->Rep K H' B' v t
 |_,_,.aC=>.aC
 |_,_,.bl b=>.bl b
 |_,_,.int i=>.int i
 |_,_,.str x=>.str x
 |_,_,.tup n h r=>.tup (f _ _ h n).2 (f _ _ h n).1 (ay.fr f r)
 |_,_,.dZ h r=>.dZ h (ay.fr f r)
 |_,_,.lst n h r=>.lst (f _ _ h n).2 (f _ _ h n).1 (ay.fr f r)
 |_,_,.ee h r=>.ee (h.fr f) (ay.fr f r)
 |_,_,.eJ n h=>.eJ (f _ _ h n).2 (f _ _ h n).1
 |_,_,.n5 n h l r=>.n5 (Rd.fr f n h).1 (Rd.fr f n h).2 l (ay.fr f r)
 |_,_,.exc n h=>.exc (f _ _ h n).2 (f _ _ h n).1
 |_,_,.Ar n h m g=>.Ar (f _ _ h n).2 (f _ _ h n).1 (f _ _ g m).2 (f _ _ g m).1
theorem ay.fr(f:Fr B H B' H'):∀{vs:List V} {ts:List T},ay K H B vs ts->ay K H' B' vs ts
 |_,_,.nil=>.nil
 |_,_,.cons h r=>.cons (Rep.fr f h) (ay.fr f r)
end
theorem ay.length:∀{vs:List V} {ts:List T},ay K H B vs ts->vs.length=ts.length
 |_,_,.nil=>rfl
 |_,_,.cons _ r=>K4 (·+1) (ay.length r)
theorem ay.get:∀{vs:List V} {ts:List T} {i:Nat} {t:T},ay K H B vs ts->ts[i]?=some t->∃ v,vs[i]?=some v/\Rep K H B v t
 |_,_,_,_,.nil,e=>by simp at e
 |_,_,0,_,.cons h _,e=>by simp at e;subst e;exact⟨_,rfl,h⟩
 |_,_,i+1,_,.cons _ r,e=>by
  obtain⟨v,e1,h⟩:=ay.get r (by simpa using e)
  exact⟨v,by simpa using e1,h⟩
theorem ay.append:∀{vs ws:List V} {ts us:List T},ay K H B vs ts->ay K H B ws us->ay K H B (vs++ws) (ts++us)
 |_,_,_,_,.nil,s=>s
 |_,_,_,_,.cons h r,s=>.cons h (ay.append r s)
theorem ay.take:∀{vs:List V} {ts:List T} (n:Nat),ay K H B vs ts->ay K H B (vs.take n) (ts.take n)
 |_,_,0,_=>.nil
 |_,_,_+1,.nil=>.nil
 |_,_,n+1,.cons h r=>.cons h (ay.take n r)
theorem ay.drop:∀{vs:List V} {ts:List T} (n:Nat),ay K H B vs ts->ay K H B (vs.drop n) (ts.drop n)
 |_,_,0,r=>r
 |_,_,_+1,.nil=>.nil
 |_,_,n+1,.cons _ r=>ay.drop n r
theorem ay.set:∀{vs:List V} {ts:List T} {v:V} {t:T} (i:Nat),Rep K H B v t->ay K H B vs ts->ay K H B (vs.set i v) (ts.set i t)
 |_,_,_,_,_,_,.nil=>.nil
 |_,_,_,_,0,h,.cons _ r=>.cons h r
 |_,_,_,_,i+1,h,.cons q r=>.cons q (ay.set i h r)
theorem ay.rep(r:ay K H B vs ts):∀ n:Nat,ay K H B (List.replicate n vs).flatten (List.replicate n ts).flatten
 |0=>.nil
 |n+1=>by rw[KG,KG,Lk,Lk];exact r.append (ay.rep r n)
theorem ay.erase:∀{vs:List V} {ts:List T} (i:Nat),ay K H B vs ts->ay K H B (vs.eraseIdx i) (ts.eraseIdx i)
 |_,_,_,.nil=>.nil
 |_,_,0,.cons _ r=>r
 |_,_,i+1,.cons h r=>.cons h (ay.erase i r)
theorem ay.bw{i:Int}{t:T}(r:ay K H B vs ts)(e:L2.bw ts i=some t):∃ v,L2.bw vs i=some v/\Rep K H B v t:=by
 unfold L2.bw at e ⊢;rw[r.length]
 cases q:ie ts.length i with
 |none=>rw[q] at e;cases e
 |some j=>rw[q] at e;exact r.get e
end
noncomputable def aR:T->Bool
 |.aC|.bl _|.int _|.str _=>true
 |_=>false
theorem Rep.flat{v:V}{t:T}(h:Rep K H B v t)(f:aR t=true):Rep K H' B' v t:=by
 cases h with
 |aC=>exact .aC
 |bl b=>exact .bl b
 |int i=>exact .int i
 |str x=>exact .str x
 |tup=>cases f
 |dZ=>cases f
 |lst=>cases f
 |ee=>cases f
 |eJ=>cases f
 |n5=>cases f
 |exc=>cases f
 |Ar=>cases f
theorem ay.flat:∀{vs:List V} {ts:List T},ay K H B vs ts->ts.all aR=true->ay K H' B' vs ts
 |_,_,.nil,_=>.nil
 |_,_,.cons h r,f=>by
  rw[Lf,KI] at f;exact .cons (h.flat f.1) (ay.flat r f.2)
noncomputable def Bx(K:Pm)(H:Hp)(B:aX)(a:Addr)(c:T):Prop:=match c with
 |.lst ts=>∃ vs,H a=some (.lst vs)/\ay K H B vs ts
 |.n5 ks ts=>∃ vs,H a=some (.dK (ks.zip vs))/\ks.length=vs.length/\ay K H B vs ts
 |_=>False
theorem Bx.gj(h:Bx K H B a c):∃ o,H a=some o:=by
 unfold Bx at h
 split at h
 ·obtain⟨vs,e,_⟩:=h;exact⟨_,e⟩
 ·obtain⟨vs,e,_⟩:=h;exact⟨_,e⟩
 ·exact h.elim
theorem Bx.of(h:Bx K H B a c)(e:H' a=H a)(f:Fr B H B' H'):Bx K H' B' a c:=by
 unfold Bx at h ⊢
 split at h
 ·obtain⟨vs,q,r⟩:=h;exact⟨vs,e.trans q,r.fr f⟩
 ·obtain⟨vs,q,l,r⟩:=h;exact⟨vs,e.trans q,l,r.fr f⟩
 ·exact h.elim
theorem Bx.is(h:Bx K H B a c):(∃ ts vs,c=.lst ts/\H a=some (.lst vs)/\ay K H B vs ts)\/∃ ks ts vs,c=.n5 ks ts/\H a=some (.dK (ks.zip vs))/\ks.length=vs.length/\ay K H B vs ts:=by
 unfold Bx at h
 split at h
 ·obtain⟨vs,q,r⟩:=h;exact .inl ⟨_,vs,rfl,q,r⟩
 ·obtain⟨vs,q,l,r⟩:=h;exact .inr ⟨_,_,vs,rfl,q,l,r⟩
 ·exact h.elim
theorem Bx.rep(h:Bx K H B a c)(n:¬ B a):Rep K H B (.ref a) c:=by
 rcases h.is with ⟨ts,vs,rfl,e,r⟩|⟨ks,ts,vs,rfl,e,l,r⟩
 ·exact .lst n e r
 ·exact .n5 n (.inl e) l r
inductive Sl where
 |un|tr (t:T)|bx (c:T)|pb (c:T)
abbrev Mu:=List Sl
variable{μ μ' μ1:Mu}{dr:Mu->Mu}
inductive R where
 |tr (t:T)|br (i:Nat)|fr (c:T)
structure Fx where
 K:Pm
 H0:Hp
 P:Nat->Option Addr
 Bc:aX
 bh:∀ b,Bc b->∃ o,H0 b=some o
 G:Addr->Option (List V)
variable{F:Fx}
noncomputable def iY(F:Fx)(ad:Nat->Addr)(B:aX)(H:Hp)(i:Nat)(s:Sl)(x:Option (Option V)):Prop:=match s with
 |.un=>True
 |.tr t=>∃ v,x=some (some v)/\Rep F.K H B v t
 |.bx c=>x=some (some (.ref (ad i)))/\B (ad i)/\F.H0 (ad i)=none/\F.P i=none/\Bx F.K H B (ad i) c
 |.pb c=>x=some (some (.ref (ad i)))/\B (ad i)/\F.P i=some (ad i)/\Bx F.K H B (ad i) c
noncomputable def Sl.box:Sl->Option T
 |.bx c=>some c
 |.pb c=>some c
 |_=>none
structure Rl (F:Fx) (ad:Nat->Addr) (B:aX) (σ:St) (H:Hp) (μ:Mu):Prop where
 len:μ.length=σ.length
 slot:∀ i s,μ[i]?=some s->iY F ad B H i s σ[i]?
 inj:∀ i j s u c d,μ[i]?=some s->μ[j]?=some u->s.box=some c->u.box=some d->ad i=ad j->i=j
 par:∀ i a,F.P i=some a->(∃ c,μ[i]?=some (.pb c))/\ad i=a
 bc:∀ b,F.Bc b->B b
 gj:∀ b,B b->∃ o,H b=some o
 old:∀ b o,F.H0 b=some o->(∀ i,F.P i≠some b)->H b=some o
 gh:∀ a vs,F.G a=some vs->H a=some (.lst vs)/\B a/\∀(i:Nat) (s:Sl) (c:T),μ[i]?=some s->s.box=some c->ad i≠a
theorem iY.boxed{s:Sl}{x:Option (Option V)}(h:iY F ad B H i s x)(e:s.box=some c):x=some (some (.ref (ad i)))/\B (ad i)/\Bx F.K H B (ad i) c/\(F.P i=some (ad i)\/F.H0 (ad i)=none):=by
 unfold iY at h
 split at h
 ·cases e
 ·cases e
 ·cases e;exact⟨h.1,h.2.1,h.2.2.2.2,.inr h.2.2.1⟩
 ·cases e;exact⟨h.1,h.2.1,h.2.2.2,.inl h.2.2.1⟩
noncomputable def Hv(F:Fx)(ad:Nat->Addr)(B:aX)(H:Hp)(μ:Mu)(v:V)(r:R):Prop:=match r with
 |.tr t=>Rep F.K H B v t
 |.br i=>v=.ref (ad i)/\∃ s c,μ[i]?=some s/\s.box=some c
 |.fr _=>False
noncomputable def more(B:aX)(a:Addr):aX:=fun b=>b=a\/B b
noncomputable def Vr(F:Fx)(ad:Nat->Addr)(B:aX)(σ:St)(H:Hp)(μ:Mu)(v:V)(r:R):Prop:=match r with
 |.fr c=>Rl F ad B σ H μ/\∃ a,v=.ref a/\¬ B a/\F.H0 a=none/\Rl F ad (more B a) σ H μ/\Bx F.K H (more B a) a c
 |r=>Rl F ad B σ H μ/\Hv F ad B H μ v r
noncomputable def R.d:R->R
 |.fr c=>.tr c
 |r=>r
section
variable {F:Fx} {ad:Nat->Addr} {B B':aX} {σ:St} {H H':Hp} {μ:Mu} {v:V} {r:R}
theorem Rl.Ay(h:Rl F ad B σ H μ)(e:H p=none):F.H0 p=none:=by
 cases q:F.H0 p with
 |none=>rfl
 |some o =>
  by_cases z:∃ i,F.P i=some p
  ·obtain⟨i,z⟩:=z;obtain⟨⟨c,hc⟩,ha⟩:=h.par i p z;have:=(h.slot i _ hc).boxed (c:=c) rfl;obtain⟨o',e'⟩:=h.gj _ this.2.1;rw[ha,e] at e';cases e'
  ·have:=h.old p o q fun i zi=>z ⟨i,zi⟩;rw[e] at this;cases this
theorem Rl.kB(h:Rl F ad B σ H μ)(e:H p=none):¬ B p:=fun z=>by
 obtain⟨o,q⟩:=h.gj p z;rw[e] at q;cases q
theorem Rl.fr(h:Rl F ad B σ H μ)(s:bL H H')(hB:∀ b,B b->B' b)(hT:∀ b,B' b->∃ o,H' b=some o)(f:Fr B H B' H'):Rl F ad B' σ H' μ:=by
 refine⟨h.len,fun i s' e=>?_,h.inj,h.par,fun b z=>hB b (h.bc b z),hT,fun b o e n=>s b o (h.old b o e n),fun a vs e=>let ⟨g1,g2,g3⟩:=h.gh a vs e;⟨s a _ g1,hB a g2,g3⟩⟩
 have k:=h.slot i s' e;unfold iY at k ⊢
 split at k
 ·trivial
 ·obtain⟨v,e1,r⟩:=k;exact⟨v,e1,r.fr f⟩
 ·obtain⟨e1,b,z,p,x⟩:=k;obtain⟨o,q⟩:=x.gj;exact⟨e1,hB _ b,z,p,x.of ((s _ _ q).trans q.symm) f⟩
 ·obtain⟨e1,b,p,x⟩:=k;obtain⟨o,q⟩:=x.gj;exact⟨e1,hB _ b,p,x.of ((s _ _ q).trans q.symm) f⟩
theorem Rl.same(h:Rl F ad B σ H μ)(s:bL H H'):Rl F ad B σ H' μ:=h.fr s (fun _ z=>z) (fun b z=>let ⟨o,e⟩:=h.gj b z;⟨o,s b o e⟩) (Fr.same s)
theorem Rl.new(h:Rl F ad B σ H μ)(e:H p=none):Rl F ad (more B p) σ (upd H p o) μ:=
 h.fr (bL.new e) (fun _ z=>.inr z) (fun b z=>z.elim (fun q=>by subst q;exact⟨o,az⟩) fun q=>let ⟨u,w⟩:=h.gj b q;⟨u,bL.new e b u w⟩) (Fr.more e)
theorem Rl.less(h:Rl F ad B σ H μ)(s:∀ b,B' b->B b)(hb:∀ b,F.Bc b->B' b)(own:∀ i s' c,μ[i]?=some s'->s'.box=some c->B' (ad i))(hg:∀ a vs,F.G a=some vs->B' a):Rl F ad B' σ H μ:=by
 refine⟨h.len,fun i s' e=>?_,h.inj,h.par,hb,fun b z=>h.gj b (s b z),h.old,fun a vs e=>let ⟨g1,g2,g3⟩:=h.gh a vs e;⟨g1,hg a vs e,g3⟩⟩
 have k:=h.slot i s' e;unfold iY at k ⊢
 split at k
 ·trivial
 ·obtain⟨v,e1,r⟩:=k;exact⟨v,e1,r.fr (Fr.less s)⟩
 ·obtain⟨e1,b,z,p,x⟩:=k;exact⟨e1,own i _ _ e rfl,z,p,x.of rfl (Fr.less s)⟩
 ·obtain⟨e1,b,p,x⟩:=k;exact⟨e1,own i _ _ e rfl,p,x.of rfl (Fr.less s)⟩
theorem Vr.rl(h:Vr F ad B σ H μ v r):Rl F ad B σ H μ:=by
 cases r with
 |tr t=>exact h.1
 |br i=>exact h.1
 |fr c=>exact h.1
theorem Vr.hv(h:Vr F ad B σ H μ v r):Hv F ad B H μ v r.d:=by
 cases r with
 |tr t=>exact h.2
 |br i=>exact h.2
 |fr c =>
  obtain⟨_,a,rfl,n,_,_,x⟩:=h;exact (x.of rfl (Fr.less fun _ z=>.inr z)).rep n
noncomputable def Kp(μ μ':Mu):Prop:=∀ i:Nat,((μ[i]?).bind Sl.box).isSome=((μ'[i]?).bind Sl.box).isSome
theorem Kp.refl(μ:Mu):Kp μ μ:=fun i=>rfl
theorem Kp.trans{μ2:Mu}(a:Kp μ μ1)(b:Kp μ1 μ2):Kp μ μ2:=fun i=>(a i).trans (b i)
theorem Kp.symm(a:Kp μ μ1):Kp μ1 μ:=fun i=>(a i).symm
theorem Kp.fwd(k:Kp μ μ'):∀(i:Nat) (s:Sl) (c:T),μ[i]?=some s->s.box=some c->∃(s':Sl) (c':T),μ'[i]?=some s'/\s'.box=some c':=fun i s c e b=>by
 have h:=k i;rw[e] at h;have h1:(s.box).isSome=((μ'[i]?).bind Sl.box).isSome:=h;rw[b] at h1
 cases q:μ'[i]? with
 |none=>rw[q] at h1;cases h1
 |some s' =>
  rw[q] at h1;have h2:true=(s'.box).isSome:=h1
  cases q2:s'.box with
  |none=>rw[q2] at h2;cases h2
  |some c'=>exact⟨s',c',rfl,q2⟩
theorem Kp.set{s s':Sl}{d:T}(e:μ[i]?=some s)(b:s.box=some c)(b':s'.box=some d):Kp μ (μ.set i s'):=fun j=>by
 have hi:i<μ.length:=(Kf.mp e).1;by_cases z:i=j
 ·subst z;rw[KH hi,e];show (s.box).isSome=(s'.box).isSome;rw[b,b'];rfl
 ·rw[KU z]
theorem Hv.fr(h:Hv F ad B H μ v r)(f:Fr B H B' H')(k:Kp μ μ'):Hv F ad B' H' μ' v r:=by
 cases r with
 |tr t=>exact Rep.fr f h
 |br i=>obtain⟨e,s,c,h1,h2⟩:=h;exact⟨e,k.fwd i s c h1 h2⟩
 |fr c=>exact h.elim
noncomputable def cont(μ:Mu):R->Option T
 |.tr t=>some t
 |.br i=>(μ[i]?).bind Sl.box
 |.fr c=>some c
inductive Vw (K:Pm) (H:Hp) (B:aX):V->T->Prop
 |aC:Vw K H B .aC .aC
 |bl (b:Bool):Vw K H B (.bl b) (.bl b)
 |int (i:Int):Vw K H B (.int i) (.int i)
 |str (x:Str):Vw K H B (.str x) (.str x)
 |tup {a:Addr} {vs:List V} {ts:List T} (h:H a=some (.tup vs)) (r:ay K H B vs ts):Vw K H B (.ref a) (.tup ts)
 |dZ {a:Addr} {vs:List V} {ts:List T} (h:Hf K a vs) (r:ay K H B vs ts):Vw K H B (.ref a) (.dZ ts)
 |lst {a:Addr} {vs:List V} {ts:List T} (h:H a=some (.lst vs)) (r:ay K H B vs ts):Vw K H B (.ref a) (.lst ts)
 |ee {a:Addr} {vs:List V} {ts:List T} (h:cx K H a vs) (r:ay K H B vs ts):Vw K H B (.ref a) (.ee ts)
 |eJ {a:Addr} {lo hi:Int} (h:H a=some (.eJ lo hi)):Vw K H B (.ref a) (.eJ lo hi)
 |n5 {a:Addr} {ks:List Key} {vs:List V} {ts:List T} (h:Rd H a (.dK (ks.zip vs))) (l:ks.length=vs.length) (r:ay K H B vs ts):Vw K H B (.ref a) (.n5 ks ts)
 |exc {a:Addr} {c:Value} (h:H a=some (.ext (kF a c none))):Vw K H B (.ref a) (.exc c none)
 |Ar {a d:Addr} {c:Value} {x:Str} {i:Int} (h:H a=some (.ext (kF a c (some d)))) (g:H d=some (.xd [(x,.int i)])):Vw K H B (.ref a) (.exc c (some (x,i)))
theorem Rep.vw{t:T}(h:Rep K H B v t):Vw K H B v t:=by
 cases h with
 |aC=>exact .aC
 |bl b=>exact .bl b
 |int i=>exact .int i
 |str x=>exact .str x
 |tup n h r=>exact .tup h r
 |dZ h r=>exact .dZ h r
 |lst n h r=>exact .lst h r
 |ee h r=>exact .ee h.sq r
 |eJ n h=>exact .eJ h
 |n5 n h l r=>exact .n5 h l r
 |exc n h=>exact .exc h
 |Ar n h m g=>exact .Ar h g
theorem Hv.vw{t:T}(l:Rl F ad B σ H μ)(h:Hv F ad B H μ v r)(e:cont μ r=some t):Vw F.K H B v t:=by
 cases r with
 |tr u=>cases e;exact Rep.vw h
 |br i =>
  obtain⟨rfl,s,c,h1,h2⟩:=h;have e2:(μ[i]?).bind Sl.box=some t:=e;rw[h1] at e2;have e':s.box=some t:=e2;rcases ((l.slot i s h1).boxed e').2.2.1.is with ⟨ts,vs,rfl,q,rr⟩|⟨ks,ts,vs,rfl,q,ll,rr⟩
  ·exact .lst q rr
  ·exact .n5 (.inl q) ll rr
 |fr c=>exact h.elim
noncomputable def Sl.put:Sl->T->Sl
 |.bx _,c=>.bx c
 |.pb _,c=>.pb c
 |s,_=>s
theorem Sl.jg{s:Sl}{d:T}(e:s.box=some c):(s.put d).box=some d:=by
 cases s<;>first|rfl|cases e
theorem Rl.put{s:Sl}(l:Rl F ad B σ H μ)(e:μ[i]?=some s)(hb:s.box=some c)(r:ay F.K H B vs ts):Rl F ad B σ (upd H (ad i) (.lst vs)) (μ.set i (s.put (.lst ts))):=by
 have k0:=(l.slot i s e).boxed hb;have hi:i<μ.length:=(Kf.mp e).1;have f:Fr B H B (upd H (ad i) (.lst vs)):=Fr.set k0.2.1;have get:∀ j,(μ.set i (s.put (.lst ts)))[j]?=if j=i then some (s.put (.lst ts)) else μ[j]?:=fun j=>by
  rw[MS];by_cases z:i=j
  ·subst z;simp[hi]
  ·rw[JZ z,JZ (fun q=>z q.symm)]
 refine⟨by rw[K_];exact l.len,fun j s' e'=>?_,fun j k s1 s2 c1 c2 e1 e2 b1 b2 q=>?_,fun j a p=>?_,l.bc,fun b z=>?_,fun b o e' n=>?_,fun a ws ga=>?_⟩
 ·rw[get] at e';by_cases z:j=i
  ·subst z;rw[Ke rfl] at e';cases e';have k:=l.slot j s e
   cases s with
   |un=>cases hb
   |tr t=>cases hb
   |bx d=>exact⟨k.1,k.2.1,k.2.2.1,k.2.2.2.1,vs,az,r.fr f⟩
   |pb d=>exact⟨k.1,k.2.1,k.2.2.1,vs,az,r.fr f⟩
  ·rw[JZ z] at e';have k:=l.slot j s' e';have ne:∀ d,s'.box=some d->ad j≠ad i:=fun d hd q=>z (l.inj j i s' s d c e' e hd hb q);unfold iY at k ⊢
   split at k
   ·trivial
   ·obtain⟨v,e1,r1⟩:=k;exact⟨v,e1,r1.fr f⟩
   ·obtain⟨e1,b,z0,p,x⟩:=k;exact⟨e1,b,z0,p,x.of (aj (ne _ rfl)) f⟩
   ·obtain⟨e1,b,p,x⟩:=k;exact⟨e1,b,p,x.of (aj (ne _ rfl)) f⟩
 ·rw[get] at e1 e2;have h1:∃ u d,μ[j]?=some u/\u.box=some d:=by
   by_cases z:j=i
   ·subst z;exact⟨s,c,e,hb⟩
   ·rw[JZ z] at e1;exact⟨_,_,e1,b1⟩
  have h2:∃ u d,μ[k]?=some u/\u.box=some d:=by
   by_cases z:k=i
   ·subst z;exact⟨s,c,e,hb⟩
   ·rw[JZ z] at e2;exact⟨_,_,e2,b2⟩
  obtain⟨u1,d1,g1,g2⟩:=h1;obtain⟨u2,d2,g3,g4⟩:=h2;exact l.inj j k u1 u2 d1 d2 g1 g3 g2 g4 q
 ·obtain⟨⟨d,hd⟩,ha⟩:=l.par j a p;refine⟨?_,ha⟩;rw[get];by_cases z:j=i
  ·subst z;rw[e] at hd;cases hd;rw[Ke rfl];exact⟨_,rfl⟩
  ·rw[JZ z];exact⟨d,hd⟩
 ·by_cases z':b=ad i
  ·subst z';exact⟨_,az⟩
  ·rw[aj z'];exact l.gj b z
 ·have ne:b≠ad i:=by
   rintro rfl;rcases k0.2.2.2 with z|z
   ·exact n i z
   ·rw[z] at e';cases e'
  rw[aj ne];exact l.old b o e' n
 ·obtain⟨g1,g2,g3⟩:=l.gh a ws ga;refine⟨by rw[aj (fun z=>g3 i s c e hb z.symm)];exact g1,g2,fun j s' d e' b'=>?_⟩
  rw[get] at e';by_cases z:j=i
  ·subst z;exact g3 j s c e hb
  ·rw[JZ z] at e';exact g3 j s' d e' b'
theorem Rl.C4{t:T}(l:Rl F ad B σ H μ)(hp:∀ c,μ[i]?≠some (.pb c))(h:Rep F.K H B v t):Rl F ad B (σ.set i (some v)) H (μ.set i (.tr t)):=by
 have get:∀ j,i<μ.length->(μ.set i (.tr t))[j]?=if j=i then some (.tr t) else μ[j]?:=fun j hi=>by
  rw[MS];by_cases z:i=j
  ·subst z;simp[hi]
  ·rw[JZ z,JZ (fun q=>z q.symm)]
 by_cases hi:i<μ.length
 ·refine⟨by rw[K_,K_];exact l.len,fun j s' e'=>?_,fun j k s1 s2 c1 c2 e1 e2 b1 b2 q=>?_,fun j a p=>?_,l.bc,l.gj,l.old,fun a ws ga=>?_⟩
  ·rw[get j hi] at e';by_cases z:j=i
   ·subst z;rw[Ke rfl] at e';cases e';exact⟨v,by rw[KH (by rw[<- l.len];exact hi)],h⟩
   ·rw[JZ z] at e';rw[KU (Ne.symm z)];exact l.slot j s' e'
  ·rw[get j hi] at e1;rw[get k hi] at e2;by_cases z:j=i
   ·rw[Ke z] at e1;cases e1;cases b1
   ·by_cases z2:k=i
    ·rw[Ke z2] at e2;cases e2;cases b2
    ·rw[JZ z] at e1;rw[JZ z2] at e2;exact l.inj j k _ _ _ _ e1 e2 b1 b2 q
  ·obtain⟨⟨d,hd⟩,ha⟩:=l.par j a p;refine⟨⟨d,?_⟩,ha⟩;rw[get j hi];by_cases z:j=i
   ·subst z;exact absurd hd (hp d)
   ·rw[JZ z];exact hd
  ·obtain⟨g1,g2,g3⟩:=l.gh a ws ga;refine⟨g1,g2,fun j s' d e' b'=>?_⟩;rw[get j hi] at e';by_cases z:j=i
   ·rw[Ke z] at e';cases e';cases b'
   ·rw[JZ z] at e';exact g3 j s' d e' b'
 ·have hs:σ.length<=i:=by rw[<- l.len];lia
  rw[Mj (show μ.length<=i by lia),Mj hs]
  exact l
theorem Rl.setB(l:Rl F ad (more B a) σ H μ)(hp:∀ c,μ[i]?≠some (.pb c))(h0:F.H0 a=none)(n:¬ B a)(own:∀ j s c,μ[j]?=some s->s.box=some c->B (ad j))(gB:∀ b vs,F.G b=some vs->B b)(x:Bx F.K H (more B a) a c):
  Rl F (fun j=>if j=i then a else ad j) (more B a) (σ.set i (some (.ref a))) H (μ.set i (.bx c)):=by
 have get:∀ j,i<μ.length->(μ.set i (.bx c))[j]?=if j=i then some (.bx c) else μ[j]?:=fun j hi=>by
  rw[MS];by_cases z:i=j
  ·subst z;simp[hi]
  ·rw[JZ z,JZ (fun q=>z q.symm)]
 have pi:F.P i=none:=by
  cases q:F.P i with
  |none=>rfl
  |some b =>
   obtain⟨⟨d,hd⟩,_⟩:=l.par i b q;exact absurd hd (hp d)
 by_cases hi:i<μ.length
 ·refine⟨by rw[K_,K_];exact l.len,fun j s' e'=>?_,fun j k s1 s2 c1 c2 e1 e2 b1 b2 q=>?_,fun j a' p=>?_,l.bc,l.gj,l.old,fun b ws ga=>?_⟩
  ·rw[get j hi] at e';by_cases z:j=i
   ·subst z;rw[Ke rfl] at e';cases e';show _/\_;simp only[Ke];exact⟨by rw[KH (by rw[<- l.len];exact hi)],.inl rfl,h0,pi,x⟩
   ·rw[JZ z] at e';rw[KU (Ne.symm z)];have k:=l.slot j s' e';unfold iY at k ⊢;simp only[JZ z];exact k
  ·rw[get j hi] at e1;rw[get k hi] at e2;by_cases z:j=i
   ·by_cases z2:k=i
    ·rw[z,z2]
    ·rw[Ke z,JZ z2] at q;rw[JZ z2] at e2;exact absurd (own k _ _ e2 b2) (by rw[<- q];exact n)
   ·by_cases z2:k=i
    ·rw[Ke z2,JZ z] at q;rw[JZ z] at e1;exact absurd (own j _ _ e1 b1) (by rw[q];exact n)
    ·rw[JZ z] at e1;rw[JZ z2] at e2;rw[JZ z,JZ z2] at q;exact l.inj j k _ _ _ _ e1 e2 b1 b2 q
  ·obtain⟨⟨d,hd⟩,ha⟩:=l.par j a' p;have z:j≠i:=by rintro rfl;exact hp d hd
   rw[get j hi,JZ z];exact⟨⟨d,hd⟩,by simp only[JZ z];exact ha⟩
  ·obtain⟨g1,g2,g3⟩:=l.gh b ws ga;refine⟨g1,g2,fun j s' d e' b'=>?_⟩;rw[get j hi] at e';by_cases z:j=i
   ·simp only[Ke z];rintro rfl;exact n (gB _ ws ga)
   ·rw[JZ z] at e';simp only[JZ z];exact g3 j s' d e' b'
 ·have hs:σ.length<=i:=by rw[<- l.len];lia
  rw[Mj (show μ.length<=i by lia),Mj hs]
  have ne:∀ j s,μ[j]?=some s->j≠i:=fun j s e q=>by
   have:=(Kf.mp e).1;lia
  refine⟨l.len,fun j s' e'=>?_,fun j k s1 s2 c1 c2 e1 e2 b1 b2 q=>?_,fun j a' p=>?_,l.bc,l.gj,l.old,fun b ws ga=>?_⟩
  ·have k:=l.slot j s' e';unfold iY at k ⊢;simp only[JZ (ne j s' e')];exact k
  ·simp only[JZ (ne j _ e1),JZ (ne k _ e2)] at q;exact l.inj j k _ _ _ _ e1 e2 b1 b2 q
  ·obtain⟨⟨d,hd⟩,ha⟩:=l.par j a' p;exact⟨⟨d,hd⟩,by simp only[JZ (ne j _ hd)];exact ha⟩
  ·obtain⟨g1,g2,g3⟩:=l.gh b ws ga;refine⟨g1,g2,fun j s' d e' b'=>?_⟩;simp only[JZ (ne j _ e')];exact g3 j s' d e' b'
theorem Rl.gB(l:Rl F ad B σ H μ):∀ b vs,F.G b=some vs->B b:=fun b vs e=>(l.gh b vs e).2.1
theorem Rl.own(l:Rl F ad B σ H μ):∀ j s c,μ[j]?=some s->s.box=some c->B (ad j):=fun j s c e b=>((l.slot j s e).boxed b).2.1
theorem Rl.freeze(l:Rl F ad B σ H μ)(e:μ[i]?=some (.bx c))(hc:¬ F.Bc (ad i)):Rl F ad (fun b=>B b/\b≠ad i) σ H (μ.set i (.tr c))/\Rep F.K H (fun b=>B b/\b≠ad i) (.ref (ad i)) c:=by
 have k0:=l.slot i _ e;have hi:i<μ.length:=(Kf.mp e).1;have rp:Rep F.K H (fun b=>B b/\b≠ad i) (.ref (ad i)) c:=((k0.2.2.2.2).of rfl (Fr.less fun _ z=>z.1)).rep (fun z=>z.2 rfl);have get:∀ j,(μ.set i (.tr c))[j]?=if j=i then some (.tr c) else μ[j]?:=fun j=>by
  rw[MS];by_cases z:i=j
  ·subst z;simp[hi]
  ·rw[JZ z,JZ (fun q=>z q.symm)]
 have pi:F.P i=none:=k0.2.2.2.1;refine⟨⟨by rw[K_];exact l.len,fun j s' e'=>?_,fun j k s1 s2 c1 c2 e1 e2 b1 b2 q=>?_,fun j a p=>?_,fun b z=>⟨l.bc b z,by rintro rfl;exact hc z⟩,fun b z=>l.gj b z.1,l.old,fun a ws ga=>?_⟩,rp⟩
 ·rw[get] at e';by_cases z:j=i
  ·subst z;rw[Ke rfl] at e';cases e';exact⟨_,k0.1,rp⟩
  ·rw[JZ z] at e';have k:=l.slot j s' e';have ne:∀ d,s'.box=some d->ad j≠ad i:=fun d hd q=>z (l.inj j i s' _ d c e' e hd rfl q);unfold iY at k ⊢
   split at k
   ·trivial
   ·obtain⟨v,e1,r1⟩:=k;exact⟨v,e1,r1.fr (Fr.less fun _ z=>z.1)⟩
   ·obtain⟨e1,b,z0,p,x⟩:=k;exact⟨e1,⟨b,ne _ rfl⟩,z0,p,x.of rfl (Fr.less fun _ z=>z.1)⟩
   ·obtain⟨e1,b,p,x⟩:=k;exact⟨e1,⟨b,ne _ rfl⟩,p,x.of rfl (Fr.less fun _ z=>z.1)⟩
 ·rw[get] at e1 e2;by_cases z:j=i
  ·rw[Ke z] at e1;cases e1;cases b1
  ·by_cases z2:k=i
   ·rw[Ke z2] at e2;cases e2;cases b2
   ·rw[JZ z] at e1;rw[JZ z2] at e2;exact l.inj j k _ _ _ _ e1 e2 b1 b2 q
 ·obtain⟨⟨d,hd⟩,ha⟩:=l.par j a p;refine⟨⟨d,?_⟩,ha⟩;rw[get];by_cases z:j=i
  ·subst z;rw[pi] at p;cases p
  ·rw[JZ z];exact hd
 ·obtain⟨g1,g2,g3⟩:=l.gh a ws ga;refine⟨g1,⟨g2,(g3 i _ c e rfl).symm⟩,fun j s' d e' b'=>?_⟩;rw[get] at e';by_cases z:j=i
  ·rw[Ke z] at e';cases e';cases b'
  ·rw[JZ z] at e';exact g3 j s' d e' b'
end
abbrev UE:=Mu->(R->Mu->Prop)->Prop
variable{ue:UE}
abbrev UT:=Mu->(Bool->Mu->Prop)->Prop
abbrev UA:=Mu->(List R->Mu->Prop)->Prop
variable{us:UA}
abbrev UO:=Mu->(Option Int->Mu->Prop)->Prop
abbrev U2:=R->R->Mu->(R->Mu->Prop)->Prop
variable{u:U2}
abbrev UC:=List R->Mu->(R->Mu->Prop)->Prop
structure Ed where
 nx:Mu->Prop
 rt:R->Mu->Prop
 bk:Mu->Prop:=fun _=>False
 ct:Mu->Prop:=fun _=>False
abbrev US:=Ed->Mu->Prop
noncomputable def Bv(B:aX)(v:V):R->aX
 |.fr _=>(match v with|.ref a=>more B a|_=>B)
 |_=>B
theorem Fr.d{v:V}{r:R}(f:Fr B H (Bv B v r) H'):Fr B H B H':=fun b o h n=>⟨(f b o h n).1,n⟩
noncomputable def RE(K:Pm)(te:TE)(ue:UE):Prop:=∀(F:Fx) (ad:Nat->Addr) (B:aX) (σ:St) (H:Hp) (μ:Mu) (Q:VK) (Qt:R->Mu->Prop),F.K=K->Rl F ad B σ H μ->ue μ Qt ->
 (∀ v H' r μ',Vr F ad B σ H' μ' v r->Fr B H (Bv B v r) H'->Kp μ μ'->Qt r μ'->Q v H')->te σ H Q
noncomputable def RT(K:Pm)(tt:TT)(ut:UT):Prop:=∀(F:Fx) (ad:Nat->Addr) (B:aX) (σ:St) (H:Hp) (μ:Mu) (Q:Bool->Hp->Prop) (Qt:Bool->Mu->Prop),F.K=K->Rl F ad B σ H μ->ut μ Qt ->
 (∀ b H' μ',Rl F ad B σ H' μ'->Fr B H B H'->Kp μ μ'->Qt b μ'->Q b H')->tt σ H Q
noncomputable def RA(K:Pm)(ta:TA)(ua:UA):Prop:=∀(F:Fx) (ad:Nat->Addr) (B:aX) (σ:St) (H:Hp) (μ:Mu) (Q:List V->Hp->Prop) (Qt:List R->Mu->Prop),F.K=K->Rl F ad B σ H μ->ua μ Qt ->
 (∀ vs H' rs μ',Rl F ad B σ H' μ'->Paired (Hv F ad B H' μ') vs rs->Fr B H B H'->Kp μ μ'->Qt rs μ'->Q vs H')->ta σ H Q
noncomputable def RO(K:Pm)(tt:TO)(ut:UO):Prop:=∀(F:Fx) (ad:Nat->Addr) (B:aX) (σ:St) (H:Hp) (μ:Mu) (Q:Option Int->Hp->Prop) (Qt:Option Int->Mu->Prop),F.K=K->Rl F ad B σ H μ->ut μ Qt ->
 (∀ b H' μ',Rl F ad B σ H' μ'->Fr B H B H'->Kp μ μ'->Qt b μ'->Q b H')->tt σ H Q
noncomputable def ib(K:Pm)(r:R2)(u:U2):Prop:=∀(F:Fx) (ad:Nat->Addr) (B:aX) (σ:St) (H:Hp) (μ:Mu) (Q:VK) (Qt:R->Mu->Prop) (x y:V) (r1 r2:R),F.K=K->Rl F ad B σ H μ->Hv F ad B H μ x r1->Hv F ad B H μ y r2->u r1 r2 μ Qt ->
 (∀ v H' r μ',Vr F ad B σ H' μ' v r->Fr B H (Bv B v r) H'->Kp μ μ'->Qt r μ'->Q v H')->r x y H Q
noncomputable def RC(K:Pm)(r:List V->Hp->VK->Prop)(u:UC):Prop:=∀(F:Fx) (ad:Nat->Addr) (B:aX) (σ:St) (H:Hp) (μ:Mu) (Q:VK) (Qt:R->Mu->Prop) (xs:List V) (rs:List R),F.K=K->Rl F ad B σ H μ->Paired (Hv F ad B H μ) xs rs->u rs μ Qt ->
 (∀ v H' r μ',Vr F ad B σ H' μ' v r->Fr B H (Bv B v r) H'->Kp μ μ'->Qt r μ'->Q v H')->r xs H Q
section
variable {F:Fx} {ad:Nat->Addr} {B:aX} {σ:St} {H:Hp} {μ:Mu} {Q:VK} {Qt:R->Mu->Prop}
theorem Vr.flat{v:V}{t:T}(l:Rl F ad B σ H μ)(r:Rep F.K H B v t):Vr F ad B σ H μ v (.tr t):=⟨l,r⟩
theorem Vr.ip(l:Rl F ad B σ H μ)(r:ay F.K H B vs ts)(e:H p=none):Vr F ad B σ (upd H p (.lst vs)) μ (.ref p) (.fr (.lst ts)):=
 ⟨l.same (bL.new e),p,rfl,l.kB e,l.Ay e,l.new e,vs,az,r.fr (Fr.more e)⟩
theorem Vr.t8(l:Rl F ad B σ H μ)(r:ay F.K H B vs ts)(e:H p=none):Vr F ad B σ (upd H p (.tup vs)) μ (.ref p) (.tr (.tup ts)):=
 ⟨l.same (bL.new e),.tup (l.kB e) az (r.fr (Fr.same (bL.new e)))⟩
end
structure YE (X:Cx) (e:Expr) (u:UE):Prop where
 ex:∃ t,QE X e t/\RE X.K t u
structure YT (X:Cx) (e:Expr) (u:UT):Prop where
 ex:∃ t,QT X e t/\RT X.K t u
structure YW (X:Cx) (e:Expr) (u:UT):Prop where
 ex:∃ t,QW X e t/\RT X.K t u
structure YA (X:Cx) (es:List Expr) (u:UA):Prop where
 ex:∃ t,QA X es t/\RA X.K t u
structure YO (X:Cx) (e:Option Expr) (u:UO):Prop where
 ex:∃ t,QO X e t/\RO X.K t u
structure Bh (X:Cx) (es:List Expr) (u:UT):Prop where
 ex:∃ t,Ew X es t/\RT X.K t u
namespace Y
noncomputable def uC(t:T):UE:=fun μ Q=>Q (.tr t) μ
noncomputable def mQ(i:Nat):UE:=fun μ Q=>match μ[i]? with
 |some (.tr t)=>Q (.tr t) μ
 |some (.bx _)=>Q (.br i) μ
 |some (.pb _)=>Q (.br i) μ
 |_=>False
noncomputable def n8(u:U2)(ua ub:UE):UE:=fun μ Q=>ua μ fun r1 μ1=>ub μ1 fun r2 μ2=>u r1.d r2.d μ2 Q
section
variable {X:Cx} {a b c e o:Expr} {es rest:List Expr} {ua ub uc ue uo:UE} {uA uB:UT} {us:UA} {pos p p2:Pos} {x:Str}
theorem x8{v:V}{t:T}(h:∀ H B,Rep K H B v t):RE K (tC v) (uC t):=fun F ad B σ H μ Q Qt hK l q k=>k v H (.tr t) μ ⟨l,show Rep F.K H B v t from hK ▸ h H B⟩ Fr.refl (Kp.refl μ) q
theorem int{i:Int}:YE X (.Constant (.int i) j pos) (uC (.int i)):=⟨_,Z.int,x8 fun _ _=>.int i⟩
theorem bl{i:Bool}:YE X (.Constant (.bool i) j pos) (uC (.bl i)):=⟨_,Z.bl,x8 fun _ _=>.bl i⟩
theorem aC:YE X (.Constant .none j pos) (uC .aC):=⟨_,Z.aC,x8 fun _ _=>.aC⟩
theorem str{i:Str}:YE X (.Constant (.str i) j pos) (uC (.str i)):=⟨_,Z.str,x8 fun _ _=>.str i⟩
theorem v(i:Nat)(hN:autoParam (X.N[i]?=some x) ℜ0)(hv:autoParam (D4 X.env.scope x) ℜ4)(hd:autoParam ((x ==("__debug__":Str))=false) ℜ1)
  (hcd:autoParam ((x ==("__classdict__":Str))=false) ℜ1):YE X (.Name x pos) (mQ i):=by
 refine⟨_,Z.v i hN hv hd hcd,fun F ad B σ H μ Q Qt hK l q k=>?_⟩;unfold mQ at q
 split at q
 ·rename_i t e;obtain⟨v,e1,r⟩:=l.slot i _ e;exact⟨v,e1,k v H (.tr t) μ ⟨l,r⟩ Fr.refl (Kp.refl μ) q⟩
 ·rename_i t e;have r:=l.slot i _ e;exact⟨_,r.1,k _ H (.br i) μ ⟨l,rfl,_,_,e,rfl⟩ Fr.refl (Kp.refl μ) q⟩
 ·rename_i t e;have r:=l.slot i _ e;exact⟨_,r.1,k _ H (.br i) μ ⟨l,rfl,_,_,e,rfl⟩ Fr.refl (Kp.refl μ) q⟩
 ·exact q.elim
theorem glob{w:V}{u:Value}{t:T}(hg:Gl X x)(hm:X.mg x=some u)(r:RelV w u)(h:∀ H B,Rep X.K H B w t)(hd:autoParam ((x ==("__debug__":Str))=false) ℜ1):YE X (.Name x pos) (uC t):=⟨_,Z.glob hg hm r hd,x8 h⟩
theorem r_{r:R2}{ta tb:TE}(h:ib K r u)(ha:RE K ta ua)(hb:RE K tb ub):RE K (zp r ta tb) (n8 u ua ub):=fun F ad B σ H μ Q Qt hK l q k =>
 ha F ad B σ H μ _ _ hK l q fun x H1 r1 μ1 v1 f1 k1 q1=>hb F ad B σ H1 μ1 _ _ hK v1.rl q1 fun y H2 r2 μ2 v2 f2 k2 q2 =>
  h F ad B σ H2 μ2 _ _ x y r1.d r2.d hK v2.rl (v1.hv.fr f2.d k2) v2.hv q2 fun v H' r μ' v3 f3 k3 q3=>k v H' r μ' v3 ((f1.d.trans f2.d).trans f3) ((k1.trans k2).trans k3) q3
theorem op{o:Operator}{r:R2}(ho:cK X (binaryOp o) r)(h:ib X.K r u)(ha:YE X a ua)(hb:YE X b ub):YE X (.BinOp a o b pos) (n8 u ua ub):=by
 obtain⟨ta,qa,ra⟩:=ha;obtain⟨tb,qb,rb⟩:=hb;exact⟨_,Z.op ho qa qb,r_ h ra rb⟩
theorem cmp{o:CmpOp}{r:R2}(ho:cK X (compareOp o) r)(h:ib X.K r u)(ha:YE X a ua)(hb:YE X b ub)(hm:autoParam (behindInMarks o b=false) ℜ0):YE X (.Compare a [o] [b] pos) (n8 u ua ub):=by
 obtain⟨ta,qa,ra⟩:=ha;obtain⟨tb,qb,rb⟩:=hb;exact⟨_,Z.cmp ho qa qb hm,r_ h ra rb⟩
theorem ix{r:R2}(hr:uY X r)(h:ib X.K r u)(ha:YE X a ua)(hb:YE X b ub)(hs:autoParam (Z.sim b=true) ℜ0):YE X (.Subscript a b pos) (n8 u ua ub):=by
 obtain⟨ta,qa,ra⟩:=ha;obtain⟨tb,qb,rb⟩:=hb;exact⟨_,Z.ix hr qa qb hs,r_ h ra rb⟩
noncomputable def jF(ue:UE):UT:=fun μ Q=>ue μ fun r μ'=>match r with
 |.tr (.bl b)=>Q b μ'
 |_=>False
theorem zv{t:TE}(h:RE K t ue):RT K (xN t) (jF ue):=fun F ad B σ H μ Q Qt hK l q k =>
 h F ad B σ H μ _ _ hK l q fun v H' r μ' v1 f k1 q1=>by
  split at q1
  ·rename_i b;have rp:=v1.2;cases rp;exact⟨b,rfl,k b H' μ' v1.rl f.d k1 q1⟩
  ·exact q1.elim
theorem aV{o:CmpOp}{r:R2}(ho:cK X (compareOp o) r)(h:ib X.K r u)(ha:YE X a ua)(hb:YE X b ub)(hm:autoParam (behindInMarks o b=false) ℜ0):YT X (.Compare a [o] [b] pos) (jF (n8 u ua ub)):=by
 obtain⟨ta,qa,ra⟩:=ha;obtain⟨tb,qb,rb⟩:=hb;exact⟨_,Z.aV ho qa qb hm,zv (r_ h ra rb)⟩
noncomputable def jI(u u':U2)(ua ub uc:UE):UE:=fun μ Q=>ua μ fun r1 μ1=>ub μ1 fun r2 μ2=>u r1.d r2.d μ2 fun z μ3=>match z with
 |.tr (.bl true)=>uc μ3 fun r3 μ4=>u' r2.d r3.d μ4 Q
 |.tr (.bl false)=>Q (.tr (.bl false)) μ3
 |_=>False
theorem xK{r:R2}{u':U2}{ta tb tc:TE}(h:ib K r u)(h':ib K r' u')(ha:RE K ta ua)(hb:RE K tb ub)(hc:RE K tc uc):RE K (qA r r' ta tb tc) (jI u u' ua ub uc):=fun F ad B σ H μ Q Qt hK l q k =>
 ha F ad B σ H μ _ _ hK l q fun x H1 r1 μ1 v1 f1 k1 q1=>hb F ad B σ H1 μ1 _ _ hK v1.rl q1 fun y H2 r2 μ2 v2 f2 k2 q2 =>
  h F ad B σ H2 μ2 _ _ x y r1.d r2.d hK v2.rl (v1.hv.fr f2.d k2) v2.hv q2 fun v H3 r3 μ3 v3 f3 k3 q3=>by
   split at q3
   ·have rp:=v3.2;cases rp;refine⟨true,rfl,?_⟩;rw[Ke rfl];exact hc F ad B σ H3 μ3 _ _ hK v3.rl q3 fun w' H4 r4 μ4 v4 f4 k4 q4=>h' F ad B σ H4 μ4 _ _ y w' r2.d r4.d hK v4.rl (v2.hv.fr (f3.d.trans f4.d) (k3.trans k4)) v4.hv q4 fun v5 H5 r5 μ5 v6 f5 k5 q5 =>
     k v5 H5 r5 μ5 v6 ((((f1.d.trans f2.d).trans f3.d).trans f4.d).trans f5) ((((k1.trans k2).trans k3).trans k4).trans k5) q5
   ·have rp:=v3.2;cases rp;refine⟨false,rfl,?_⟩;rw[JZ Ka];exact k _ H3 _ μ3 (Vr.flat v3.rl (.bl false)) ((f1.d.trans f2.d).trans f3.d) ((k1.trans k2).trans k3) q3
   ·exact q3.elim
theorem chain{o o':CmpOp}{r:R2}{u':U2}(ho:cK X (compareOp o) r)(h:ib X.K r u)(ho':cK X (compareOp o') r')(h':ib X.K r' u')(ha:YE X a ua)(hb:YE X b ub)(hc:YE X c uc)(hm:autoParam (lastMarks [o,o'] [b,c]=false) ℜ5):YE X (.Compare a [o,o'] [b,c] pos) (jI u u' ua ub uc):=by
 obtain⟨ta,qa,ra⟩:=ha;obtain⟨tb,qb,rb⟩:=hb;obtain⟨tc,qc,rc⟩:=hc;exact⟨_,Z.chain ho ho' qa qb qc hm,xK h h' ra rb rc⟩
noncomputable def zH(ut:UT):UT:=fun μ Q=>ut μ fun b μ'=>Q (!b) μ'
theorem mO(ha:YT X a uA):YT X (.UnaryOp .Not a pos) (zH uA):=by
 obtain⟨ta,qa,ra⟩:=ha;exact⟨_,Z.mO qa,fun F ad B σ H μ Q Qt hK l q k=>ra F ad B σ H μ _ _ hK l q fun b H' μ' l' f k1 q1=>k _ H' μ' l' f k1 q1⟩
theorem tw(h:YW X e uA):YT X e uA:=by
 obtain⟨t,q,r⟩:=h;exact⟨t,Z.tw q,r⟩
theorem lh(ha:YT X a uA):YW X (.BoolOp .And [a] pos) uA:=by obtain⟨t,q,r⟩:=ha;exact⟨t,Z.lh q,r⟩
theorem qC(ha:YT X a uA):YW X (.BoolOp .Or [a] pos) uA:=by obtain⟨t,q,r⟩:=ha;exact⟨t,Z.qC q,r⟩
noncomputable def xy(u w:UT):UT:=fun μ Q=>u μ fun b μ'=>if b=true then w μ' Q else Q false μ'
noncomputable def EE(u w:UT):UT:=fun μ Q=>u μ fun b μ'=>if b=true then Q true μ' else w μ' Q
theorem Cf{t u:TT}(ha:RT K t uA)(hb:RT K u uB):RT K (D9 t u) (xy uA uB):=fun F ad B σ H μ Q Qt hK l q k=>ha F ad B σ H μ _ _ hK l q fun b H' μ' l' f k1 q1=>by
 cases b with
 |true=>rw[Ke rfl] at q1 ⊢;exact hb F ad B σ H' μ' _ _ hK l' q1 fun b2 H2 μ2 l2 f2 k2 q2=>k b2 H2 μ2 l2 (f.trans f2) (k1.trans k2) q2
 |false=>rw[JZ Ka] at q1 ⊢;exact k _ H' μ' l' f k1 q1
theorem FV{t u:TT}(ha:RT K t uA)(hb:RT K u uB):RT K (Ja t u) (EE uA uB):=fun F ad B σ H μ Q Qt hK l q k=>ha F ad B σ H μ _ _ hK l q fun b H' μ' l' f k1 q1=>by
 cases b with
 |false=>rw[JZ Ka] at q1 ⊢;exact hb F ad B σ H' μ' _ _ hK l' q1 fun b2 H2 μ2 l2 f2 k2 q2=>k b2 H2 μ2 l2 (f.trans f2) (k1.trans k2) q2
 |true=>rw[Ke rfl] at q1 ⊢;exact k _ H' μ' l' f k1 q1
theorem tO(ha:YT X a uA)(hb:YW X (.BoolOp .And (b::rest) pos) uB):YW X (.BoolOp .And (a::b::rest) pos) (xy uA uB):=by
 obtain⟨t,q,r⟩:=ha;obtain⟨t',q',r'⟩:=hb;exact⟨_,Z.tO q q',Cf r r'⟩
theorem Br(ha:YT X a uA)(hb:YW X (.BoolOp .Or (b::rest) pos) uB):YW X (.BoolOp .Or (a::b::rest) pos) (EE uA uB):=by
 obtain⟨t,q,r⟩:=ha;obtain⟨t',q',r'⟩:=hb;exact⟨_,Z.Br q q',FV r r'⟩
noncomputable def oE(ue:UE):UT:=fun μ Q=>ue μ fun r μ'=>match r with
 |.tr (.bl b)=>Q b μ'
 |.tr (.int i)=>Q (i != 0) μ'
 |_=>False
theorem CT(K:Pm)(hK:X.K=K)(ha:YE X a ua)(he:autoParam (Z.He a=true) ℜ0):YT X a (oE ua):=by
 obtain⟨t,q,r⟩:=ha;refine⟨_,Z.CT K hK q he,fun F ad B σ H μ Q Qt hK l q k=>r F ad B σ H μ _ _ hK l q fun v H' r1 μ' v1 f k1 q1=>?_⟩
 split at q1
 ·have rp:=v1.2;cases rp;exact⟨_,(Ap.Hz ..).symm ▸ rfl,k _ H' μ' v1.rl f.d k1 q1⟩
 ·have rp:=v1.2;cases rp;exact⟨_,(Ap.IU ..).symm ▸ rfl,k _ H' μ' v1.rl f.d k1 q1⟩
 ·exact q1.elim
noncomputable def sE(ua ub:UE):UE:=fun μ Q=>ua μ fun r μ'=>match r with
 |.tr (.bl true)=>ub μ' Q
 |.tr (.bl false)=>Q (.tr (.bl false)) μ'
 |_=>False
theorem and(ha:YE X a ua)(hb:YE X (.BoolOp .And (b::rest) pos) ub):YE X (.BoolOp .And (a::b::rest) pos) (sE ua ub):=by
 obtain⟨t,q,r⟩:=ha;obtain⟨t',q',r'⟩:=hb;refine⟨_,Z.and q q',fun F ad B σ H μ Q Qt hK l q k=>r F ad B σ H μ _ _ hK l q fun v H' r1 μ' v1 f k1 q1=>?_⟩
 split at q1
 ·have rp:=v1.2;cases rp;refine⟨_,rfl,?_⟩;rw[Ke rfl];exact r' F ad B σ H' μ' _ _ hK v1.rl q1 fun v2 H2 r2 μ2 v3 f2 k2 q2=>k v2 H2 r2 μ2 v3 (f.d.trans f2) (k1.trans k2) q2
 ·have rp:=v1.2;cases rp;refine⟨_,rfl,?_⟩;rw[JZ Ka];exact k _ H' _ μ' (Vr.flat v1.rl (.bl _)) f.d k1 q1
 ·exact q1.elim
theorem one{o:BoolOp}(ha:YE X a ua):YE X (.BoolOp o [a] pos) ua:=by obtain⟨t,q,r⟩:=ha;exact⟨t,Z.one q,r⟩
noncomputable def E9(uc:UT)(ua ub:UE):UE:=fun μ Q=>uc μ fun b μ'=>if b=true then ua μ' Q else ub μ' Q
theorem CW(hc:YT X c uA)(ha:YE X a ua)(hb:YE X b ub):YE X (.IfExp c a b pos) (E9 uA ua ub):=by
 obtain⟨tc,qc,rc⟩:=hc;obtain⟨t,q,r⟩:=ha;obtain⟨t',q',r'⟩:=hb;refine⟨_,Z.CW qc q q',fun F ad B σ H μ Q Qt hK l q k=>rc F ad B σ H μ _ _ hK l q fun b H' μ' l1 f k1 q1=>?_⟩
 cases b with
 |true=>rw[Ke rfl] at q1 ⊢;exact r F ad B σ H' μ' _ _ hK l1 q1 fun v2 H2 r2 μ2 v3 f2 k2 q2=>k v2 H2 r2 μ2 v3 (f.trans f2) (k1.trans k2) q2
 |false=>rw[JZ Ka] at q1 ⊢;exact r' F ad B σ H' μ' _ _ hK l1 q1 fun v2 H2 r2 μ2 v3 f2 k2 q2=>k v2 H2 r2 μ2 v3 (f.trans f2) (k1.trans k2) q2
noncomputable def wF(ue:UE):UE:=fun μ Q=>ue μ fun r μ'=>match r with
 |.tr (.int i)=>Q (.tr (.int (-i))) μ'
 |_=>False
theorem neg(ha:YE X a ua):YE X (.UnaryOp .USub a pos) (wF ua):=by
 obtain⟨t,q,r⟩:=ha;refine⟨_,Z.un DM q,fun F ad B σ H μ Q Qt hK l q k=>r F ad B σ H μ _ _ hK l q fun v H' r1 μ' v1 f k1 q1=>?_⟩
 split at q1
 ·have rp:=v1.2;cases rp;exact⟨_,rfl,k _ H' _ μ' (Vr.flat v1.rl (.int _)) f.d k1 q1⟩
 ·exact q1.elim
noncomputable def pN:UA:=fun μ Q=>Q [] μ
noncomputable def kJ(ue:UE)(us:UA):UA:=fun μ Q=>ue μ fun r μ1=>us μ1 fun rs μ2=>Q (r.d::rs) μ2
noncomputable def uK(ts:List T):UA:=fun μ Q=>Q (ts.map R.tr) μ
theorem nil:YA X [] pN:=⟨_,Z.nil,fun F ad B σ H μ Q Qt hK l q k=>k [] H [] μ l .nil Fr.refl (Kp.refl μ) q⟩
theorem cons(ha:YE X e ue)(hr:YA X es us)(h:autoParam (cS e=true) ℜ0):YA X (e::es) (kJ ue us):=by
 obtain⟨t,q,r⟩:=ha;obtain⟨t',q',r'⟩:=hr;exact⟨_,Z.cons q q' h,fun F ad B σ H μ Q Qt hK l q k=>r F ad B σ H μ _ _ hK l q fun v H' r1 μ' v1 f k1 q1=>r' F ad B σ H' μ' _ _ hK v1.rl q1 fun vs H2 rs μ2 l2 ps f2 k2 q2 =>
  k (v::vs) H2 (r1.d::rs) μ2 l2 (.cons (v1.hv.fr f2 k2) ps) (f.d.trans f2) (k1.trans k2) q2⟩
noncomputable def wL:V->Option T
 |.aC=>some .aC
 |.bl b=>some (.bl b)
 |.int i=>some (.int i)
 |.str x=>some (.str x)
 |_=>none
theorem xS{v:V}{t:T}(h:wL v=some t):Rep K H B v t:=by
 unfold wL at h
 split at h
 ·cases h;exact .aC
 ·cases h;exact .bl _
 ·cases h;exact .int _
 ·cases h;exact .str _
 ·cases h
theorem consts(h:kK es=some vs)(h2:vs.map wL=ts.map some):YA X es (uK ts):=by
 refine⟨_,Z.consts h,fun F ad B σ H μ Q Qt hK l q k=>k vs H _ μ l ?_ Fr.refl (Kp.refl μ) q⟩;clear h q k
 induction vs generalizing ts with
 |nil=>cases ts with
  |nil=>exact .nil
  |cons t ts=>cases h2
 |cons v vs ih=>cases ts with
  |nil=>cases h2
  |cons t ts =>
   rw[KD,KD] at h2
   injection h2 with e1 e2
   exact .cons (xS e1) (ih e2)
noncomputable def trees:List R->Option (List T)
 |[]=>some []
 |.tr t::rs=>(trees rs).map (t::·)
 |_=>none
theorem m8:∀{vs:List V} {rs:List R} {ts:List T},Paired (Hv F ad B H μ) vs rs->trees rs=some ts->ay F.K H B vs ts
 |_,_,_,.nil,e=>by cases e;exact .nil
 |_,r::rs,ts,.cons h p,e=>by
  cases r with
  |tr t =>
   unfold trees at e
   cases q:trees rs with
   |none=>rw[q] at e;cases e
   |some us=>rw[q] at e;cases e;exact .cons h (m8 p q)
  |br i=>cases e
  |fr c=>cases e
noncomputable def zR(us:UA):UE:=fun μ Q=>us μ fun rs μ'=>match trees rs with
 |some ts=>ts.length<=sizeLine/\Q (.tr (.tup ts)) μ'
 |none=>False
noncomputable def yR(us:UA):UE:=fun μ Q=>us μ fun rs μ'=>match trees rs with
 |some ts=>ts.length<=sizeLine/\Q (.fr (.lst ts)) μ'
 |none=>False
theorem tup(h:YA X es us):YE X (.Tuple es k pos) (zR us):=by
 obtain⟨t,q,r⟩:=h;refine⟨_,Z.tup q,fun F ad B σ H μ Q Qt hK l q k=>r F ad B σ H μ _ _ hK l q fun vs H' rs μ' l1 ps f k1 q1=>?_⟩
 split at q1
 ·rename_i ts e;have rp:=m8 ps e;exact⟨by rw[rp.length];exact q1.1,fun p hp=>k _ _ _ μ' (Vr.t8 l1 rp hp) (f.trans (Fr.same (bL.new hp))) k1 q1.2⟩
 ·exact q1.elim
theorem lst(h:YA X es us):YE X (.List es pos) (yR us):=by
 obtain⟨t,q,r⟩:=h;refine⟨_,Z.lst q,fun F ad B σ H μ Q Qt hK l q k=>r F ad B σ H μ _ _ hK l q fun vs H' rs μ' l1 ps f k1 q1=>?_⟩
 split at q1
 ·rename_i ts e;have rp:=m8 ps e;exact⟨by rw[rp.length];exact q1.1,fun p hp=>k _ _ _ μ' (Vr.ip l1 rp hp) (f.trans (Fr.more hp)) k1 q1.2⟩
 ·exact q1.elim
noncomputable def C5(u:UC)(us:UA):UE:=fun μ Q=>us μ fun rs μ'=>u rs μ' Q
theorem AL{u:UC}{t:TA}(h:RC K r u)(ha:RA K t us):RE K (Bg r t) (C5 u us):=fun F ad B σ H μ Q Qt hK l q k =>
 ha F ad B σ H μ _ _ hK l q fun vs H' rs μ' l1 ps f k1 q1=>h F ad B σ H' μ' _ _ vs rs hK l1 ps q1 fun v H2 r2 μ2 v2 f2 k2 q2=>k v H2 r2 μ2 v2 (f.trans f2) (k1.trans k2) q2
theorem cb{id:String}{u:UC}(hc:bf X (.builtin id) r)(h:RC X.K r u)(hg:Gl X x)(hm:X.mg x=none)(hv:bootBuiltins x=some (.builtin id))(ha:YA X (e::es) us)(h1:autoParam (cS e=true) ℜ0)(h2:autoParam (es.all cS=true) ℜ0)(hn:autoParam (x≠"__name__") ℜ1)(hdb:autoParam ((x ==("__debug__":Str))=false) ℜ1):
  YE X (.Call (.Name x p) (e::es) [] pos) (C5 u us):=by
 obtain⟨t,q,rr⟩:=ha;exact⟨_,Z.cb hc hg hm hv q h1 h2 hn hdb,AL h rr⟩
theorem ct{T:String}{u:UC}(hc:bf X (.type T) r)(h:RC X.K r u)(hg:Gl X x)(hm:X.mg x=none)(hv:bootBuiltins x=some (.type T))(ha:YA X (e::es) us)(h1:autoParam (cS e=true) ℜ0)(h2:autoParam (es.all cS=true) ℜ0)(hn:autoParam (x≠"__name__") ℜ1)(hdb:autoParam ((x ==("__debug__":Str))=false) ℜ1):
  YE X (.Call (.Name x p) (e::es) [] pos) (C5 u us):=by
 obtain⟨t,q,rr⟩:=ha;exact⟨_,Z.ct hc hg hm hv q h1 h2 hn hdb,AL h rr⟩
noncomputable def jj:UO:=fun μ Q=>Q none μ
noncomputable def iE(ue:UE):UO:=fun μ Q=>ue μ fun r μ'=>match r with
 |.tr (.int i)=>Q (some i) μ'
 |_=>False
theorem DF:YO X none jj:=⟨_,Z.DF,fun F ad B σ H μ Q Qt hK l q k=>k none H μ l Fr.refl (Kp.refl μ) q⟩
theorem mT(he:YE X e ue):YO X (some e) (iE ue):=by
 obtain⟨t,q,r⟩:=he;refine⟨_,Z.mT q,fun F ad B σ H μ Q Qt hK l q k=>r F ad B σ H μ _ _ hK l q fun v H' r1 μ' v1 f k1 q1=>?_⟩
 split at q1
 ·have rp:=v1.2;cases rp;exact⟨_,rfl,k _ H' μ' v1.rl f.d k1 q1⟩
 ·exact q1.elim
end
noncomputable def ou(f:T->T->Mu->(R->Mu->Prop)->Prop):U2:=fun r1 r2 μ Q=>match cont μ r1,cont μ r2 with
 |some t,some u=>f t u μ Q
 |_,_=>False
theorem f9{r:R2}{f:T->T->Mu->(R->Mu->Prop)->Prop}
  (h:∀(F:Fx) (ad:Nat->Addr) (B:aX) (σ:St) (H:Hp) (μ:Mu) (Q:VK) (Qt:R->Mu->Prop) (x y:V) (t u:T),F.K=K->Rl F ad B σ H μ->Vw F.K H B x t->Vw F.K H B y u->f t u μ Qt ->
   (∀ v H' r,Vr F ad B σ H' μ v r->Fr B H (Bv B v r) H'->Qt r μ->Q v H')->r x y H Q):ib K r (ou f):=by
 intro F ad B σ H μ Q Qt x y r1 r2 hK l h1 h2 q k;unfold ou at q
 split at q
 ·rename_i t u e1 e2;exact h F ad B σ H μ Q Qt x y t u hK l (h1.vw l e1) (h2.vw l e2) q fun v H' r v1 s q1=>k v H' r μ v1 s (Kp.refl μ) q1
 ·exact q.elim
noncomputable def vb(C:Int->Int->Prop)(g:Int->Int->Int):T->T->Mu->(R->Mu->Prop)->Prop:=fun t u μ Q=>match t,u with
 |.int i,.int j=>C i j/\Q (.tr (.int (g i j))) μ
 |_,_=>False
theorem cA{C:Int->Int->Prop}{g:Int->Int->Int}:ib K (rI C fun i j=>.int (g i j)) (ou (vb C g)):=f9 fun F ad B σ H μ Q Qt x y t u hK l v1 v2 q k=>by
 unfold vb at q
 split at q
 ·cases v1;cases v2
  exact⟨_,_,rfl,rfl,q.1,k _ H _ (Vr.flat l (.int _)) Fr.refl q.2⟩
 ·exact q.elim
theorem cw{g:Int->Int->Int}:ib K (yC fun i j=>.int (g i j)) (ou (vb (fun _ _=>True) g)):=f9 fun F ad B σ H μ Q Qt x y t u hK l v1 v2 q k=>by
 unfold vb at q
 split at q
 ·cases v1;cases v2
  exact⟨_,_,rfl,rfl,k _ H _ (Vr.flat l (.int _)) Fr.refl q.2⟩
 ·exact q.elim
noncomputable def Jc(g:Int->Int->Bool):T->T->Mu->(R->Mu->Prop)->Prop:=fun t u μ Q=>match t,u with
 |.int i,.int j=>Q (.tr (.bl (g i j))) μ
 |_,_=>False
theorem gp{g:Int->Int->Bool}:ib K (yC fun i j=>.bl (g i j)) (ou (Jc g)):=f9 fun F ad B σ H μ Q Qt x y t u hK l v1 v2 q k=>by
 unfold Jc at q
 split at q
 ·cases v1;cases v2
  exact⟨_,_,rfl,rfl,k _ H _ (Vr.flat l (.bl _)) Fr.refl q⟩
 ·exact q.elim
noncomputable def Bo(K:Pm):R2:=fun x y H Q=>∃ a b xs ys,x=.ref a/\y=.ref b/\cc K H a xs/\cc K H b ys/\xs.length+ys.length<=sizeLine /\
 (xs=[]->Q (.ref b) H)/\(xs≠[]->ys=[]->Q (.ref a) H)/\(xs≠[]->ys≠[]->∀ p,H p=none->Q (.ref p) (upd H p (.tup (xs++ys))))
theorem yf{t:Addr}{ws:List Value}(ht:IsTup s.heap t ([]:List Value).toArray)(hb:IsTup s.heap b ws.toArray)(h0:Q (.ref b) s):wpAny (model prog w) A (binaryOp .Add (.ref t) (.ref b)) Q E s:=by
 obtain⟨⟨cls,dd,data,sl⟩,ho,hc,n,hd⟩:=id ht;obtain⟨⟨cls2,dd2,data2,sl2⟩,ho2,hc2,n2,hd2⟩:=id hb;simp only at hc hd hc2 hd2;subst hc hd hc2 hd2;exact concat_meets ⟨_,ho,rfl⟩ ⟨_,ho2,rfl⟩ noFill_tuple_add seq_tuple_add PySem.F.slot_tuple_add PySem.F.entry_tuple_add (PySem.F.args_tuple_add_2 _ _)
   (tuple_addW0 t b _ ws.toArray n n2 dd dd2 sl sl2 (by simp)) ⟨ho,ho2,h0⟩
theorem yT:cK X (binaryOp .Add) (Bo X.K):=by
 intro pins s σ H x y v u Q I rx ry h;obtain⟨a,b,xs,ys,rfl,rfl,ha,hb,hz,q0,q1,q2⟩:=h;by_cases hx:xs=[]
 ·subst hx
  cases rx;cases ry
  obtain⟨its,r1,p1,_⟩:=I.tuple ha;obtain⟨its2,r2,p2,_⟩:=I.tuple hb;cases r1;exact yf p1 p2 ⟨.ref b,H,I,rfl,q0 rfl⟩
 ·exact Aw pins s σ H _ _ v u Q I rx ry ⟨a,b,xs,ys,rfl,rfl,ha,hb,hx,hz,q1 hx,q2 hx⟩
noncomputable def we(K:Pm):R2:=fun x y H Q=>(∃ i j,x=.int i/\y=.int j/\Q (.int (i+j)) H)\/(∃ i j,x=.str i/\y=.str j/\i.length+j.length<=sizeLine/\Q (.str (i++j)) H)\/Gf x y H Q\/Bo K x y H Q
theorem au(K:Pm)(hK:X.K=K):cK X (binaryOp .Add) (we K):=by subst hK;exact C8.or (qf.or (CI.or yT))
noncomputable def b8{v:V}{t:T}(h:Hv F ad B H μ v (.tr t)):Rep F.K H B v t:=h
noncomputable def kn:U2:=fun r1 r2 μ Q=>match cont μ r1,cont μ r2 with
 |some (.int i),some (.int j)=>Q (.tr (.int (i+j))) μ
 |some (.str i),some (.str j)=>i.length+j.length<=sizeLine/\Q (.tr (.str (i++j))) μ
 |some (.lst xs),some (.lst ys)=>xs.length+ys.length<=sizeLine/\Q (.fr (.lst (xs++ys))) μ
 |some (.tup xs),some (.tup ys)=>xs.length+ys.length<=sizeLine/\Q (.tr (.tup (xs++ys))) μ
 |_,_=>False
theorem Hv.vZ{v:V}{r:R}{xs:List T}(l:Rl F ad B σ H μ)(h:Hv F ad B H μ v r)(e:cont μ r=some (.tup xs)):Rep F.K H B v (.tup xs):=by
 cases r with
 |tr t=>cases e;exact h
 |br i =>
  obtain⟨rfl,s,c,h1,h2⟩:=h;have e2:(μ[i]?).bind Sl.box=some (.tup xs):=e;rw[h1] at e2;have e':s.box=some (.tup xs):=e2;rcases ((l.slot i s h1).boxed e').2.2.1.is with ⟨ts,vs,z,_⟩|⟨ks,ts,vs,z,_⟩<;>cases z
 |fr c=>exact h.elim
theorem Ca:ib K (we K) kn:=by
 intro F ad B σ H μ Q Qt x y r1 r2 hK l h1 h2 q k;subst hK;unfold kn at q
 split at q
 ·rename_i i j e1 e2;have a:=h1.vw l e1;have b:=h2.vw l e2
  cases a;cases b
  exact .inl ⟨_,_,rfl,rfl,k _ H _ μ (Vr.flat l (.int _)) Fr.refl (Kp.refl μ) q⟩
 ·rename_i i j e1 e2;have a:=h1.vw l e1;have b:=h2.vw l e2
  cases a;cases b
  exact .inr (.inl ⟨_,_,rfl,rfl,q.1,k _ H _ μ (Vr.flat l (.str _)) Fr.refl (Kp.refl μ) q.2⟩)
 ·rename_i xs ys e1 e2;have a:=h1.vw l e1;have b:=h2.vw l e2
  cases a with
  |lst ha ra=>cases b with
   |lst hb rb=>exact .inr (.inr (.inl ⟨_,_,_,_,rfl,rfl,ha,hb,by rw[ra.length,rb.length];exact q.1,fun p hp=>k _ _ _ μ (Vr.ip l (ra.append rb) hp) (Fr.more hp) (Kp.refl μ) q.2⟩))
 ·rename_i xs ys e1 e2;have a:=Hv.vZ l h1 e1;have b:=Hv.vZ l h2 e2;have a':=a;have b':=b
  cases a with
  |tup na ha ra=>cases b with
   |tup nb hb rb =>
    refine .inr (.inr (.inr ⟨_,_,_,_,rfl,rfl,cc.of ha,cc.of hb,by rw[ra.length,rb.length];exact q.1,fun z=>?_,fun z1 z2=>?_,fun z1 z2 p hp=>k _ _ _ μ (Vr.t8 l (ra.append rb) hp) (Fr.same (bL.new hp)) (Kp.refl μ) q.2⟩))
    ·subst z;cases ra;exact k _ H _ μ (Vr.flat l b') Fr.refl (Kp.refl μ) q.2
    ·subst z2;cases rb;have q2:=q.2;rw[Kw] at q2;exact k _ H _ μ (Vr.flat l a') Fr.refl (Kp.refl μ) q2
 ·exact q.elim
noncomputable def rf:U2:=fun r1 r2 μ Q=>match cont μ r1,cont μ r2 with
 |some (.int i),some (.int j)=>nX i j/\Q (.tr (.int (i*j))) μ
 |some (.lst xs),some (.int k)=>-(2^63)<=k/\k<2^63/\xs.length*k.toNat<=sizeLine/\Q (.fr (.lst (List.replicate k.toNat xs).flatten)) μ
 |_,_=>False
theorem vc:ib K Ci rf:=by
 intro F ad B σ H μ Q Qt x y r1 r2 hK l h1 h2 q k;unfold rf at q
 split at q
 ·rename_i i j e1 e2;have a:=h1.vw l e1;have b:=h2.vw l e2
  cases a;cases b
  exact⟨q.1,k _ H _ μ (Vr.flat l (.int _)) Fr.refl (Kp.refl μ) q.2⟩
 ·rename_i xs j e1 e2;have a:=h1.vw l e1;have b:=h2.vw l e2;cases b
  cases a with
  |lst ha ra=>exact⟨_,_,_,rfl,rfl,ha,q.1,q.2.1,by rw[ra.length];exact q.2.2.1,fun p hp=>k _ _ _ μ (Vr.ip l (ra.rep _) hp) (Fr.more hp) (Kp.refl μ) q.2.2.2⟩
 ·exact q.elim
noncomputable def qu:U2:=fun r1 r2 μ Q=>match cont μ r1,cont μ r2 with
 |some (.lst xs),some (.int i)=>(match bw xs i with|some t=>Q (.tr t) μ|none=>False)
 |some (.tup xs),some (.int i)=>(match bw xs i with|some t=>Q (.tr t) μ|none=>False)
 |some (.dZ xs),some (.int i)=>(match bw xs i with|some t=>Q (.tr t) μ|none=>False)
 |some (.str z),some (.int i)=>z.length<=sizeLine/\(match bw z.cps.toList i with|some c=>Q (.tr (.str ⟨#[c]⟩)) μ|none=>False)
 |_,_=>False
theorem aD(K:Pm)(hK:X.K=K):uY X (Hi K):=by subst hK;exact Cp
theorem GK:ib K (Hi K) qu:=by
 intro F ad B σ H μ Q Qt x y r1 r2 hK l h1 h2 q k;subst hK;unfold qu at q
 split at q
 ·rename_i xs j e1 e2;have a:=h1.vw l e1;have b:=h2.vw l e2;cases b
  split at q
  ·rename_i t e3
   cases a with
   |lst ha ra =>
    obtain⟨v,e4,rv⟩:=ra.bw e3;exact .inl ⟨_,_,_,v,rfl,rfl,cx.of ha,e4,k _ H _ μ (Vr.flat l rv) Fr.refl (Kp.refl μ) q⟩
  ·exact q.elim
 ·rename_i xs j e1 e2;have a:=h1.vw l e1;have b:=h2.vw l e2;cases b
  split at q
  ·rename_i t e3
   cases a with
   |tup ha ra =>
    obtain⟨v,e4,rv⟩:=ra.bw e3;exact .inr (.inl ⟨_,_,_,v,rfl,rfl,cc.of ha,e4,k _ H _ μ (Vr.flat l rv) Fr.refl (Kp.refl μ) q⟩)
  ·exact q.elim
 ·rename_i xs j e1 e2;have a:=h1.vw l e1;have b:=h2.vw l e2;cases b
  split at q
  ·rename_i t e3
   cases a with
   |dZ ha ra =>
    obtain⟨v,e4,rv⟩:=ra.bw e3;exact .inr (.inl ⟨_,_,_,v,rfl,rfl,.inr ha,e4,k _ H _ μ (Vr.flat l rv) Fr.refl (Kp.refl μ) q⟩)
  ·exact q.elim
 ·rename_i xs j e1 e2;have a:=h1.vw l e1;have b:=h2.vw l e2;cases b;cases a;obtain⟨q0,q⟩:=q
  split at q
  ·rename_i t e3;exact .inr (.inr ⟨_,_,_,rfl,rfl,q0,e3,k _ H _ μ (Vr.flat l (.str _)) Fr.refl (Kp.refl μ) q⟩)
  ·exact q.elim
 ·exact q.elim
noncomputable def nU(neg:Bool):T->T->Mu->(R->Mu->Prop)->Prop:=fun t u μ Q=>match u with
 |.aC=>Q (.tr (.bl (match t with|.aC=>!neg|_=>neg))) μ
 |_=>False
theorem fq:ib K (fun x y H Q=>y=.aC/\Q (.bl (decide (x=.aC))) H) (ou (nU false)):=f9 fun F ad B σ H μ Q Qt x y t u hK l v1 v2 q k=>by
 unfold nU at q
 split at q
 ·cases v2;refine⟨rfl,?_⟩
  cases v1<;>exact k _ H _ (Vr.flat l (.bl _)) Fr.refl q
 ·exact q.elim
theorem ja:ib K (fun x y H Q=>y=.aC/\Q (.bl (!decide (x=.aC))) H) (ou (nU true)):=f9 fun F ad B σ H μ Q Qt x y t u hK l v1 v2 q k=>by
 unfold nU at q
 split at q
 ·cases v2;refine⟨rfl,?_⟩
  cases v1<;>exact k _ H _ (Vr.flat l (.bl _)) Fr.refl q
 ·exact q.elim
noncomputable def Hd:T->T->Bool
 |.aC,.aC=>true
 |.bl a,.bl b=>a == b
 |.bl a,.int b=>(if a then 1 else 0) == b
 |.int a,.bl b=>a ==(if b then 1 else 0)
 |.int a,.int b=>a == b
 |.str a,.str b=>a == b
 |_,_=>false
noncomputable def kG(xs ys:List T):Bool:=xs.length == ys.length && (List.range (min xs.length ys.length)).all fun j=>match xs[j]?,ys[j]? with
 |some x,some y=>Hd x y
 |_,_=>true
theorem Bq{x y:V}{t u:T}(h1:Rep K H B x t)(h2:Rep K H B y u)(f1:aR t=true)(f2:aR u=true):dU x=true/\dU y=true/\tJ x y=Hd t u:=by
 cases h1<;>first | (cases f1;done) | (cases h2<;>first | (cases f2;done)|exact⟨rfl,rfl,rfl⟩)
noncomputable def An(K:Pm)(neg:Bool):R2:=fun x y H Q=>∃ a b xs ys,x=.ref a/\y=.ref b/\((cx K H a xs/\cx K H b ys)\/(cc K H a xs/\cc K H b ys))/\xs.all dU=true/\ys.all dU=true /\
 ∀ c,c=(xs.length == ys.length && (List.range (min xs.length ys.length)).all fun j=>match xs[j]?,ys[j]? with|some x,some y=>tJ x y|_,_=>true)->Q (.bl (if neg then !c else c)) H
theorem Cq(hu:X.A.units<cLine):cK X (compareOp .Eq) (An X.K false):=by
 intro pins s σ H x y v u Q I rx ry h;obtain⟨a,b,xs,ys,rfl,rfl,hq,fx,fy,q⟩:=h
 cases rx;cases ry
 have item:∀(its its2:List Value),Vals xs its->Vals ys its2->∀ j (h1:j<its.toArray.size) (h2:j<its2.toArray.size),SeqAt.EqAt X.A.in1 s its.toArray[j] its2.toArray[j] (match xs[j]?,ys[j]? with|some x,some y=>tJ x y|_,_=>true):=fun its its2 r1 r2 j h1 h2=>by
  have l1:=r1.length;have l2:=r2.length;rw[J_] at h1 h2;obtain⟨u1,e1,g1⟩:=r1.get (i:=j) (x:=xs[j]) (JV (by lia))
  obtain⟨u2,e2,g2⟩:=r2.get (i:=j) (x:=ys[j]) (JV (by lia))
  rw[JV (show j<xs.length by lia),JV (show j<ys.length by lia)]
  have z1:its.toArray[j]=u1:=by
   rw[JV h1] at e1;simpa using e1
  have z2:its2.toArray[j]=u2:=by
   rw[JV h2] at e2;simpa using e2
  rw[z1,z2];exact qH g1 g2 (Ln.mp fx _ (K3 _)) (Ln.mp fy _ (K3 _))
 rcases hq with ⟨ha,hb⟩|⟨ha,hb⟩
 ·obtain⟨its,r1,p1,_⟩:=I.list ha;obtain⟨its2,r2,p2,_⟩:=I.list hb;have l1:=r1.length;have l2:=r2.length;by_cases e:xs.length=ys.length
  ·refine SeqAt.eq_listAt p1.isList p2.isList (by rw[J_,J_];lia) hu (item its its2 r1 r2) ⟨.bl _,H,I,rfl,q _ ?_⟩
   rw[J_,<- l1,<- e,M7,Mh,Bool.true_and]
  ·refine SeqAt.eq_list_lengthsAt p1.isList p2.isList (by rw[J_,J_,bne_iff_ne];lia) hu ⟨.bl _,H,I,rfl,q _ ?_⟩
   rw[Lp.mpr e,OK]
 ·obtain⟨its,r1,p1,_⟩:=I.tuple ha;obtain⟨its2,r2,p2,_⟩:=I.tuple hb;have l1:=r1.length;have l2:=r2.length;refine SeqAt.eq_tupleAt p1 p2 hu (item its its2 r1 r2) ⟨.bl _,H,I,rfl,q _ ?_⟩;rw[J_,J_,<- l1,<- l2,Bool.and_comm];rfl
theorem cp:∀{xs:List V} {ts:List T},ay K H B xs ts->ts.all aR=true->xs.all dU=true
 |_,_,.nil,_=>rfl
 |_,_,.cons h r,f=>by
  rw[Lf,KI] at f ⊢;refine⟨?_,cp r f.2⟩;have f1:=f.1
  cases h<;>first|rfl|cases f1
theorem mq{us:List T}(h1:ay K H B xs ts)(h2:ay K H B ys us)(f1:ts.all aR=true)(f2:us.all aR=true):
  kG ts us=(xs.length == ys.length && (List.range (min xs.length ys.length)).all fun j=>match xs[j]?,ys[j]? with|some x,some y=>tJ x y|_,_=>true):=by
 unfold kG;have l1:=h1.length;have l2:=h2.length;rw[l1,l2];congr 1;refine List.all_congr rfl ?_ |>.symm;intro j
 cases a1:ts[j]? with
 |none =>
  have:xs[j]?=none:=K0.mpr (by have:=K0.mp a1;lia)
  rw[this]
 |some t =>
  obtain⟨v1,e1,r1⟩:=h1.get a1;rw[e1]
  cases a2:us[j]? with
  |none =>
   have:ys[j]?=none:=K0.mpr (by have:=K0.mp a2;lia)
   rw[this]
  |some u =>
   obtain⟨v2,e2,r2⟩:=h2.get a2;rw[e2];exact (Bq r1 r2 (Ln.mp f1 _ (KW a1)) (Ln.mp f2 _ (KW a2))).2.2
noncomputable def G2(K:Pm):R2:=fun x y H Q=>Jt x y H Q\/An K false x y H Q
theorem b6(K:Pm)(hK:X.K=K)(hu:X.A.units<cLine):cK X (compareOp .Eq) (G2 K):=by subst hK;exact Gj.or (Cq hu)
noncomputable def Ei(neg:Bool):T->T->Mu->(R->Mu->Prop)->Prop:=fun t u μ Q=>match t,u with
 |.int i,.int j=>Q (.tr (.bl (if neg then !decide (i=j) else decide (i=j)))) μ
 |.str i,.str j=>Q (.tr (.bl (if neg then !decide (i=j) else decide (i=j)))) μ
 |.bl i,.bl j=>Q (.tr (.bl (if neg then !decide (i=j) else decide (i=j)))) μ
 |.lst xs,.lst ys=>neg=false/\xs.all aR=true/\ys.all aR=true/\Q (.tr (.bl (kG xs ys))) μ
 |.tup xs,.tup ys=>neg=false/\xs.all aR=true/\ys.all aR=true/\Q (.tr (.bl (kG xs ys))) μ
 |_,_=>False
theorem dV[DecidableEq α]{f:α->V}(hf:∀ a b,f a=f b->a=b)(a b:α):decide (f a=f b)=decide (a=b):=by
 rw[Nb];exact⟨hf a b,fun h=>by rw[h]⟩
theorem cy:ib K (G2 K) (ou (Ei false)):=f9 fun F ad B σ H μ Q Qt x y t u hK l v1 v2 q k=>by
 subst hK;unfold Ei at q
 split at q
 ·cases v1;cases v2
  refine .inl ⟨rfl,?_⟩;rw[dV (f:=V.int) (fun a b h=>by injection h)]
  exact k _ H _ (Vr.flat l (.bl _)) Fr.refl q
 ·cases v1;cases v2
  refine .inl ⟨rfl,?_⟩;rw[dV (f:=V.str) (fun a b h=>by injection h)]
  exact k _ H _ (Vr.flat l (.bl _)) Fr.refl q
 ·cases v1;cases v2
  refine .inl ⟨rfl,?_⟩;rw[dV (f:=V.bl) (fun a b h=>by injection h)]
  exact k _ H _ (Vr.flat l (.bl _)) Fr.refl q
 ·cases v1 with
  |lst ha ra=>cases v2 with
   |lst hb rb=>exact .inr ⟨_,_,_,_,rfl,rfl,.inl ⟨cx.of ha,cx.of hb⟩,cp ra q.2.1,cp rb q.2.2.1,fun c hc=>by
     rw[<- mq ra rb q.2.1 q.2.2.1] at hc;subst hc;exact k _ H _ (Vr.flat l (.bl _)) Fr.refl q.2.2.2⟩
 ·cases v1 with
  |tup ha ra=>cases v2 with
   |tup hb rb=>exact .inr ⟨_,_,_,_,rfl,rfl,.inr ⟨cc.of ha,cc.of hb⟩,cp ra q.2.1,cp rb q.2.2.1,fun c hc=>by
     rw[<- mq ra rb q.2.1 q.2.2.1] at hc;subst hc;exact k _ H _ (Vr.flat l (.bl _)) Fr.refl q.2.2.2⟩
 ·exact q.elim
noncomputable def yD(f:T->Mu->(R->Mu->Prop)->Prop):UC:=fun rs μ Q=>match rs with
 |[r]=>(match cont μ r with|some t=>f t μ Q|none=>False)
 |_=>False
theorem m9{f:T->Mu->(R->Mu->Prop)->Prop}
  (h:∀(F:Fx) (ad:Nat->Addr) (B:aX) (σ:St) (H:Hp) (μ:Mu) (Q:VK) (Qt:R->Mu->Prop) (x:V) (t:T),F.K=K->Rl F ad B σ H μ->Vw F.K H B x t->f t μ Qt ->
   (∀ v H' r,Vr F ad B σ H' μ v r->Fr B H (Bv B v r) H'->Qt r μ->Q v H')->r [x] H Q):RC K r (yD f):=by
 intro F ad B σ H μ Q Qt xs rs hK l p q k;unfold yD at q
 split at q
 ·split at q
  ·rename_i r0 _ t e
   cases p with
   |cons h1 p=>cases p;exact h F ad B σ H μ Q Qt _ t hK l (h1.vw l e) q fun v H' r v1 s q1=>k v H' r μ v1 s (Kp.refl μ) q1
  ·exact q.elim
 ·exact q.elim
noncomputable def oj:T->Mu->(R->Mu->Prop)->Prop:=fun t μ Q=>match t with
 |.lst xs=>Q (.tr (.int xs.length)) μ
 |.tup xs=>Q (.tr (.int xs.length)) μ
 |.ee xs=>Q (.tr (.int xs.length)) μ
 |.dZ xs=>Q (.tr (.int xs.length)) μ
 |.str z=>z.length<=sizeLine/\Q (.tr (.int z.length)) μ
 |_=>False
noncomputable def ym(K:Pm):List V->Hp->VK->Prop:=fun xs H Q=>(∃ p ys,xs=[.ref p]/\(cx K H p ys\/cc K H p ys)/\Q (.int ys.length) H)\/(∃ z,xs=[.str z]/\z.length<=sizeLine/\Q (.int z.length) H)
theorem aH(K:Pm)(hK:X.K=K):bf X (.builtin "len") (ym K):=by subst hK;exact mD.or mH
theorem BS:RC K (ym K) (yD oj):=m9 fun F ad B σ H μ Q Qt x t hK l v1 q k=>by
 subst hK;unfold oj at q
 split at q
 ·cases v1 with
  |lst ha ra=>exact .inl ⟨_,_,rfl,.inl (cx.of ha),by rw[ra.length];exact k _ H _ (Vr.flat l (.int _)) Fr.refl q⟩
 ·cases v1 with
  |tup ha ra=>exact .inl ⟨_,_,rfl,.inr (cc.of ha),by rw[ra.length];exact k _ H _ (Vr.flat l (.int _)) Fr.refl q⟩
 ·cases v1 with
  |ee ha ra=>exact .inl ⟨_,_,rfl,.inl ha,by rw[ra.length];exact k _ H _ (Vr.flat l (.int _)) Fr.refl q⟩
 ·cases v1 with
  |dZ ha ra=>exact .inl ⟨_,_,rfl,.inr (.inr ha),by rw[ra.length];exact k _ H _ (Vr.flat l (.int _)) Fr.refl q⟩
 ·cases v1;exact .inr ⟨_,rfl,q.1,k _ H _ (Vr.flat l (.int _)) Fr.refl q.2⟩
 ·exact q.elim
noncomputable def iz:UC:=fun rs μ Q=>match rs with
 |[r]=>(match cont μ r with
  |some (.lst xs)=>Q (.tr (.tup xs)) μ
  |some (.tup xs)=>Q (.tr (.tup xs)) μ
  |_=>False)
 |_=>False
noncomputable def BK(K:Pm):List V->Hp->VK->Prop:=fun xs H Q=>∃ p ys,xs=[.ref p]/\((cx K H p ys/\∀ l,H l=none->Q (.ref l) (upd H l (.tup ys)))\/(cc K H p ys/\Q (.ref p) H))
theorem bM(K:Pm)(hK:X.K=K):bf X (.type "tuple") (BK K):=by subst hK;exact kv
theorem bZ:RC K (BK K) iz:=by
 intro F ad B σ H μ Q Qt xs rs hK l p q k;subst hK;unfold iz at q
 split at q
 ·cases p with
  |cons h1 p =>
   cases p
   split at q
   ·rename_i e;have v1:=h1.vw l e
    cases v1 with
    |lst ha ra=>exact⟨_,_,rfl,.inl ⟨cx.of ha,fun p hp=>k _ _ _ μ (Vr.t8 l ra hp) (Fr.same (bL.new hp)) (Kp.refl μ) q⟩⟩
   ·rename_i e;have rp:=Hv.vZ l h1 e;have rp':=rp
    cases rp with
    |tup na ha ra=>exact⟨_,_,rfl,.inr ⟨cc.of ha,k _ H _ μ (Vr.flat l rp') Fr.refl (Kp.refl μ) q⟩⟩
   ·exact q.elim
 ·exact q.elim
noncomputable def nE:T->Mu->(R->Mu->Prop)->Prop:=fun t μ Q=>match t with
 |.lst xs=>Q (.fr (.lst xs)) μ
 |.tup xs=>Q (.fr (.lst xs)) μ
 |.ee xs=>Q (.fr (.lst xs)) μ
 |.eJ lo hi=>(hi-lo).toNat<=65536/\-(2^62)<=lo/\lo<2^62/\-(2^62)<=hi/\hi<2^62/\Q (.fr (.lst ((List.range (hi-lo).toNat).map fun k=>T.int (lo+(k:Nat))))) μ
 |_=>False
noncomputable def wx(K:Pm):List V->Hp->VK->Prop:=fun xs H Q=>(∃ p ys,xs=[.ref p]/\(cx K H p ys\/cc K H p ys)/\∀ l,H l=none->Q (.ref l) (upd H l (.lst ys))) \/
 (∃ p lo hi,xs=[.ref p]/\H p=some (.eJ lo hi)/\(hi-lo).toNat<=65536/\-(2^62)<=lo/\lo<2^62/\-(2^62)<=hi/\hi<2^62/\∀ l,H l=none->Q (.ref l) (upd H l (.lst ((List.range (hi-lo).toNat).map fun k=>V.int (lo+(k:Nat))))))
theorem eH{lo:Int}:∀(n:Nat) (acc:List Value) (k:Nat),acc.length=n->(∀ j v,acc[j]?=some v->∃ t,v=Value.int (lo+((k+j:Nat):Int)) t)->Vals ((List.range' k n).map fun k=>V.int (lo+(k:Nat))) acc
 |0,acc,k,h,_=>by cases acc with|nil=>exact .nil|cons a b=>cases h
 |n+1,[],k,h,_=>by cases h
 |n+1,a::acc,k,h,g=>by
  rw[Lj,KD];refine .cons ?_ (eH n acc (k+1) (by simpa using h) fun j v e=>?_)
  ·obtain⟨t,e⟩:=g 0 a rfl;exact⟨t,by simpa using e⟩
  ·obtain⟨t,e2⟩:=g (j+1) v (by simpa using e)
   exact⟨t,by rw[e2];congr 2;lia⟩
theorem qD(hc:X.calm=true):bf X (.type "list") (fun xs H Q=>∃ p lo hi,xs=[.ref p]/\H p=some (.eJ lo hi)/\(hi-lo).toNat<=65536/\-(2^62)<=lo/\lo<2^62/\-(2^62)<=hi/\hi<2^62/\∀ l,H l=none->Q (.ref l) (upd H l (.lst ((List.range (hi-lo).toNat).map fun k=>V.int (lo+(k:Nat)))))):=by
 intro pins s σ H xs us Q I r h;obtain⟨p,lo,hi,rfl,hp,hn,h1,h2,h3,h4,q⟩:=h;obtain⟨u,rfl,rx⟩:=vals1 r;cases rx;obtain⟨t,u,v,e⟩:=I.aO p _ hp;have hn2:Builtin.Range.rangeSize lo hi 1=((hi-lo).toNat:Nat):=by rw[OW];split<;>lia
 refine call_list_range (n:=(hi-lo).toNat) (I.ok.hd hc) e (small_one h1 h2 h3 h4) hn2 (by lia) fun h' tk acc c' hk hS hI=>?_
 have hv:Vals ((List.range (hi-lo).toNat).map fun k=>V.int (lo+(k:Nat))) acc.toList:=by
  rw[Lw];refine eH _ _ 0 (by simpa using hI.1) fun j v e=>?_
  obtain⟨t,e2⟩:=hI.2 j v (by simpa using e)
  exact⟨t,by rw[e2];simp⟩
 refine⟨.ref s.heap.objs.size,_,I.laid (t':=tk) hk (Kc _) (show bt X.prog X.w _ h' _ (.lst _) from⟨?_,acc.toList,c',hv,by simpa using hS⟩),rfl,q _ (I.aO.fresh (Kc _))⟩
 rw[JY,Ky];exact Kq hn (by decide)
theorem qd(K:Pm)(hK:X.K=K)(hc:X.calm=true):bf X (.type "list") (wx K):=by subst hK;exact lT.or (qD hc)
theorem j4{lo:Int}:∀ l:List Nat,ay K H B (l.map fun k=>V.int (lo+(k:Nat))) (l.map fun k=>T.int (lo+(k:Nat)))
 |[]=>.nil
 |k::l=>.cons (.int _) (j4 l)
theorem Af:RC K (wx K) (yD nE):=m9 fun F ad B σ H μ Q Qt x t hK l v1 q k=>by
 subst hK;unfold nE at q
 split at q
 ·cases v1 with
  |lst ha ra=>exact .inl ⟨_,_,rfl,.inl (cx.of ha),fun p hp=>k _ _ _ (Vr.ip l ra hp) (Fr.more hp) q⟩
 ·cases v1 with
  |tup ha ra=>exact .inl ⟨_,_,rfl,.inr (cc.of ha),fun p hp=>k _ _ _ (Vr.ip l ra hp) (Fr.more hp) q⟩
 ·cases v1 with
  |ee ha ra=>exact .inl ⟨_,_,rfl,.inl ha,fun p hp=>k _ _ _ (Vr.ip l ra hp) (Fr.more hp) q⟩
 ·cases v1 with
  |eJ ha=>exact .inr ⟨_,_,_,rfl,ha,q.1,q.2.1,q.2.2.1,q.2.2.2.1,q.2.2.2.2.1,fun p hp=>k _ _ _ (Vr.ip l (j4 _) hp) (Fr.more hp) q.2.2.2.2.2⟩
 ·exact q.elim
noncomputable def qr:UC:=fun rs μ Q=>match rs with
 |[.tr (.int j)]=>Q (.tr (.eJ 0 j)) μ
 |[.tr (.int i),.tr (.int j)]=>Q (.tr (.eJ i j)) μ
 |_=>False
noncomputable def rC:List V->Hp->VK->Prop:=fun xs H Q=>(∃ j,xs=[.int j]/\∀ p,H p=none->Q (.ref p) (upd H p (.eJ 0 j)))\/(∃ i j,xs=[.int i,.int j]/\∀ p,H p=none->Q (.ref p) (upd H p (.eJ i j)))
theorem nW:bf X (.type "range") rC:=by
 intro pins s σ H xs us Q I r h;rcases h with ⟨j,rfl,q⟩|⟨i,j,rfl,q⟩
 ·obtain⟨u,rfl,t,rfl⟩:=vals1 r;refine call_range_1 ?_;exact⟨.ref s.heap.objs.size,_,I.laid (o:=.eJ 0 j) (fun b ob q=>JW _ q) (Kc _) (show bt X.prog X.w _ _ _ (.eJ 0 j) from⟨_,_,_,Km _ rfl⟩),rfl,q _ (I.aO.fresh (Kc _))⟩
 ·obtain⟨u,w',rfl,⟨t,rfl⟩,⟨t',rfl⟩⟩:=vals2 r;refine call_range_2 ?_;exact⟨.ref s.heap.objs.size,_,I.laid (o:=.eJ i j) (fun b ob q=>JW _ q) (Kc _) (show bt X.prog X.w _ _ _ (.eJ i j) from⟨_,_,_,Km _ rfl⟩),rfl,q _ (I.aO.fresh (Kc _))⟩
theorem xR:RC K rC qr:=by
 intro F ad B σ H μ Q Qt xs rs hK l p q k;have fin:∀ lo hi p,H p=none->Vr F ad B σ (upd H p (.eJ lo hi)) μ (.ref p) (.tr (.eJ lo hi)):=fun lo hi p hp=>⟨l.same (bL.new hp),.eJ (l.kB hp) az⟩;unfold qr at q
 split at q
 ·cases p with
  |cons h1 p=>cases p;cases b8 h1;exact .inl ⟨_,rfl,fun p hp=>k _ _ _ μ (fin _ _ p hp) (Fr.same (bL.new hp)) (Kp.refl μ) q⟩
 ·cases p with
  |cons h1 p=>cases p with
   |cons h2 p=>cases p;cases b8 h1;cases b8 h2;exact .inr ⟨_,_,rfl,fun p hp=>k _ _ _ μ (fin _ _ p hp) (Fr.same (bL.new hp)) (Kp.refl μ) q⟩
 ·exact q.elim
noncomputable def Dw(g:Int->Int->Int):UC:=fun rs μ Q=>match rs with
 |[.tr (.int i),.tr (.int j)]=>Q (.tr (.int (g i j))) μ
 |_=>False
theorem BJ{g:Int->Int->Int}(h:∀ i j H Q,Q (.int (g i j)) H->r [.int i,.int j] H Q):RC K r (Dw g):=by
 intro F ad B σ H μ Q Qt xs rs hK l p q k;unfold Dw at q
 split at q
 ·cases p with
  |cons h1 p=>cases p with
   |cons h2 p=>cases p;cases b8 h1;cases b8 h2;exact h _ _ _ _ (k _ H _ μ (Vr.flat l (.int _)) Fr.refl (Kp.refl μ) q)
 ·exact q.elim
theorem pT:RC K EB (Dw fun i j=>if j > i then j else i):=BJ fun i j H Q q=>q
theorem DK:RC K E7 (Dw fun i j=>if j<i then j else i):=BJ fun i j H Q q=>q
noncomputable def rH:UC:=fun rs μ Q=>match rs with
 |[.tr (.int i)]=>Q (.tr (.int i)) μ
 |[.tr (.bl k)]=>Q (.tr (.int (if k=true then 1 else 0))) μ
 |_=>False
theorem mW:RC K EZ rH:=by
 intro F ad B σ H μ Q Qt xs rs hK l p q k;unfold rH at q
 split at q
 ·cases p with
  |cons h1 p=>cases p;cases b8 h1;exact k _ H _ μ (Vr.flat l (.int _)) Fr.refl (Kp.refl μ) q
 ·cases p with
  |cons h1 p=>cases p;cases b8 h1;exact k _ H _ μ (Vr.flat l (.int _)) Fr.refl (Kp.refl μ) q
 ·exact q.elim
noncomputable def Ai:T->String->Option Bool
 |.aC,c=>some (hZ "NoneType" c)
 |.bl _,c=>some (hZ "bool" c)
 |.int _,c=>some (hZ "int" c)
 |.str _,c=>some (hZ "str" c)
 |.lst _,c=>some (hZ "list" c)
 |.tup _,c=>some (hZ "tuple" c)
 |_,_=>none
noncomputable def pf(ue:UE)(c:String):UE:=fun μ Q=>ue μ fun r μ'=>match cont μ' r with
 |some t=>(match Ai t c with|some b=>Q (.tr (.bl b)) μ'|none=>False)
 |none=>False
theorem Vw.ty{v:V}{t:T}{c:String}{b:Bool}(h:Vw K H B v t)(e:Ai t c=some b):∃ s,BG H v=some s/\hZ s c=b:=by
 cases h with
 |aC=>cases e;exact⟨_,rfl,rfl⟩
 |bl=>cases e;exact⟨_,rfl,rfl⟩
 |int=>cases e;exact⟨_,rfl,rfl⟩
 |str=>cases e;exact⟨_,rfl,rfl⟩
 |tup h r=>cases e;exact⟨_,by unfold BG;simp only[h],rfl⟩
 |lst h r=>cases e;exact⟨_,by unfold BG;simp only[h],rfl⟩
 |ee=>cases e
 |eJ=>cases e
 |n5=>cases e
 |exc=>cases e
 |Ar=>cases e
 |dZ=>cases e
theorem Vr.vw{v:V}{r:R}{t:T}(h:Vr F ad B σ H μ v r)(e:cont μ r=some t):Vw F.K H B v t:=by
 have e':cont μ r.d=some t:=by cases r<;>exact e
 exact h.hv.vw h.rl e'
section
variable {X:Cx} {a b c e o:Expr} {es rest:List Expr} {ua ub uc ue uo:UE} {uA uB:UT} {us:UA} {pos p p2 p3:Pos} {x:Str}
theorem Hg{C:String}(K:Pm)(hK:X.K=K)(hg:Gl X "isinstance")(hm:X.mg "isinstance"=none)(ha:YE X a ua)(hgc:Gl X x)(hmc:X.mg x=none)(hvc:bootBuiltins x=some (.type C))(hc:autoParam (C∈["bool","int","str","list","tuple","dict"]) ℜ1)(h1:autoParam (cS a=true) ℜ0)
  (hnx:autoParam (x≠"__name__") ℜ1) (hdx:autoParam ((x ==("__debug__":Str))=false) ℜ1):YE X (.Call (.Name "isinstance" p) [a,.Name x p3] [] pos) (pf ua C):=by
 obtain⟨t,q,r⟩:=ha;refine⟨_,Z.cb (Z.FW K hK) hg hm PyProof.Rows.boot_isinstance (Z.cons q (Z.cons (Z.JP hgc hmc hvc hnx hdx) Z.nil) h1) h1,fun F ad B σ H μ Q Qt hK l q k=>r F ad B σ H μ _ _ hK l q fun v H' r1 μ' v1 f k1 q1=>?_⟩;show L2.pf K [v,.ty C] H' Q;refine⟨hc,?_⟩
 split at q1
 ·rename_i t e
  split at q1
  ·rename_i b e2;obtain⟨s,e3,e4⟩:=Vw.ty (Vr.vw v1 e) e2;rw[e3];subst e4;exact k _ H' (.tr (.bl _)) μ' (Vr.flat v1.rl (.bl _)) f.d k1 q1
  ·exact q1.elim
 ·exact q1.elim
noncomputable def cg(xs:List α)(lo hi:Option Int):List α:=(xs.drop (HT.bG xs.length 0 lo)).take (HT.bG xs.length xs.length hi-HT.bG xs.length 0 lo)
theorem ay.cut(r:ay K H B vs ts)(lo hi:Option Int):ay K H B (lS vs lo hi) (cg ts lo hi):=by
 unfold lS cg;rw[r.length];exact (r.drop _).take _
noncomputable def Fp(K:Pm):V->Option Int->Option Int->Hp->VK->Prop:=fun x lo hi H Q=>∃ a xs,x=.ref a/\cc K H a xs/\HT.bG xs.length 0 lo=0/\HT.bG xs.length xs.length hi=xs.length/\Q (.ref a) H
theorem gZ{t sl:Addr}{vl vu:Value}{lo hi:Option Int}(ht:IsTup s.heap t items)(hs:s.heap.IsSliceOf sl vl vu .none)(pl:IsPart vl lo)(pu:IsPart vu hi)
  (h1:HT.bG items.size 0 lo=0) (h2:HT.bG items.size items.size hi=items.size) (h:Q (.ref t) s):wpAny (model prog w) A (getItem (.ref t) (.ref sl)) Q E s:=by
 obtain⟨os,hos,hcs,hds⟩:=id hs;have hTs:s.TypeIs (.ref sl) "slice":=⟨os,hos,hcs⟩;unfold getItem
 try with_reducible refine KP ?_
 first|refine JU (Kb ?_)|skip
 refine JU (wpAny_sequenceKey ht.typeIs (by decide) ?_)
 refine JU (Le (name:=Str.ofString "__getitem__") ht.typeIs L7
  (Lh L7 ht.typeIs entry_tuple_getitem ?_ (args_tuple_getitem _ _)))
 show wpAny _ _ (Builtin.Tuple.tupleItemsOf (.ref t) >>= _) _ _ s;refine JU (tupleItemsOf_ ht ?_);refine JU (Pb hTs ?_);rw[Ke (by decide)]
 refine JU (HT.eM hs pl pu ?_);show wpAny _ _ (if (((HT.bG items.size 0 lo:Nat):Int) == 0 && (1:Int) == 1 && (HT.bG items.size items.size hi-HT.bG items.size 0 lo) == items.size)=true then _ else _) _ _ s
 rw[Ke (by rw[h1,h2];simp)]
 unfold Builtin.Tuple.tupleIsExact;refine JU ?_;refine JU (Pb ht.typeIs (Kb ?_));rw[Ke (by decide)]
 exact JU (NU (Kb ⟨_,rfl,Kb h⟩))
theorem DQ:u_ X (Fp X.K):=by
 intro pins s σ H x v vl vu lo hi sl Q I rx hs pl pu h;obtain⟨a,xs,rfl,hx,h1,h2,q⟩:=h;cases rx;obtain⟨its,r,ht,hz⟩:=I.tuple hx;have hlen:its.toArray.size=xs.length:=by rw[J_];exact r.length.symm
 exact⟨"tuple",_,L7.lookup,ht.typeIs,gZ ht hs pl pu (by rw[hlen];exact h1) (by rw[hlen];exact h2) ⟨.ref a,H,I,rfl,q⟩⟩
noncomputable def Gx(K:Pm):V->Option Int->Option Int->Hp->VK->Prop:=fun x lo hi H Q=>Gp K x lo hi H Q\/z_ K x lo hi H Q\/Fp K x lo hi H Q
theorem Ik(K:Pm)(hK:X.K=K):u_ X (Gx K):=by subst hK;exact zx.or (C0.or DQ)
noncomputable def HV(ue:UE)(ul uh:UO):UE:=fun μ Q=>ue μ fun r μ1=>ul μ1 fun lo μ2=>uh μ2 fun hi μ3=>match cont μ3 r.d with
 |some (.lst xs)=>Q (.fr (.lst (cg xs lo hi))) μ3
 |some (.ee xs)=>Q (.fr (.lst (cg xs lo hi))) μ3
 |some (.tup xs)=>Q (.tr (.tup (cg xs lo hi))) μ3
 |_=>False
end
end Y
structure tT (F:Fx) (B:aX) (H:Hp) (D:Ends) (E:Ed):Prop where
 nx:∀ ad' B' σ' H' μ',Rl F ad' B' σ' H' μ'->Fr B H B' H'->E.nx μ'->D.nx σ' H'
 rt:∀ ad' B' σ' H' μ' v r,Vr F ad' B' σ' H' μ' v r->E.rt r μ'->D.rt v H'
 bk:∀ ad' B' σ' H' μ',Rl F ad' B' σ' H' μ'->Fr B H B' H'->E.bk μ'->D.bk σ' H'
 ct:∀ ad' B' σ' H' μ',Rl F ad' B' σ' H' μ'->Fr B H B' H'->E.ct μ'->D.ct σ' H'
theorem tT.step{D:Ends}{E:Ed}(h:tT F B H D E)(f:Fr B H B1 H1):tT F B1 H1 D E:=
 ⟨fun ad' B' σ' H' μ' l g q=>h.nx ad' B' σ' H' μ' l (f.trans g) q,h.rt,fun ad' B' σ' H' μ' l g q=>h.bk ad' B' σ' H' μ' l (f.trans g) q,fun ad' B' σ' H' μ' l g q=>h.ct ad' B' σ' H' μ' l (f.trans g) q⟩
noncomputable def RS(K:Pm)(ts:TS)(us:US):Prop:=∀(F:Fx) (D:Ends) (E:Ed) (ad:Nat->Addr) (B:aX) (σ:St) (H:Hp) (μ:Mu),F.K=K->Rl F ad B σ H μ->us E μ->tT F B H D E->ts D σ H
abbrev UG:=R->Mu->(Mu->Prop)->Prop
abbrev rO:=List T->Mu->(Mu->Prop)->Prop
noncomputable def RG(K:Pm)(g:TG)(ug:UG):Prop:=∀(F:Fx) (ad:Nat->Addr) (B:aX) (σ:St) (H:Hp) (μ:Mu) (v:V) (r:R) (B0:aX) (H0:Hp) (Q:St->Hp->Prop) (Qt:Mu->Prop),F.K=K->Vr F ad B σ H μ v r->Fr B0 H0 (Bv B v r) H->ug r μ Qt ->
 (∀ ad' B' σ' H' μ',Rl F ad' B' σ' H' μ'->Fr B0 H0 B' H'->Qt μ'->Q σ' H')->g v σ H Q
noncomputable def JA(K:Pm)(g:u4)(ug:rO):Prop:=∀(F:Fx) (ad:Nat->Addr) (B:aX) (σ:St) (H:Hp) (μ:Mu) (vs:List V) (ts:List T) (B0:aX) (H0:Hp) (Q:St->Hp->Prop) (Qt:Mu->Prop),F.K=K->Rl F ad B σ H μ->ay F.K H B vs ts->Fr B0 H0 B H->ug ts μ Qt ->
 (∀ ad' B' σ' H' μ',Rl F ad' B' σ' H' μ'->Fr B0 H0 B' H'->Qt μ'->Q σ' H')->g vs σ H Q
structure YG (X:Cx) (e:Expr) (u:UG):Prop where
 ex:∃ t,QG X e t/\RG X.K t u
structure Gz (X:Cx) (es:List Expr) (u:rO):Prop where
 ex:∃ t,FI X es t/\JA X.K t u
structure YS (X:Cx) (st:Stmt) (u:US):Prop where
 ex:∃ t,QS X st t/\RS X.K t u
structure YB (X:Cx) (sts:List Stmt) (u:US):Prop where
 ex:∃ t,QB X sts t/\RS X.K t u
namespace Y
noncomputable def uZ(μ:Mu)(i:Nat):Prop:=match μ[i]? with
 |some (.pb _)=>False
 |_=>True
theorem lV(h:uZ μ i):∀ c,μ[i]?≠some (.pb c):=fun c e=>by unfold uZ at h;rw[e] at h;exact h
noncomputable def gN(i:Nat):UG:=fun r μ Q=>match r with
 |.tr t=>uZ μ i/\Q (μ.set i (.tr t))
 |.fr c=>uZ μ i/\Q (μ.set i (.bx c))
 |.br _=>False
section
variable {X:Cx} {a b c e o tg:Expr} {es rest:List Expr} {ua ub uc ue uo:UE} {uA uB:UT} {us:UA} {pos pos' p p2 p3:Pos} {x:Str} {st:Stmt} {sts xs ys:List Stmt} {u w:US}
theorem mC:RG K (d5 i) (gN i):=fun F ad B σ H μ v r B0 H0 Q Qt hK h f q k=>by
 cases r with
 |tr t=>exact k ad B _ H _ (h.1.C4 (lV q.1) h.2) f q.2
 |br i=>exact q.elim
 |fr c =>
  obtain⟨l,a,rfl,n,h0,l2,x⟩:=h;exact k _ _ _ H _ (l2.setB (lV q.1) h0 n l.own l.gB x) f q.2
theorem aG(hN:X.N.Nodup)(hi:X.N[i]?=some x)(hx:Loc X.env.scope x)(hf:autoParam (X.fn x=true\/X.env.scope.names.lookup x=some .local) ℜ2):YG X (.Name x pos) (gN i):=⟨_,Z.aG hN hi hx hf,mC⟩
noncomputable def GZ:rO:=fun ts μ Q=>match ts with
 |[]=>Q μ
 |_=>False
noncomputable def Hl(g:UG)(gs:rO):rO:=fun ts μ Q=>match ts with
 |[]=>False
 |t::ts=>g (.tr t) μ fun μ'=>gs ts μ' Q
theorem fF:Gz X [] GZ:=⟨_,Z.fF,fun F ad B σ H μ vs ts B0 H0 Q Qt hK l r f q k=>by
 cases r with
 |nil=>exact⟨rfl,k ad B σ H μ l f q⟩
 |cons=>exact q.elim⟩
theorem bD{g:UG}{gs:rO}(h1:YG X e g)(h2:Gz X es gs)(hs:autoParam ((assignEach (e::es) X.env).map (·.2)=assign e X.env::(assignEach es X.env).map (·.2)) ℜ0):Gz X (e::es) (Hl g gs):=by
 obtain⟨t,q,r⟩:=h1;obtain⟨t',q',r'⟩:=h2;refine⟨_,Z.bD q q' hs,fun F ad B σ H μ vs ts B0 H0 Q Qt hK l rs f q k=>?_⟩
 cases rs with
 |nil=>exact q.elim
 |cons h hr=>exact⟨_,_,rfl,r F ad B σ H μ _ (.tr _) B H _ _ hK ⟨l,h⟩ Fr.refl q fun ad' B' σ' H' μ' l' f' q'=>r' F ad' B' σ' H' μ' _ _ B0 H0 _ _ hK l' (hr.fr f') (f.trans f') q' k⟩
noncomputable def gT(n:Nat)(gs:rO):UG:=fun r μ Q=>match cont μ r.d with
 |some (.tup ts)=>ts.length=n/\gs ts μ Q
 |some (.lst ts)=>ts.length=n/\gs ts μ Q
 |_=>False
noncomputable def G7(K:Pm)(n:Nat)(t:u4):TG:=fun v σ H Q=>∃ a xs,v=.ref a/\(cc K H a xs\/cx K H a xs)/\xs.length=n/\t xs σ H Q
theorem kH{prog:Program}{w:World}{A:Around}{E:Value->Shared->Prop}{t:Addr}(hne:t≠it):∀(n i:Nat) (s:Shared) (Q:List Value->Shared->Prop),s.heap.IsListIter it t i->s.heap.IsList t items->i+n<=items.size ->
  (∀ h',h'.IsListIter it t (i+n)->Heap.SameBut it s.heap h'->Q ((items.toList.drop i).take n) {s with heap:=h'})->wpAny (model prog w) A (draw (.ref it) n) Q E s
 |0,i,s,Q,hit,_,_,hQ=>by
  show wpAny _ _ (pure []) Q E s;exact Kb (by simpa using hQ s.heap hit (Heap.SameBut.refl ..))
 |n+1,i,s,Q,hit,ht,hle,hQ=>by
  have hlt:i<items.size:=by lia
  show wpAny _ _ (pyNext (.ref it) >>= _) Q E s;refine JU (O8 hit ht (x:=items[i]) (by simp[hlt]) fun h₁ hit₁ hs₁=>?_)
  refine JU (KP (kH hne n (i+1) _ _ hit₁ (ht.extBut hs₁.extBut hne) (by lia) fun h₂ hit₂ hs₂=>Kb ?_))
  have hd:items.toList.drop i=items[i]::items.toList.drop (i+1):=by simp[L_,hlt]
  have:=hQ h₂ (by rw[show i+(n+1)=i+1+n by lia];exact hit₂) (hs₁.trans hs₂)
  rw[hd,List.take_succ_cons] at this;exact this
theorem i3{w:World}{t:Addr}{Q:List Value->Shared->Prop}(hh:A.handled=none)(ht:s.heap.IsList t items)
  (hQ:∀ h',Heap.ExtBut s.heap.objs.size s.heap h'->Q items.toList {s with heap:=h'}):wpAny (model prog w) A (unpackItems (.ref t) items.size none) Q E s:=by
 have hlt:t≠s.heap.objs.size:=by obtain⟨o,ho,_⟩:=ht;exact K1 (Kn ho)
 unfold unpackItems;refine JU ?_
 ·unfold notIterableAtAll;refine JU (wpAny_specialOf ht.typeIs F.slot_list_iter.lookup ?_);refine Kb ?_;simp only[Lr,LJ];refine JU (KP (LW ht ?_));refine JU (KP (kH hlt items.size 0 _ _ ⟨_,Km _ rfl,rfl,rfl⟩ (ht.push _) (by lia) fun h₁ hit₁ hs₁=>?_))
  have hall:List.take items.size (List.drop 0 items.toList)=items.toList:=by
   rw[MO];exact LL (by simp)
  rw[hall];rw[JZ (by simp)]
  have ht₁:h₁.IsList t items:=(ht.push _).extBut hs₁.extBut hlt;refine JU (KP (wpAny_pyNext_list_end hh hit₁ ht₁ (by simp) fun h₂ he₂=>?_))
  simp only[Option.isSome_none,Lr,LJ];refine Kb (hQ h₂ fun b o hb e=>he₂ b o hb (hs₁.extBut b o hb (JW _ e)))
theorem za{t:u4}(hc:X.calm=true)(h:En X es t)
  (hn:autoParam ((assignEach es X.env).length=n) ℜ0) (hst:autoParam ((assignEach es X.env).findIdx? (·.1)=none) ℜ0):PG X (.Tuple es k pos) (G7 X.K n t):=by
 intro pins s σ H v u Q I r hw;obtain⟨a,xs,e1,hq,hl,hw⟩:=hw;rcases hq with hq|hq
 ·exact xJ hc h hn hst pins s σ H v u Q I r ⟨a,xs,e1,hq,hl,hw⟩
 ·subst e1;cases r;obtain⟨its,rv,ht,hz⟩:=I.list hq;rw[assign_Tuple];refine JU (MZ ?_);unfold unpack;have hsz:(assignEach es X.env).length=its.toArray.size:=by rw[hn,<- hl,rv.length];simp
  rw[hsz,hst];refine JU (KP (i3 (I.ok.hd hc) ht.isList fun h' hx=>?_));have I1:Inv X pins σ H {s with heap:=h'}:=I.kept (t':=s.toks) fun b o e=>hx b o (K1 (Kn e)) e
  exact h pins _ σ H xs _ Q I1 (by simpa using rv) hw
theorem D_(K:Pm)(hK:X.K=K){gs:rO}(hc:X.calm=true)(h:Gz X es gs)(hn:autoParam ((assignEach es X.env).length=n) ℜ0)(hst:autoParam ((assignEach es X.env).findIdx? (·.1)=none) ℜ0):YG X (.Tuple es k pos) (gT n gs):=by
 obtain⟨t,q,r⟩:=h;subst hK;refine⟨_,⟨za hc q.h hn hst⟩,fun F ad B σ H μ v rr B0 H0 Q Qt hF h f q k=>?_⟩;have l:=h.rl;have f':Fr B0 H0 B H:=fun b o h n=>⟨(f b o h n).1,fun z=>(f b o h n).2 (by cases rr<;>first|exact z | (cases v<;>first|exact z|exact .inr z))⟩
 unfold gT at q
 split at q
 ·rename_i ts e;have w:=h.hv.vw l e;rw[hF] at w
  cases w with
  |tup ha ra=>exact⟨_,_,rfl,.inl (cc.of ha),by rw[ra.length];exact q.1,r F ad B σ H μ _ ts B0 H0 Q Qt hF l (by rw[hF];exact ra) f' q.2 k⟩
 ·rename_i ts e;have w:=h.hv.vw l e;rw[hF] at w
  cases w with
  |lst ha ra=>exact⟨_,_,rfl,.inr (cx.of ha),by rw[ra.length];exact q.1,r F ad B σ H μ _ ts B0 H0 Q Qt hF l (by rw[hF];exact ra) f' q.2 k⟩
 ·exact q.elim
theorem bN:YB X [] (fun E μ=>E.nx μ):=⟨_,Z.bN,fun F D E ad B σ H μ hK l q h=>h.nx ad B σ H μ l Fr.refl q⟩
theorem aA(h:YS X st u):YB X [st] u:=by obtain⟨t,q,r⟩:=h;exact⟨t,Z.aA q,r⟩
noncomputable def A7(u w:US):US:=fun E μ=>u {E with nx:=w E} μ
theorem af(h:YS X st u)(h2:YB X sts w):YB X (st::sts) (A7 u w):=by
 obtain⟨t,q,r⟩:=h;obtain⟨t',q',r'⟩:=h2;exact⟨_,Z.af q q',fun F D E ad B σ H μ hK l q h=>r F {D with nx:=t' D} {E with nx:=w E} ad B σ H μ hK l q
  ⟨fun ad1 B1 σ1 H1 μ1 l1 f1 q1=>r' F D E ad1 B1 σ1 H1 μ1 hK l1 q1 (h.step f1),h.rt,h.bk,h.ct⟩⟩
noncomputable def jC(ue:UE)(g:UG):US:=fun E μ=>ue μ fun r μ'=>g r μ' E.nx
theorem kh{tg:TG}{g:UG}(he:RE K te ue)(hg:RG K tg g):RS K (qo te tg) (jC ue g):=fun F D E ad B σ H μ hK l q h =>
 he F ad B σ H μ _ _ hK l q fun v H' r μ' v1 f k1 q1=>hg F ad B σ H' μ' v r B H _ _ hK v1 f q1 fun ad' B' σ' H2 μ2 l2 f2 q2=>h.nx ad' B' σ' H2 μ2 l2 f2 q2
theorem set(hN:X.N.Nodup)(hi:X.N[i]?=some x)(hx:Loc X.env.scope x)(he:YE X e ue)(hs:autoParam (Z.Er e=true) ℜ0)(hf:autoParam (X.fn x=true\/X.env.scope.names.lookup x=some .local) ℜ2):
  YS X (.Assign [.Name x pos'] e pos) (jC ue (gN i)):=by
 obtain⟨t,q,r⟩:=he;exact⟨_,Z.set hN hi hx q hs hf,kh r mC⟩
theorem asg{g:UG}(he:YE X e ue)(hg:YG X tg g)(hs:autoParam (swapsWithSole [tg] e pos.line X.env=pure false) ℜ0)(hw:autoParam (swappedStores [tg] e X.env=pure none) ℜ0)
  (h1:autoParam ((assignEach [tg] X.env).map (·.2)=[assign tg X.env]) ℜ0):YS X (.Assign [tg] e pos) (jC ue g):=by
 obtain⟨t,q,r⟩:=he;obtain⟨t',q',r'⟩:=hg;exact⟨_,Z.asg q q' hs hw h1,kh r r'⟩
noncomputable def tW(ue:UE):US:=fun E μ=>ue μ E.rt
theorem ret(he:YE X e ue):YS X (.Return (some e) pos) (tW ue):=by
 obtain⟨t,q,r⟩:=he;exact⟨_,Z.ret q,fun F D E ad B σ H μ hK l q h=>r F ad B σ H μ _ _ hK l q fun v H' r1 μ' v1 f k1 q1=>h.rt ad B σ H' μ' v r1 v1 q1⟩
noncomputable def sA(ue:UE):US:=fun E μ=>ue μ fun _ μ'=>E.nx μ'
theorem expr(he:YE X e ue)(hs:autoParam (Z.Er e=true) ℜ0):YS X (.Expr e pos) (sA ue):=by
 obtain⟨t,q,r⟩:=he;exact⟨_,Z.expr q hs,fun F D E ad B σ H μ hK l q h=>r F ad B σ H μ _ _ hK l q fun v H' r1 μ' v1 f k1 q1=>h.nx ad B σ H' μ' v1.rl f.d q1⟩
noncomputable def tm(c:UT)(u w:US):US:=fun E μ=>c μ fun b μ'=>if b=true then u E μ' else w E μ'
theorem eL(hc:YT X c uA)(ha:YB X xs u)(hb:YB X ys w):YS X (.If c xs ys pos) (tm uA u w):=by
 obtain⟨tc,qc,rc⟩:=hc;obtain⟨t,q,r⟩:=ha;obtain⟨t',q',r'⟩:=hb;refine⟨_,Z.eL qc q q',fun F D E ad B σ H μ hK l q h=>rc F ad B σ H μ _ _ hK l q fun b H' μ' l1 f k1 q1=>?_⟩
 cases b with
 |true=>rw[Ke rfl] at q1 ⊢;exact r F D E ad B σ H' μ' hK l1 q1 (h.step f)
 |false=>rw[JZ Ka] at q1 ⊢;exact r' F D E ad B σ H' μ' hK l1 q1 (h.step f)
end
end Y
structure iS (K:Pm) (J:It) (Src:Hp->aX->Prop) (items:List T):Prop where
 step:∀ H B i t,(∀ b,B b->∃ o,H b=some o)->Src H B->items[i]?=some t->J.go i H/\∀ x H2,J.G1 i H x H2->bL H H2/\Rep K H2 B x t
 stop:∀ H B,Src H B->J.stop items.length H
theorem iS.imp{J:It}{Src':Hp->aX->Prop}{items:List T}(h:iS K J Src items)(f:∀ H B,Src' H B->Src H B):iS K J Src' items:=⟨fun H B i t hb s e=>h.step H B i t hb (f H B s) e,fun H B s=>h.stop H B (f H B s)⟩
noncomputable def EC(F:Fx)(ad:Nat->Addr)(Src:Hp->aX->Prop):Option (Nat×List T)->Prop
 |none=>∀ B1 H1 B2 H2,Fr B1 H1 B2 H2->Src H1 B1->Src H2 B2
 |some (j,ls)=>(∀ B' σ' H' μ',Rl F ad B' σ' H' μ'->cont μ' (.br j)=some (.lst ls)->Src H' B')/\∀ B' H',Rep F.K H' B' (.ref (ad j)) (.lst ls)->Src H' B'
abbrev UI:=Mu->(List T->Option (Nat×List T)->Mu->Prop)->Prop
noncomputable def RI(K:Pm)(wi:TI)(ui:UI):Prop:=∀(F:Fx) (ad:Nat->Addr) (B:aX) (σ:St) (H:Hp) (μ:Mu) (R:It->Hp->Prop) (Rt:List T->Option (Nat×List T)->Mu->Prop),F.K=K->Rl F ad B σ H μ->ui μ Rt ->
 (∀ J H' μ' items gd Src,Rl F ad B σ H' μ'->Fr B H B H'->Kp μ μ'->iS K J Src items->Src H' B->EC F ad Src gd->(∀ j ls,gd=some (j,ls)->cont μ' (.br j)=some (.lst ls))->Rt items gd μ'->R J H')->wi σ H R
structure YI (X:Cx) (tg it:Expr) (u:UI):Prop where
 ex:∃ t,QI X tg it t/\RI X.K t u
theorem yw:iS K (G0 K a) (fun H B=>∃ vs,cx K H a vs/\ay K H B vs ts) ts:=
 ⟨fun H B i t hb ⟨vs,h,r⟩ e=>by
  obtain⟨v,e1,rv⟩:=r.get e;refine⟨⟨vs,v,h,e1⟩,fun x H2 y=>?_⟩;obtain⟨rfl,y⟩:=y;have:=y vs h;rw[e1] at this;cases this;exact⟨bL.refl _,rv⟩,fun H B ⟨vs,h,r⟩=>⟨vs,h,by rw[r.length];exact Kc _⟩⟩
theorem CC:iS K (E2 K a) (fun H B=>∃ vs,cc K H a vs/\ay K H B vs ts) ts:=
 ⟨fun H B i t hb ⟨vs,h,r⟩ e=>by
  obtain⟨v,e1,rv⟩:=r.get e;refine⟨⟨vs,v,h,e1⟩,fun x H2 y=>?_⟩;obtain⟨rfl,y⟩:=y;have:=y vs h;rw[e1] at this;cases this;exact⟨bL.refl _,rv⟩,fun H B ⟨vs,h,r⟩=>⟨vs,h,by rw[r.length];exact Kc _⟩⟩
noncomputable def pairs(ts:List T):List T:=(List.range ts.length).map fun i=>.tup [.int (i:Nat),(ts[i]?).getD .aC]
theorem Cn:iS K (y_ K a) (fun H B=>∃ vs,cc K H a vs/\ay K H B vs ts) (pairs ts):=by
 refine⟨fun H B i t hb ⟨vs,h,r⟩ e=>?_,fun H B ⟨vs,h,r⟩=>⟨vs,h,by rw[r.length];simp[pairs]⟩⟩
 unfold pairs at e;rw[Kg] at e;have hi:i<ts.length:=by
  rcases KR i ts.length with z|z
  ·exact z
  ·rw[K0.mpr (by simpa using z)] at e;cases e
 rw[L0 hi] at e;have e':T.tup [.int (i:Nat),(ts[i]?).getD .aC]=t:=Option.some.inj e;have et:ts[i]?=some ts[i]:=JV hi;obtain⟨v,e1,rv⟩:=r.get et;refine⟨⟨v,vs,h,e1⟩,fun x H2 y=>?_⟩;obtain⟨p,y,hy,hp,rfl,rfl⟩:=y;have:=hy vs h;rw[e1] at this;cases this;subst e';rw[et];refine⟨bL.new hp,.tup (fun z=>?_) az (.cons (.int _) (.cons (rv.fr (Fr.same (bL.new hp))) .nil))⟩;obtain⟨o,q⟩:=hb p z;rw[hp] at q;cases q
theorem DW{lo:Int}:iS K (G6 lo n) (fun _ _=>True) ((List.range n).map fun k=>T.int (lo+(k:Nat))):=
 ⟨fun H B i t hb _ e=>by
  rw[Kg] at e;have hi:i<n:=by
   rcases KR i n with z|z
   ·exact z
   ·rw[K0.mpr (by simpa using z)] at e;cases e
  rw[L0 hi] at e;refine⟨hi,fun x H2 y=>?_⟩;obtain⟨rfl,rfl⟩:=y;cases e;exact⟨bL.refl _,.int _⟩,fun H B _=>by simp[G6]⟩
noncomputable def Im(K:Pm)(tl:TE):TI:=fun σ H R=>tl σ H fun x H1=>∃ a,x=V.ref a/\(((∃ xs,cx K H1 a xs)/\R (G0 K a) H1)\/((∃ xs,cc K H1 a xs)/\R (E2 K a) H1))
theorem D7{l:Expr}{tl:TE}(hl:PE X l tl):PI X tg l (Im X.K tl):=by
 intro pins s σ H R I h;refine bS (hl pins s σ H _ I h) fun v s1 ⟨x,H1,I1,r1,q1⟩=>?_;obtain⟨a,rfl,q⟩:=q1;cases r1;rcases q with ⟨⟨xs,hq⟩,q⟩|⟨⟨xs,hq⟩,q⟩
 ·obtain⟨its,rv,p,hz⟩:=I1.list hq;refine LW p.isList ?_;refine⟨s1.heap.objs.size,[s1.heap.objs.size],_,_,H1,rfl,I1.kept (t':=s1.toks) fun b o e=>JW _ e,sY a _,⟨_,Km _ rfl,rfl,rfl⟩,fun b hb=>?_,q⟩;have e:b=s1.heap.objs.size:=by simpa using hb
  subst e;exact I1.qm (Kc _) (I1.aO.fresh (Kc _))
 ·obtain⟨its,rv,p,hz⟩:=I1.tuple hq;refine L5 (show s1.heap.IsTuple a its.toArray from p) ?_;refine⟨s1.heap.objs.size,[s1.heap.objs.size],_,_,H1,rfl,I1.kept (t':=s1.toks) fun b o e=>JW _ e,pB a _,⟨_,Km _ rfl,rfl,rfl⟩,fun b hb=>?_,q⟩;have e:b=s1.heap.objs.size:=by simpa using hb
  subst e;exact I1.qm (Kc _) (I1.aO.fresh (Kc _))
namespace Y
section
variable {X:Cx} {a b c e o tg it:Expr} {es rest:List Expr} {ua ub uc ue uo:UE} {uA uB:UT} {us:UA} {pos pos' p p2 p3:Pos} {x:Str} {st:Stmt} {sts xs ys:List Stmt} {u w:US}
noncomputable def BB(ue:UE):UI:=fun μ Rt=>ue μ fun r μ'=>match r with
 |.br j=>(match cont μ' (.br j) with|some (.lst ts)=>Rt ts (some (j,ts)) μ'|_=>False)
 |.tr (.lst ts)=>Rt ts none μ'
 |.fr (.lst ts)=>Rt ts none μ'
 |.tr (.tup ts)=>Rt ts none μ'
 |.tr (.ee ts)=>Rt ts none μ'
 |.tr (.dZ ts)=>Rt ts none μ'
 |_=>False
theorem any(K:Pm)(hK:X.K=K)(he:YE X e ue):YI X tg e (BB ue):=by
 obtain⟨t,q,r⟩:=he;subst hK;refine⟨_,⟨D7 q.h⟩,fun F ad B σ H μ R Rt hF l q k=>r F ad B σ H μ _ _ hF l q fun v H' r1 μ' v1 f k1 q1=>?_⟩;have hv:=v1.hv;have l1:=v1.rl;have go:∀(ts:List T) (a:Addr) (t:T),v=.ref a->Rep F.K H' B (.ref a) t->(t=.lst ts\/t=.ee ts)->Rt ts none μ'->∃ a,v=V.ref a/\(((∃ xs,cx X.K H' a xs)/\R (G0 X.K a) H')\/((∃ xs,cc X.K H' a xs)/\R (E2 X.K a) H')):=fun ts a t ev rp et q=>by
  have sr:∀ H B,Rep F.K H B (.ref a) t->∃ vs,cx X.K H a vs/\ay X.K H B vs ts:=fun H B h=>by
   rw[hF] at h;rcases et with rfl|rfl
   ·cases h with|lst n h r=>exact⟨_,cx.of h,r⟩
   ·cases h with|ee h r=>exact⟨_,h.sq,r⟩
  obtain⟨vs,h1,_⟩:=sr _ _ rp;exact⟨a,ev,.inl ⟨⟨vs,h1⟩,k _ H' μ' ts none (fun H B=>Rep F.K H B (.ref a) t) l1 f.d k1 (yw.imp sr) rp (fun B1 H1 B2 H2 f h=>h.fr f) (fun j ls z=>by cases z) q⟩⟩
 have goT:∀(ts:List T) (a:Addr) (t:T),v=.ref a->Rep F.K H' B (.ref a) t->(t=.tup ts\/t=.dZ ts)->Rt ts none μ'->∃ a,v=V.ref a/\(((∃ xs,cx X.K H' a xs)/\R (G0 X.K a) H')\/((∃ xs,cc X.K H' a xs)/\R (E2 X.K a) H')):=fun ts a t ev rp et q=>by
  have sr:∀ H B,Rep F.K H B (.ref a) t->∃ vs,cc X.K H a vs/\ay X.K H B vs ts:=fun H B h=>by
   rw[hF] at h;rcases et with rfl|rfl
   ·cases h with|tup n h r=>exact⟨_,cc.of h,r⟩
   ·cases h with|dZ h r=>exact⟨_,.inr h,r⟩
  obtain⟨vs,h1,_⟩:=sr _ _ rp;exact⟨a,ev,.inr ⟨⟨vs,h1⟩,k _ H' μ' ts none (fun H B=>Rep F.K H B (.ref a) t) l1 f.d k1 (CC.imp sr) rp (fun B1 H1 B2 H2 f h=>h.fr f) (fun j ls z=>by cases z) q⟩⟩
 split at q1
 ·rename_i j
  split at q1
  ·rename_i ts e;obtain⟨ev,s,c,e1,e2⟩:=hv;have src:∀ B' σ' H' μ',Rl F ad B' σ' H' μ'->cont μ' (.br j)=some (.lst ts)->∃ vs,cx X.K H' (ad j) vs/\ay X.K H' B' vs ts:=fun B' σ' H' μ' l e=>by
    have e3:(μ'[j]?).bind Sl.box=some (.lst ts):=e
    cases q:μ'[j]? with
    |none=>rw[q] at e3;cases e3
    |some s' =>
     rw[q] at e3;have bx:=((l.slot j s' q).boxed (c:=.lst ts) e3).2.2.1;rw[hF] at bx;obtain⟨vs,h1,h2⟩:=bx;exact⟨vs,cx.of h1,h2⟩
   obtain⟨vs,h1,h2⟩:=src _ _ _ _ l1 e;refine⟨ad j,ev,.inl ⟨⟨vs,h1⟩,k _ H' μ' ts (some (j,ts)) _ l1 f.d k1 yw ⟨vs,h1,h2⟩ ⟨src,fun B' H' h=>?_⟩ (fun j' ls z=>by cases z;exact e) q1⟩⟩
   rw[hF] at h
   cases h with|lst n h r=>exact⟨_,cx.of h,r⟩
  ·exact q1.elim
 ·have rp:Rep F.K H' B v _:=hv
  cases rp with|lst n h r=>exact go _ _ _ rfl (.lst n h r) (.inl rfl) q1
 ·have rp:Rep F.K H' B v _:=hv
  cases rp with|lst n h r=>exact go _ _ _ rfl (.lst n h r) (.inl rfl) q1
 ·have rp:Rep F.K H' B v _:=hv
  cases rp with|tup n h r=>exact goT _ _ _ rfl (.tup n h r) (.inl rfl) q1
 ·have rp:Rep F.K H' B v _:=hv
  cases rp with|ee h r=>exact go _ _ _ rfl (.ee h r) (.inr rfl) q1
 ·have rp:Rep F.K H' B v _:=hv
  cases rp with|dZ h r=>exact goT _ _ _ rfl (.dZ h r) (.inr rfl) q1
 ·exact q1.elim
noncomputable def GY(us:UA):UI:=fun μ Rt=>us μ fun rs μ'=>match rs with
 |[.tr (.int j)]=>-(2^62)<=j/\j<2^62/\Rt ((List.range j.toNat).map fun k=>T.int (0+(k:Nat))) none μ'
 |_=>False
theorem jk(hg:Gl X "range")(hm:X.mg "range"=none)(ha:YA X [a] us)(h:autoParam (cS a=true) ℜ0):YI X tg (.Call (.Name "range" p) [a] [] pos) (GY us):=by
 obtain⟨t,q,r⟩:=ha;refine⟨_,Z.jk hg hm q h,fun F ad B σ H μ R Rt hF l q k=>r F ad B σ H μ _ _ hF l q fun vs H' rs μ' l1 ps f k1 q1=>?_⟩
 split at q1
 ·cases ps with
  |cons h1 ps=>cases ps;cases b8 h1;exact⟨_,rfl,q1.1,q1.2.1,k _ H' μ' _ none _ l1 f k1 DW trivial (fun _ _ _ _ _ _=>trivial) (fun j ls z=>by cases z) q1.2.2⟩
 ·exact q1.elim
noncomputable def Hh(us:UA):UI:=fun μ Rt=>us μ fun rs μ'=>match rs with
 |[.tr (.tup ts)]=>Rt (pairs ts) none μ'
 |_=>False
theorem enum(K:Pm)(hK:X.K=K)(hg:Gl X "enumerate")(hm:X.mg "enumerate"=none)(ha:YA X [e] us)(h1:autoParam (cS e=true) ℜ0):YI X (.Tuple es k tp) (.Call (.Name "enumerate" p) [e] [] pos) (Hh us):=by
 obtain⟨t,q,r⟩:=ha;refine⟨_,Z.enum K hK hg hm q h1,fun F ad B σ H μ R Rt hF l q k=>r F ad B σ H μ _ _ hF l q fun vs H' rs μ' l1 ps f k1 q1=>?_⟩;have hF':F.K=K:=hF.trans hK
 split at q1
 ·rename_i ts
  cases ps with
  |cons h1 ps =>
   cases ps;have rp:=b8 h1
   cases rp with
   |@tup a vs _ n h rr =>
    have sr:∀ H B,Rep F.K H B (.ref a) (.tup ts)->∃ vs,cc X.K H a vs/\ay X.K H B vs ts:=fun H B h=>by
     rw[hF] at h
     cases h with|tup n h r=>exact⟨_,cc.of h,r⟩
    refine⟨a,rfl,⟨vs,cc.of h⟩,?_⟩;have:=k (y_ X.K a) H' μ' (pairs ts) none (fun H B=>Rep F.K H B (.ref a) (.tup ts)) l1 f k1 (Cn.imp sr) (.tup n h rr) (fun B1 H1 B2 H2 f h=>h.fr f) (fun j ls z=>by cases z) q1
    rw[hK] at this;exact this
 ·exact q1.elim
noncomputable def fH(g:UG)(body:US)(E:Ed):List T->Mu->Prop
 |[],μ=>E.nx μ
 |t::ts,μ=>g (.tr t) μ fun μ1=>body {E with nx:=fH g body E ts,ct:=fH g body E ts,bk:=E.nx} μ1
noncomputable def vo(ui:UI)(g:UG)(body:US):US:=fun E μ=>ui μ fun items gd μ'=>match gd with
 |none=>fH g body E items μ'
 |some (j,_)=>(match μ'[j]? with
  |some (.bx c)=>fH g body E items (μ'.set j (.tr c))
  |_=>False)
theorem nV{g:TG}{ug:UG}{tb:TS}{body:US}{D:Ends}{E:Ed}{J:It}{items:List T}{B0:aX}{H0:Hp}(hF:F.K=K)(hg:RG K g ug)(hb:RS K tb body)(it:iS K J Src items)
  (pe:∀ B1 H1 B2 H2,Fr B1 H1 B2 H2->Src H1 B1->Src H2 B2) (hE:tT F B0 H0 D E)      (l:Rl F ad B σ H μ) (f:Fr B0 H0 B H) (sr:Src H B) (q:fH ug body E items μ) :
  ∃ W:Nat->Nat->St->Hp->Prop,(∃ m,W 0 m σ H)/\∀ i m σ H,W i m σ H ->
   (J.stop i H/\D.nx σ H)\/(J.go i H/\∃ N:St->Hp->Prop,(∀ σ' H',N σ' H'->∃ m',m'<m/\W (i+1) m' σ' H')/\∀ x H',J.G1 i H x H'->g x σ H' fun σ2 H2=>tb {D with nx:=N,ct:=N,bk:=D.nx} σ2 H2):=by
 refine⟨fun i m σ H=>m=items.length-i/\i<=items.length/\∃ ad B μ,Rl F ad B σ H μ/\Fr B0 H0 B H/\Src H B/\fH ug body E (items.drop i) μ,⟨items.length,by simp,KN _,ad,B,μ,l,f,sr,q⟩,?_⟩
 rintro i m σ H ⟨rfl,hi,ad,B,μ,l,f,sr,q⟩;by_cases hlt:i<items.length
 ·have ei:items[i]?=some items[i]:=JV hlt;rw[L_ hlt] at q;obtain⟨go,yl⟩:=it.step H B i _ l.gj sr ei;refine .inr ⟨go,fun σ' H'=>∃ ad' B' μ',Rl F ad' B' σ' H' μ'/\Fr B0 H0 B' H'/\Src H' B'/\fH ug body E (items.drop (i+1)) μ',fun σ' H' h=>⟨items.length-(i+1),by lia,rfl,hlt,h⟩,fun x H2 y=>?_⟩
  obtain⟨sm,rp⟩:=yl x H2 y;refine hg F ad B σ H2 μ x (.tr _) B H2 _ _ hF ⟨l.same sm,by show Rep F.K H2 B x _;rw[hF];exact rp⟩ Fr.refl q fun ad3 B3 σ3 H3 μ3 l3 f3 q3=>?_
  have f03:Fr B0 H0 B3 H3:=(f.trans (Fr.same sm)).trans f3;have s3:Src H3 B3:=pe _ _ _ _ ((Fr.same sm).trans f3) sr;exact hb F _ _ ad3 B3 σ3 H3 μ3 hF l3 q3 ⟨fun ad' B' σ' H' μ' l' f' q'=>⟨ad',B',μ',l',f03.trans f',pe _ _ _ _ f' s3,q'⟩,hE.rt,fun ad' B' σ' H' μ' l' f' q'=>hE.nx ad' B' σ' H' μ' l' (f03.trans f') q',fun ad' B' σ' H' μ' l' f' q'=>⟨ad',B',μ',l',f03.trans f',pe _ _ _ _ f' s3,q'⟩⟩
 ·have e:i=items.length:=by lia
  subst e;rw[List.drop_length] at q;exact .inl ⟨it.stop H B sr,hE.nx ad B σ H μ l f q⟩
theorem eU{ui:UI}{g:UG}(hp:PassesOwn (model X.prog X.w) X.A X.env X.xe)(hc:X.calm=true)(hi:YI X tg it ui)(hg:YG X tg g)(hb:YB X xs u)(hs:autoParam (∀ x,foldedSetIterable it X.env x=pure x) ℜ3):YS X (.For tg it xs [] pos) (vo ui g u):=by
 obtain⟨ti,qi,ri⟩:=hi;obtain⟨tg',qg,rg⟩:=hg;obtain⟨t,q,r⟩:=hb;refine⟨_,Z.eU hp hc qi qg q hs,fun F D E ad B σ H μ hF l q h=>ri F ad B σ H μ _ _ hF l q fun J H' μ' items gd Src l1 f1 k1 it sr so gok q1=>?_⟩
 split at q1
 ·exact nV hF rg r it so h l1 f1 sr q1
 ·rename_i j ls
  split at q1
  ·rename_i c ej;have bx:=l1.slot j _ ej;have hc:¬ F.Bc (ad j):=fun z=>by
    obtain⟨o,e⟩:=F.bh _ z;rw[bx.2.2.1] at e;cases e
   obtain⟨l2,rp⟩:=l1.freeze ej hc;have ec:c=.lst ls:=by
    have:=gok j ls rfl;have e2:(μ'[j]?).bind Sl.box=some (.lst ls):=this;rw[ej] at e2;exact Option.some.inj e2
   subst ec;exact nV (Src:=fun H B=>Rep F.K H B (.ref (ad j)) (.lst ls)) hF rg r (it.imp fun H B h=>so.2 B H h) (fun B1 H1 B2 H2 f h=>h.fr f) h l2 (f1.trans (Fr.less fun b z=>z.1)) rp q1
  ·exact q1.elim
noncomputable def DA(c:UT)(body:US):US:=fun E μ=>∃ I:Nat->Mu->Prop,(∃ m,I m μ)/\∀ m μ,I m μ->c μ fun b μ'=>if b=true then body {E with nx:=fun μ2=>∃ m',m'<m/\I m' μ2,ct:=fun μ2=>∃ m',m'<m/\I m' μ2,bk:=E.nx} μ' else E.nx μ'
theorem ki(hp:PassesOwn (model X.prog X.w) X.A X.env X.xe)(hc:YT X c uA)(hb:YB X xs u):YS X (.While c xs [] pos) (DA uA u):=by
 obtain⟨tc,qc,rc⟩:=hc;obtain⟨t,q,r⟩:=hb;refine⟨_,Z.ki hp qc q,fun F D E ad B σ H μ hF l q h=>?_⟩;obtain⟨I,⟨m0,i0⟩,turn⟩:=q;refine⟨fun m σ' H'=>∃ ad' B' μ',Rl F ad' B' σ' H' μ'/\Fr B H B' H'/\I m μ',⟨m0,ad,B,μ,l,Fr.refl,i0⟩,?_⟩;rintro m σ1 H1 ⟨ad1,B1,μ1,l1,f1,i1⟩;refine rc F ad1 B1 σ1 H1 μ1 _ _ hF l1 (turn m μ1 i1) fun b H2 μ2 l2 f2 k2 q2=>?_
 cases b with
 |true =>
  rw[Ke rfl] at q2 ⊢;refine⟨fun σ' H'=>∃ m',m'<m/\∃ ad' B' μ',Rl F ad' B' σ' H' μ'/\Fr B H B' H'/\I m' μ',fun σ' H' h=>h,?_⟩;have hn:∀ ad' B' σ' H' μ',Rl F ad' B' σ' H' μ'->Fr B1 H2 B' H'->(∃ m',m'<m/\I m' μ')->∃ m',m'<m/\∃ ad' B' μ',Rl F ad' B' σ' H' μ'/\Fr B H B' H'/\I m' μ':=fun ad' B' σ' H' μ' l' f' ⟨m',hm,i'⟩=>⟨m',hm,ad',B',μ',l',(f1.trans f2).trans f',i'⟩;exact r F _ _ ad1 B1 σ1 H2 μ2 hF l2 q2 ⟨hn,h.rt,fun ad' B' σ' H' μ' l' f' q'=>h.nx ad' B' σ' H' μ' l' ((f1.trans f2).trans f') q',hn⟩
 |false =>
  rw[JZ Ka] at q2 ⊢;exact h.nx ad1 B1 σ1 H2 μ2 l2 (f1.trans f2) q2
end
end Y
noncomputable def uW(K:Pm)(u:UE):TE:=fun σ H Q=>∃(F:Fx) (ad:Nat->Addr) (B:aX) (μ:Mu) (Qt:R->Mu->Prop),F.K=K/\Rl F ad B σ H μ/\u μ Qt/\∀ v H' r μ',Vr F ad B σ H' μ' v r->Fr B H (Bv B v r) H'->Kp μ μ'->Qt r μ'->Q v H'
noncomputable def s_(K:Pm)(u:UT):TT:=fun σ H Q=>∃(F:Fx) (ad:Nat->Addr) (B:aX) (μ:Mu) (Qt:Bool->Mu->Prop),F.K=K/\Rl F ad B σ H μ/\u μ Qt/\∀ b H' μ',Rl F ad B σ H' μ'->Fr B H B H'->Kp μ μ'->Qt b μ'->Q b H'
theorem YE.AA{u:UE}(h:YE X e u):QE X e (uW X.K u):=⟨fun pins s σ H Q I hh=>by
 obtain⟨F,ad,B,μ,Qt,hF,l,q,k⟩:=hh;obtain⟨t,qe,r⟩:=h;exact qe.h pins s σ H Q I (r F ad B σ H μ Q Qt hF l q k)⟩
theorem Bh.AA{e:List Expr}{u:UT}(h:Bh X e u):Ew X e (s_ X.K u):=⟨fun pins s σ H Q I hh=>by
 obtain⟨F,ad,B,μ,Qt,hF,l,q,k⟩:=hh;obtain⟨t,qe,r⟩:=h;exact qe.h pins s σ H Q I (r F ad B σ H μ Q Qt hF l q k)⟩
theorem rX{u:UE}:RE K (uW K u) u:=fun F ad B σ H μ Q Qt hF l q k=>⟨F,ad,B,μ,Qt,hF,l,q,k⟩
theorem r9{u:UT}:RT K (s_ K u) u:=fun F ad B σ H μ Q Qt hF l q k=>⟨F,ad,B,μ,Qt,hF,l,q,k⟩
noncomputable def Fx.sh(F:Fx):Fx:={F with P:=fun i=>match i with|0=>none|i+1=>F.P i}
noncomputable def E8(ad:Nat->Addr):Nat->Addr:=fun i=>match i with|0=>0|i+1=>ad i
theorem Rl.push{x:V}{t:T}(l:Rl F ad B σ H μ)(h:Rep F.K H B x t):Rl F.sh (E8 ad) B (some x::σ) H (.tr t::μ):=by
 refine⟨K4 (·+1) l.len,fun i s e=>?_,fun i j s u c d e1 e2 b1 b2 q=>?_,fun i a p=>?_,l.bc,l.gj,fun b o e n=>l.old b o e fun i z=>n (i+1) z,fun a ws ga=>?_⟩
 ·cases i with
  |zero =>
   have e':Sl.tr t=s:=by simpa using e
   subst e';exact⟨x,rfl,h⟩
  |succ i=>exact l.slot i s (by simpa using e)
 ·cases i with
  |zero =>
   have e':Sl.tr t=s:=by simpa using e1
   subst e';cases b1
  |succ i=>cases j with
   |zero =>
    have e':Sl.tr t=u:=by simpa using e2
    subst e';cases b2
   |succ j=>exact K4 (·+1) (l.inj i j s u c d (by simpa using e1) (by simpa using e2) b1 b2 q)
 ·cases i with
  |zero=>cases p
  |succ i=>obtain⟨⟨c,e⟩,z⟩:=l.par i a p;exact⟨⟨c,by simpa using e⟩,z⟩
 ·obtain⟨g1,g2,g3⟩:=l.gh a ws ga;refine⟨g1,g2,fun i s c e b=>?_⟩
  cases i with
  |zero =>
   have e':Sl.tr t=s:=by simpa using e
   subst e';cases b
  |succ i=>exact g3 i s c (by simpa using e) b
theorem Rl.Cg{y:Option V}(l:Rl F.sh (E8 ad) B (y::σ) H μ):Rl F ad B σ H μ.tail:=by
 have get:∀ i,μ.tail[i]?=μ[i+1]?:=fun i=>by cases μ<;>simp
 refine⟨?_,fun i s e=>?_,fun i j s u c d e1 e2 b1 b2 q=>?_,fun i a p=>?_,l.bc,l.gj,fun b o e n=>l.old b o e fun i z=>?_,fun a ws ga=>let ⟨g1,g2,g3⟩:=l.gh a ws ga;⟨g1,g2,fun i s c e b=>g3 (i+1) s c (by rw[<- get];exact e) b⟩⟩
 ·have:=l.len;rw[Of,this];rfl
 ·rw[get] at e;exact l.slot (i+1) s e
 ·rw[get] at e1 e2;exact Nat.succ.inj (l.inj (i+1) (j+1) s u c d e1 e2 b1 b2 q)
 ·obtain⟨⟨c,e⟩,z⟩:=l.par (i+1) a p;exact⟨⟨c,by rw[get];exact e⟩,z⟩
 ·cases i with
  |zero=>cases z
  |succ i=>exact n i z
theorem Kp.tail{s:Sl}(k:Kp (s::μ) μ'):Kp μ μ'.tail:=fun i=>by
 have:=k (i+1);rw[Oy] at this;rw[this]
 cases μ'<;>simp
noncomputable def Fx.g(F:Fx)(D:Addr)(ys:List V):Fx:={F with G:=fun b=>if b=D then some ys else F.G b}
section
variable {F:Fx} {ad:Nat->Addr} {B:aX} {σ:St} {H:Hp} {μ:Mu} {D:Addr} {ys zs:List V}
theorem Rl.HH(l:Rl F ad B σ H μ)(h:H D=some (.lst ys))(hb:B D)(n:∀(i:Nat) (s:Sl) (c:T),μ[i]?=some s->s.box=some c->ad i≠D):Rl (F.g D ys) ad B σ H μ:=by
 refine⟨l.len,l.slot,l.inj,l.par,l.bc,l.gj,l.old,fun a vs e=>?_⟩;have e':(if a=D then some ys else F.G a)=some vs:=e
 by_cases z:a=D
 ·rw[Ke z] at e';cases e';subst z;exact⟨h,hb,n⟩
 ·rw[JZ z] at e';exact l.gh a vs e'
theorem Rl.Ir(l:Rl (F.g D ys) ad B σ H μ):H D=some (.lst ys)/\B D/\∀(i:Nat) (s:Sl) (c:T),μ[i]?=some s->s.box=some c->ad i≠D:=l.gh D ys (show (if D=D then some ys else F.G D)=some ys from Ke rfl)
theorem Rl.B6(l:Rl (F.g D ys) ad B σ H μ)(hg:F.G D=none):Rl F ad B σ H μ:=by
 refine⟨l.len,l.slot,l.inj,l.par,l.bc,l.gj,l.old,fun a vs e=>l.gh a vs ?_⟩;show (if a=D then some ys else F.G a)=some vs
 rw[JZ (by rintro rfl;rw[hg] at e;cases e)]
 exact e
theorem Rl.setG(l:Rl (F.g D ys) ad B σ H μ)(h0:F.H0 D=none):Rl (F.g D zs) ad B σ (upd H D (.lst zs)) μ:=by
 obtain⟨g1,g2,g3⟩:=l.Ir;have f:Fr B H B (upd H D (.lst zs)):=Fr.set g2;refine⟨l.len,fun i s e=>?_,l.inj,l.par,l.bc,fun b z=>?_,fun b o e n=>?_,fun a vs e=>?_⟩
 ·have k:=l.slot i s e;unfold iY at k ⊢
  split at k
  ·trivial
  ·obtain⟨v,e1,r1⟩:=k;exact⟨v,e1,r1.fr f⟩
  ·obtain⟨e1,b,z0,p,x⟩:=k;exact⟨e1,b,z0,p,x.of (aj (g3 i _ _ e rfl)) f⟩
  ·obtain⟨e1,b,p,x⟩:=k;exact⟨e1,b,p,x.of (aj (g3 i _ _ e rfl)) f⟩
 ·by_cases z':b=D
  ·subst z';exact⟨_,az⟩
  ·rw[aj z'];exact l.gj b z
 ·rw[aj (by rintro rfl;have e':F.H0 _=some o:=e;rw[h0] at e';cases e')]
  exact l.old b o e n
 ·have e':(if a=D then some zs else F.G a)=some vs:=e
  by_cases z:a=D
  ·rw[Ke z] at e';cases e';subst z;exact⟨az,g2,g3⟩
  ·rw[JZ z] at e';obtain⟨a1,a2,a3⟩:=l.gh a vs (show (if a=D then some ys else F.G a)=some vs by rw[JZ z];exact e')
   exact⟨by rw[aj z];exact a1,a2,a3⟩
end
namespace Y
noncomputable def Gk:Option (Nat×List T)->Mu->Prop
 |none,_=>True
 |some (j,ls),μ=>cont μ (.br j)=some (.lst ls)
noncomputable def qB(gd:Option (Nat×List T))(own:T->Mu->Option Mu)(dr:Mu->Mu)(ut:UT)(ue:UE)(Q:R->Mu->Prop):List T->List T->Mu->Prop
 |[],acc,μ=>Gk gd μ/\Q (.fr (.lst acc)) μ
 |t::r,acc,μ=>Gk gd μ/\acc.length<sizeLine/\(match own t μ with
  |none=>False
  |some μ1=>ut μ1 fun b μ2=>if b=true then ue μ2 fun rr μ3=>(match rr.d with
    |.tr t'=>qB gd own dr ut ue Q r (acc++[t']) (dr μ3)
    |_=>False) else qB gd own dr ut ue Q r acc (dr μ2))
noncomputable def vm(t:T)(μ:Mu):Option Mu:=some (.tr t::μ)
noncomputable def yv(t:T)(μ:Mu):Option Mu:=match t with
 |.tup [a,b]=>some (.tr a::.tr b::μ)
 |_=>none
noncomputable def F_(μ:Mu):Mu:=μ.tail
noncomputable def Hy(μ:Mu):Mu:=μ.tail.tail
noncomputable def iL(own:T->Mu->Option Mu)(dr:Mu->Mu)(ui:UI)(ut:UT)(ue:UE):UE:=fun μ Q=>ui μ fun items gd μ'=>qB gd own dr ut ue Q items [] μ'
structure v9 (K:Pm) (k:Nat) (g:TG) (own:T->Mu->Option Mu) (dr:Mu->Mu) (shF:Fx->Fx) (shA:(Nat->Addr)->Nat->Addr):Prop where
 fK:∀ F,(shF F).K=F.K
 step:∀(F:Fx) (ad:Nat->Addr) (B:aX) (σ:St) (H:Hp) (μ μ1:Mu) (x:V) (t:T) (σ':St) (Q:St->Hp->Prop),F.K=K->Rl F ad B σ H μ->Rep F.K H B x t->own t μ=some μ1->σ'.length=k->(∀ σ1,σ1.length=k->Rl (shF F) (shA ad) B (σ1++σ) H μ1->Q (σ1++σ) H)->g x (σ'++σ) H Q
 back:∀(F:Fx) (ad:Nat->Addr) (B:aX) (σ σ1:St) (H:Hp) (μ:Mu),σ1.length=k->Rl (shF F) (shA ad) B (σ1++σ) H μ->Rl F ad B σ H (dr μ)
 kp:∀(μ μ1 μ2:Mu) (t:T),own t μ=some μ1->Kp μ1 μ2->Kp μ (dr μ2)
theorem vA{α:Type _}{l:List α}(h:l.length=1):∃ y,l=[y]:=by
 rcases l with _|⟨a,_|⟨b,t⟩⟩
 ·cases h
 ·exact⟨a,rfl⟩
 ·cases h
theorem zg{α:Type _}{l:List α}(h:l.length=2):∃ y z,l=[y,z]:=by
 rcases l with _|⟨a,t⟩
 ·cases h
 ·obtain⟨b,rfl⟩:=vA (Nat.succ.inj h);exact⟨a,b,rfl⟩
theorem G4{α:Type _}{l:List α}(h:l.length=3):∃ x y z,l=[x,y,z]:=by
 rcases l with _|⟨a,t⟩
 ·cases h
 ·obtain⟨b,c,rfl⟩:=zg (Nat.succ.inj h);exact⟨a,b,c,rfl⟩
theorem Jf{α:Type _}{l:List α}(h:l.length=4):∃ w x y z,l=[w,x,y,z]:=by
 rcases l with _|⟨a,t⟩
 ·cases h
 ·obtain⟨b,c,d,rfl⟩:=G4 (Nat.succ.inj h);exact⟨a,b,c,d,rfl⟩
theorem ni:v9 K 1 (d5 0) vm F_ Fx.sh E8 where
 fK:=fun F=>rfl
 step:=fun F ad B σ H μ μ1 x t σ' Q hF l r e hk h=>by
  cases e;obtain⟨y,rfl⟩:∃ y,σ'=[y]:=by
   exact vA hk
  exact h [some x] rfl (l.push r)
 back:=fun F ad B σ σ1 H μ hk l=>by
  obtain⟨y,rfl⟩:∃ y,σ1=[y]:=by
   exact vA hk
  exact l.Cg
 kp:=fun μ μ1 μ2 t e k=>by cases e;exact k.tail
theorem yZ:v9 K 2 (zr K 2 (lJ (d5 0) (lJ (d5 1) yM))) yv Hy (fun F=>F.sh.sh) (fun ad=>E8 (E8 ad)) where
 fK:=fun F=>rfl
 step:=fun F ad B σ H μ μ1 x t σ' Q hF l r e hk h=>by
  unfold yv at e
  split at e
  ·rename_i a b;cases e;obtain⟨y,z,rfl⟩:∃ y z,σ'=[y,z]:=by
    exact zg hk
   cases r with
   |tup n hh rr =>
    cases rr with
    |cons r1 rr=>cases rr with
     |cons r2 rr =>
      cases rr;exact⟨_,_,rfl,cc.of hh,rfl,_,_,rfl,_,_,rfl,rfl,h [some _,some _] rfl ((l.push r2).push (F:=F.sh) r1)⟩
  ·cases e
 back:=fun F ad B σ σ1 H μ hk l=>by
  obtain⟨y,z,rfl⟩:∃ y z,σ1=[y,z]:=by
   exact zg hk
  exact (Rl.Cg (F:=F.sh) l).Cg
 kp:=fun μ μ1 μ2 t e k=>by
  unfold yv at e
  split at e
  ·cases e;exact k.tail.tail
  ·cases e
theorem jf{g:TG}{own:T->Mu->Option Mu}{shF:Fx->Fx}{shA:(Nat->Addr)->Nat->Addr}{wi:TI}{ui:UI}{ut:UT}(O:v9 K k g own dr shF shA)(hi:RI K wi ui)(ht:RT K tc ut)(he:RE K te ue):RE K (lE wi k g tc te) (iL own dr ui ut ue):=by
 intro F ad B σ H μ Q Qt hF l q kk;refine hi F ad B σ H μ _ _ hF l q fun J H1 μ1 items gd Src l1 f1 k1 it sr so gk q1=>?_;intro D hD;have hnB:=l1.kB hD;have h0D:=l1.Ay hD;have hGD:F.G D=none:=by
  cases q:F.G D with
  |none=>rfl
  |some vs=>have:=(l1.gh D vs q).1;rw[hD] at this;cases this
 have nbx:∀(μ':Mu),Kp μ μ'->∀(i:Nat) (s:Sl) (c:T),μ'[i]?=some s->s.box=some c->B (ad i):=fun μ' k i s c e b=>by
  obtain⟨s',c',e',b'⟩:=k.symm.fwd i s c e b;exact l.own i s' c' e' b'
 refine⟨fun i m ys σ' H'=>m=items.length-i/\i<=items.length/\∃ σ1 μ' acc,σ'=σ1++σ/\σ1.length=k/\Rl (F.g D ys) ad (more B D) σ H' μ'/\ay F.K H' (more B D) ys acc/\Fr B H (more B D) H'/\Kp μ μ'/\(gd=none->Src H' (more B D))/\qB gd own dr ut ue Qt (items.drop i) acc μ',
  ⟨items.length,by simp,KN _,_,μ1,[],rfl,Kl,(l1.new hD).HH az (.inl rfl) (fun i s c e b z=>hnB (z ▸ nbx μ1 k1 i s c e b)),.nil,f1.trans (Fr.more hD),k1,fun z=>?_,q1⟩,?_⟩
 ·subst z;exact so _ _ _ _ (Fr.more hD) sr
 rintro i m ys σ' H' ⟨rfl,hi',σ1,μ',acc,rfl,hk,l2,ra,f2,k2,s2,q2⟩;have hD2:=l2.Ir.1;refine⟨hD2,?_⟩;have src:Gk gd μ'->Src H' (more B D):=fun hg=>by
  cases gd with
  |none=>exact s2 rfl
  |some jl=>obtain⟨j,ls⟩:=jl;exact so.1 _ _ _ _ (l2.B6 hGD) hg
 by_cases hlt:i<items.length
 ·have ei:items[i]?=some items[i]:=JV hlt;rw[L_ hlt] at q2;obtain⟨hg,hz,q2⟩:=q2;have sr2:=src hg;obtain⟨go,yl⟩:=it.step H' (more B D) i _ l2.gj sr2 ei;refine .inr ⟨go,by rw[ra.length];exact hz,fun x H3 y=>?_⟩
  obtain⟨sm,rp⟩:=yl x H3 y
  split at q2
  ·exact q2.elim
  ·rename_i μ3 eo;have f3:Fr (more B D) H' (more B D) H3:=Fr.same sm;have hF2:(F.g D ys).K=K:=hF;refine O.step (F.g D ys) ad (more B D) σ H3 μ' μ3 x _ σ1 _ hF2 (l2.same sm) (by rw[hF2];exact rp) eo hk fun σ4 hk4 l4=>?_
   refine ht (shF (F.g D ys)) (shA ad) (more B D) _ H3 μ3 _ _ ((O.fK _).trans hF2) l4 q2 fun b H5 μ5 l5 f5 k5 q5=>?_
   cases b with
   |true =>
    rw[Ke rfl] at q5 ⊢;refine he (shF (F.g D ys)) (shA ad) (more B D) _ H5 μ5 _ _ ((O.fK _).trans hF2) l5 q5 fun v H6 r6 μ6 v6 f6 k6 q6=>?_;have l6:=O.back (F.g D ys) ad (more B D) σ σ4 H6 μ6 hk4 v6.rl;refine⟨l6.Ir.1,?_⟩;have hv:=v6.hv
    split at q6
    ·rename_i t' e6;rw[e6] at hv;have rv:Rep F.K H6 (more B D) v t':=by have:=hv;unfold Hv at this;rw[O.fK] at this;exact this
     have fa:=(f3.trans f5).trans f6.d;have fs:Fr (more B D) H6 (more B D) (upd H6 D (.lst (ys++[v]))):=Fr.set (.inl rfl);refine⟨items.length-(i+1),by lia,rfl,hlt,σ4,dr μ6,acc++[t'],rfl,hk4,l6.setG h0D,((ra.fr fa).append (.cons rv .nil)).fr fs,(f2.trans fa).trans fs,k2.trans (O.kp μ' μ3 μ6 _ eo (k5.trans k6)),fun z=>?_,q6⟩
     subst z;exact so _ _ _ _ (fa.trans fs) (s2 rfl)
    ·exact q6.elim
   |false =>
    rw[JZ Ka] at q5 ⊢;have l6:=O.back (F.g D ys) ad (more B D) σ σ4 H5 μ5 hk4 l5;have fa:=f3.trans f5;refine⟨items.length-(i+1),by lia,rfl,hlt,σ4,dr μ5,acc,rfl,hk4,l6,ra.fr fa,f2.trans fa,k2.trans (O.kp μ' μ3 μ5 _ eo k5),fun z=>?_,q5⟩
    subst z;exact so _ _ _ _ fa (s2 rfl)
 ·have e:i=items.length:=by lia
  subst e;rw[List.drop_length] at q2;obtain⟨hg,q2⟩:=q2;have l3:=l2.B6 hGD;refine .inl ⟨it.stop H' (more B D) (src hg),kk (.ref D) H' (.fr (.lst acc)) μ' ⟨l3.less (fun b z=>.inr z) l.bc (nbx μ' k2) (fun a vs ga=>?_),D,rfl,hnB,h0D,l3,ys,hD2,ra⟩ f2 k2 q2⟩;exact l.gB a vs ga
section
variable {X:Cx} {elt tg iter:Expr} {ifs:List Expr} {ue:UE} {ut:UT} {ui:UI} {pos pos' p2:Pos} {x:Str} {osc scope:Scope} {ON own N:List Str}
theorem iD(S:cm osc ON scope own N)(hosc:X.env.scope=osc)(hON:X.N=ON)(hc:X.calm=true)(ho:own.length=1)(hi:YI X tg iter ui)
  (hg:∀ C s H fp,QG (aJ X scope N C s H fp) tg (d5 0)) (ht:∀ C s H fp,Bh (aJ X scope N C s H fp) ifs ut) (he:∀ C s H fp,YE (aJ X scope N C s H fp) elt ue) (hs:autoParam (∀ x,foldedSetIterable iter X.env x=pure x) ℜ3) :
  YE X (.ListComp elt [⟨tg,iter,ifs,0⟩] scope pos) (iL vm F_ ui ut ue):=by
 obtain⟨t,q,r⟩:=hi;have h:=Z.comp (pos:=pos) (tc:=s_ X.K ut) (te:=uW X.K ue) S hosc hON hc q hg (fun C s H fp=>(ht C s H fp).AA) (fun C s H fp=>(he C s H fp).AA) hs;rw[ho] at h;exact⟨_,h,jf ni r r9 rX⟩
theorem Fb(K:Pm)(hK:X.K=K)(S:cm osc ON scope own N)(hosc:X.env.scope=osc)(hON:X.N=ON)(hc:X.calm=true)(ho:own.length=2)(hi:YI X tg iter ui)
  (hg:∀ C s H fp,QG (aJ X scope N C s H fp) tg (zr K 2 (lJ (d5 0) (lJ (d5 1) yM)))) (ht:∀ C s H fp,Bh (aJ X scope N C s H fp) ifs ut) (he:∀ C s H fp,YE (aJ X scope N C s H fp) elt ue) (hs:autoParam (∀ x,foldedSetIterable iter X.env x=pure x) ℜ3) :
  YE X (.ListComp elt [⟨tg,iter,ifs,0⟩] scope pos) (iL yv Hy ui ut ue):=by
 obtain⟨t,q,r⟩:=hi;subst hK;have h:=Z.comp (pos:=pos) (tc:=s_ X.K ut) (te:=uW X.K ue) S hosc hON hc q hg (fun C s H fp=>(ht C s H fp).AA) (fun C s H fp=>(he C s H fp).AA) hs;rw[ho] at h;exact⟨_,h,jf yZ r r9 rX⟩
theorem Bf(hN:X.N.Nodup)(hj:X.N[j]?=some x)(hx:Loc X.env.scope x)(S:cm osc ON scope own N)(hosc:X.env.scope=osc)(hON:X.N=ON)(hc:X.calm=true)(ho:own.length=1)(hi:YI X tg iter ui)
  (hg:∀ C s H fp,QG (aJ X scope N C s H fp) tg (d5 0)) (ht:∀ C s H fp,Bh (aJ X scope N C s H fp) ifs ut) (he:∀ C s H fp,YE (aJ X scope N C s H fp) elt ue)
  (hsw:autoParam (swapsWith (.ListComp elt [⟨tg,iter,ifs,0⟩] scope p2) (some (.Name x pos')) pos.line X.env=pure true) ℜ0)
  (hf:autoParam (X.fn x=true\/X.env.scope.names.lookup x=some .local) ℜ2) (hs:autoParam (∀ x,foldedSetIterable iter X.env x=pure x) ℜ3) :
  YS X (.Assign [.Name x pos'] (.ListComp elt [⟨tg,iter,ifs,0⟩] scope p2) pos) (jC (iL vm F_ ui ut ue) (gN j)):=by
 obtain⟨t,q,r⟩:=hi;have h:=Z.setC (tc:=s_ X.K ut) (te:=uW X.K ue) hN hj hx S hosc hON hc q hg (fun C s H fp=>(ht C s H fp).AA) (fun C s H fp=>(he C s H fp).AA) hsw hf hs;rw[ho] at h;exact⟨_,h,kh (jf ni r r9 rX) mC⟩
theorem rF:Bh X [] (fun μ Q=>Q true μ):=⟨_,Z.rF,fun F ad B σ H μ Q Qt hK l q k=>k true H μ l Fr.refl (Kp.refl μ) q⟩
theorem Hw{c:Expr}(h:YT X c ut):Bh X [c] ut:=by obtain⟨t,q,r⟩:=h;exact⟨t,Z.Hw q,r⟩
end
end Y
noncomputable def dH(μ:Mu)(j:Nat)(c:T):Mu:=match μ[j]? with
 |some s=>μ.set j (s.put c)
 |none=>μ
namespace Y
section
variable {X:Cx} {a b c e o tg it i:Expr} {es rest:List Expr} {ua ub uc ue uo ui:UE} {uA uB:UT} {us:UA} {pos pos' p p2 p3 apos:Pos} {x:Str} {st:Stmt} {sts xs ys:List Stmt} {u w:US}
noncomputable def gS(uo ui:UE):UG:=fun r μ Q=>match r.d with
 |.tr t=>uo μ fun ro μ1=>ui μ1 fun ri μ2=>(match ro,ri with
  |.br j,.tr (.int k)=>(match (μ2[j]?).bind Sl.box with
   |some (.lst ts)=>(match ie ts.length k with
    |some n=>Q (dH μ2 j (.lst (ts.set n t)))
    |none=>False)
   |_=>False)
  |_,_=>False)
 |_=>False
theorem oZ(ho:YE X o uo)(hi:YE X i ui)
  (ha:autoParam (∀ v,assign (.Subscript o i pos) X.env v=(do
   let ov <- holding [v] (eval o X.env)
   let iv <- holding [v,ov] (eval i X.env)
   standAt pos
   holding [v,ov,iv] (setItem ov iv v)
   release [v,ov,iv] [])) ℜ3):YG X (.Subscript o i pos) (gS uo ui):=by
 obtain⟨t,q,r⟩:=ho;obtain⟨t',q',r'⟩:=hi;refine⟨_,Z.oZ q q' ha,fun F ad B σ H μ v rr B0 H0 Q Qt hF h f q k=>?_⟩;unfold gS at q;have f0:Fr B0 H0 B H:=fun b o h n=>⟨(f b o h n).1,fun z=>(f b o h n).2 (by cases rr<;>first|exact z | (cases v<;>first|exact z|exact .inr z))⟩
 have hv:=h.hv
 split at q
 ·rename_i t0 e0;rw[e0] at hv;refine r F ad B σ H μ _ _ hF h.rl q fun ov H1 r1 μ1 v1 f1 k1 q1=>r' F ad B σ H1 μ1 _ _ hF v1.rl q1 fun iv H2 r2 μ2 v2 f2 k2 q2=>?_
  split at q2
  ·rename_i j kk;have rp:=v2.2;cases rp;obtain⟨rfl,_⟩:=(v1.hv.fr f2.d k2)
   split at q2
   ·rename_i ts e
    split at q2
    ·rename_i n en
     cases ej:μ2[j]? with
     |none=>rw[ej] at e;cases e
     |some s =>
      rw[ej] at e;have e':s.box=some (.lst ts):=e;have l2:=v2.rl;obtain⟨vs,hl,rs⟩:=((l2.slot j s ej).boxed e').2.2.1;have rv:Rep F.K H2 B v t0:=(show Rep F.K H B v t0 from hv).fr (f1.d.trans f2.d);have l3:=l2.put ej e' (rs.set n rv);show xw (.ref (ad j)) (.int kk) v H2 _;rw[Ap.setRef,hl];simp only;rw[rs.length,en];simp only;unfold dH at q2;rw[ej] at q2;exact k ad B σ _ _ l3 ((f0.trans (f1.d.trans f2.d)).trans (Fr.set ((l2.slot j s ej).boxed e').2.1)) q2
    ·exact q2.elim
   ·exact q2.elim
  ·exact q2.elim
 ·exact q.elim
abbrev UM:=Nat->List R->Mu->(R->Mu->Prop)->Prop
noncomputable def Hr:Option T->Prop->Prop
 |some (.lst _),p=>p
 |_,_=>False
noncomputable def Hb(um:UM)(uo:UE)(us:UA):UE:=fun μ Q=>uo μ fun ro μ1=>match ro with
 |.br j=>Hr ((μ1[j]?).bind Sl.box) (us μ1 fun rs μ2=>um j rs μ2 Q)
 |_=>False
noncomputable def RM(K:Pm)(r:V->List V->Hp->VK->Prop)(um:UM):Prop:=∀(F:Fx) (ad:Nat->Addr) (B:aX) (σ:St) (H:Hp) (μ:Mu) (Q:VK) (Qt:R->Mu->Prop) (j:Nat) (s:Sl) (c:T) (xs:List V) (rs:List R),F.K=K->Rl F ad B σ H μ->μ[j]?=some s->s.box=some c->Paired (Hv F ad B H μ) xs rs->um j rs μ Qt ->
 (∀ v H' r μ',Vr F ad B σ H' μ' v r->Fr B H (Bv B v r) H'->Kp μ μ'->Qt r μ'->Q v H')->r (.ref (ad j)) xs H Q
theorem bm(K:Pm)(hK:X.K=K){id:String}{r:V->List V->Hp->VK->Prop}{um:UM}(slot:Slot "list" name id)(hty:typeOf (.builtin id)=pure (.type "method_descriptor"))(hm:rJ X id r)(hr:RM X.K r um)(ho:YE X o uo)(ha:YA X (e::es) us)
  (hbase:autoParam (attributeBase o name X.env (eval o X.env)=eval o X.env) ℜ0) (hline:autoParam ((apos.endLine == pos.line)=true) ℜ0) (h:autoParam ((e::es).all cS=true) ℜ0) (hl:autoParam ((e::es).length<30) ℜ1):YE X (.Call (.Attribute o name apos) (e::es) [] pos) (Hb um uo us):=by
 obtain⟨t,q,rr⟩:=ho;obtain⟨t',q',r'⟩:=ha;refine⟨_,Z.bm K hK PySem.F.plainAttrs_list slot hty hm q q' hbase hline h hl,fun F ad B σ H μ Q Qt hF l q k=>rr F ad B σ H μ _ _ hF l q fun v H1 r1 μ1 v1 f1 k1 q1=>?_⟩
 split at q1
 ·rename_i j;obtain⟨l1,rfl,s,c,e1,e2⟩:=v1;rw[e1] at q1;have q1':Hr s.box _:=q1;rw[e2] at q1';rcases ((l1.slot j s e1).boxed e2).2.2.1.is with ⟨ts,vs,rfl,hl,_⟩|⟨_,_,_,rfl,_⟩
  case inr=>exact q1'.elim
  have q1:=(show us μ1 _ from q1');refine⟨.inl ⟨rfl,vs,cx.of hl⟩,?_⟩;refine r' F ad B σ H1 μ1 _ _ hF l1 q1 fun xs H2 rs μ2 l2 ps f2 k2 q2=>?_;obtain⟨s',c',e3,e4⟩:=k2.fwd j s _ e1 e2;exact hr F ad B σ H2 μ2 _ _ j s' c' xs rs hF l2 e3 e4 ps q2 fun v H3 r3 μ3 v3 f3 k3 q3=>k v H3 r3 μ3 v3 ((f1.d.trans f2).trans f3) ((k1.trans k2).trans k3) q3
 ·exact q1.elim
noncomputable def hJ:UM:=fun j rs μ Q=>match rs with
 |[.tr t]=>(match (μ[j]?).bind Sl.box with
  |some (.lst ts)=>ts.length<sizeLine/\Q (.tr .aC) (dH μ j (.lst (ts++[t])))
  |_=>False)
 |_=>False
theorem cq:RM K sU hJ:=by
 intro F ad B σ H μ Q Qt j s c xs rs hF l e b ps q k;unfold hJ at q
 split at q
 ·cases ps with
  |cons h ps =>
   cases ps;rw[e] at q;have q':(match s.box with|some (.lst ts)=>ts.length<sizeLine/\Qt (.tr .aC) (dH μ j (.lst (ts++[_])))|_=>False):=q
   rw[b] at q';rcases ((l.slot j s e).boxed b).2.2.1.is with ⟨ts,vs,rfl,hl,rv⟩|⟨_,_,_,rfl,_⟩
   case inr=>exact q'.elim
   simp only at q';refine⟨_,_,_,rfl,rfl,hl,by rw[rv.length];exact q'.1,?_⟩
   have l3:=l.put e b (rv.append (.cons (b8 h) .nil));have q2:=q'.2;unfold dH at q2;rw[e] at q2;exact k _ _ (.tr .aC) _ (Vr.flat l3 .aC) (Fr.set ((l.slot j s e).boxed b).2.1) (Kp.set e b (Sl.jg b)) q2
 ·exact q.elim
end
end Y
noncomputable def km:List Bool->List V->List Addr
 |true::md,.ref a::vs=>a::km md vs
 |_::md,_::vs=>km md vs
 |_,_=>[]
noncomputable def gI(K:Pm)(H:Hp)(B:aX):List Bool->List V->List T->Prop
 |[],[],[]=>True
 |false::md,v::vs,t::ts=>Rep K H B v t/\gI K H B md vs ts
 |true::md,v::vs,t::ts=>(∃ a,v=.ref a/\B a/\Bx K H B a t)/\gI K H B md vs ts
 |_,_,_=>False
abbrev dE:=List T->(R->List T->Prop)->Prop
variable{tsp:dE}
noncomputable def Fm(K:Pm)(H H':Hp)(B:aX)(as:List Addr)(v:V)(outs:List T):R->Prop
 |.tr t=>Rep K H' B v t/\Paired (Bx K H' B) as outs
 |.fr c=>∃ a,v=.ref a/\H a=none/\¬ B a/\Bx K H' (more B a) a c/\Paired (Bx K H' (more B a)) as outs
 |.br _=>False
noncomputable def spT(K:Pm)(md:List Bool)(tsp:dE):Sp:=fun vs H Q _=>∃(B:aX) (args:List T) (Qt:R->List T->Prop),gI K H B md vs args/\(∀ b,B b->∃ o,H b=some o)/\(km md vs).Nodup/\tsp args Qt /\
 ∀ v H' r outs,Qt r outs->(∀ b o,H b=some o->b∉km md vs->H' b=some o)->Fm K H H' B (km md vs) v outs r->Q v H'
theorem gI.len:∀{md:List Bool} {vs:List V} {ts:List T},gI K H B md vs ts->vs.length=md.length/\ts.length=md.length
 |[],[],[],_=>⟨rfl,rfl⟩
 |false::md,v::vs,t::ts,h=>⟨K4 (·+1) (gI.len h.2).1,K4 (·+1) (gI.len h.2).2⟩
 |true::md,v::vs,t::ts,h=>⟨K4 (·+1) (gI.len h.2).1,K4 (·+1) (gI.len h.2).2⟩
theorem gI.get:∀{md:List Bool} {vs:List V} {ts:List T} {i:Nat} {b:Bool},gI K H B md vs ts->md[i]?=some b->∃ v t,vs[i]?=some v/\ts[i]?=some t/\(if b=true then ∃ a,v=.ref a/\B a/\Bx K H B a t else Rep K H B v t)
 |[],[],[],i,b,_,e=>by simp at e
 |c::md,[],_,_,_,h,_=>by cases c<;>exact h.elim
 |c::md,v::vs,[],_,_,h,_=>by cases c<;>exact h.elim
 |c::md,v::vs,t::ts,0,b,h,e=>by
  have e':c=b:=by simpa using e
  subst e'
  cases c with
  |false=>exact⟨v,t,rfl,rfl,by rw[JZ Ka];exact h.1⟩
  |true=>exact⟨v,t,rfl,rfl,by rw[Ke rfl];exact h.1⟩
 |c::md,v::vs,t::ts,i+1,b,h,e=>by
  have h2:gI K H B md vs ts:=by cases c<;>exact h.2
  obtain⟨v',t',e1,e2,q⟩:=gI.get h2 (show md[i]?=some b by simpa using e)
  exact⟨v',t',by simpa using e1,by simpa using e2,q⟩
theorem fX:∀{md:List Bool} {vs:List V} {i:Nat} {a:Addr},md[i]?=some true->vs[i]?=some (.ref a)->a∈km md vs
 |[],_,_,_,e,_=>by simp at e
 |c::md,[],_,_,_,e=>by simp at e
 |c::md,v::vs,0,a,e1,e2=>by
  have e1':c=true:=by simpa using e1
  have e2':v=.ref a:=by simpa using e2
  subst e1' e2';exact Kk
 |c::md,v::vs,i+1,a,e1,e2=>by
  have:=fX (md:=md) (vs:=vs) (i:=i) (a:=a) (by simpa using e1) (by simpa using e2)
  cases c with
  |false=>exact this
  |true=>cases v<;>first|exact Kh _ this|exact this
theorem sy:∀{md:List Bool} {vs:List V} {i j:Nat} {a:Addr},(km md vs).Nodup->md[i]?=some true->md[j]?=some true->vs[i]?=some (.ref a)->vs[j]?=some (.ref a)->i=j
 |[],_,_,_,_,_,e,_,_,_=>by simp at e
 |c::md,[],_,_,_,_,_,_,e,_=>by simp at e
 |c::md,v::vs,i,j,a,nd,e1,e2,e3,e4=>by
  have tl:(km md vs).Nodup:=by
   cases c with
   |false=>exact nd
   |true=>cases v<;>first|exact (KQ.mp nd).2|exact nd
  cases i with
  |zero =>
   have e1':c=true:=by simpa using e1
   have e3':v=.ref a:=by simpa using e3
   subst e1' e3'
   cases j with
   |zero=>rfl
   |succ j=>exact absurd (fX (md:=md) (vs:=vs) (i:=j) (a:=a) (by simpa using e2) (by simpa using e4)) (KQ.mp nd).1
  |succ i=>cases j with
   |zero =>
    have e1':c=true:=by simpa using e2
    have e3':v=.ref a:=by simpa using e4
    subst e1' e3';exact absurd (fX (md:=md) (vs:=vs) (i:=i) (a:=a) (by simpa using e1) (by simpa using e3)) (KQ.mp nd).1
   |succ j=>exact K4 (·+1) (sy tl (by simpa using e1) (by simpa using e2) (by simpa using e3) (by simpa using e4))
noncomputable def bV:List Bool->Nat->Mu->List T
 |[],_,_=>[]
 |true::md,i,μ=>(match μ[i]? with
  |some (.pb c)=>c::bV md (i+1) μ
  |_=>bV md (i+1) μ)
 |false::md,i,μ=>bV md (i+1) μ
theorem m3{P:Addr->T->Prop}:∀{md:List Bool} {vs:List V} {i:Nat},vs.length=md.length->(∀ n,md[n]?=some true->∃ a c,vs[n]?=some (.ref a)/\μ[i+n]?=some (.pb c)/\P a c)->Paired P (km md vs) (bV md i μ)
 :=by
  intro md
  induction md with
  |nil =>
    intro vs i hl h
    cases vs with
    |nil=>exact .nil
    |cons v vs=>cases hl
  |cons b md ih =>
    intro vs i hl h
    cases vs with
    |nil=>cases hl
    |cons v vs =>
      have rest:=ih (vs:=vs) (i:=i+1) (Nat.succ.inj hl) fun n e=>by
        obtain⟨a,c,e1,e2,p⟩:=h (n+1) e;exact⟨a,c,e1,by rw[NK,Nat.add_comm 1 n];exact e2,p⟩
      cases b with
      |false=>exact rest
      |true =>
        obtain⟨a,c,e1,e2,p⟩:=h 0 rfl;have e1':v=.ref a:=Option.some.inj e1;subst e1';rw[Pc] at e2;show Paired P (a::km md vs) (match μ[i]? with|some (.pb c)=>c::bV md (i+1) μ|_=>bV md (i+1) μ)
        rw[e2];exact .cons p rest
noncomputable def startM:List Bool->List T->Nat->Mu
 |b::md,t::ts,n=>(if b=true then .pb t else .tr t)::startM md ts (n-1)
 |_,_,n=>List.replicate n .un
noncomputable def m6(md:List Bool)(Qt:R->List T->Prop):Ed where
 nx:=fun μ=>Qt (.tr .aC) (bV md 0 μ)
 rt:=fun r μ=>match r with
  |.tr t=>Qt (.tr t) (bV md 0 μ)
  |.fr c=>Qt (.fr c) (bV md 0 μ)
  |.br i=>(match μ[i]? with
   |some (.bx c)=>Qt (.fr c) (bV md 0 μ)
   |_=>False)
theorem jV:∀{md:List Bool} {ts:List T} {n:Nat},ts.length=md.length->md.length<=n->(startM md ts n).length=n
 |[],[],n,_,_=>Kl
 |b::md,t::ts,n,h,hn=>by
  cases n with
  |zero=>simp at hn
  |succ n=>exact K4 (·+1) (jV (by simpa using h) (by simpa using hn))
theorem gG:∀{md:List Bool} {ts:List T} {n i:Nat} {s:Sl},(startM md ts n)[i]?=some s->s=.un\/∃ b t,md[i]?=some b/\ts[i]?=some t/\s=(if b=true then .pb t else .tr t)
 |[],ts,n,i,s,e=>by
  have e':(List.replicate n Sl.un)[i]?=some s:=by cases ts<;>exact e
  rw[Mt] at e'
  split at e'
  ·exact .inl (Option.some.inj e').symm
  ·cases e'
 |b::md,[],n,i,s,e=>by
  have e':(List.replicate n Sl.un)[i]?=some s:=e;rw[Mt] at e'
  split at e'
  ·exact .inl (Option.some.inj e').symm
  ·cases e'
 |b::md,t::ts,n,0,s,e=>.inr ⟨b,t,rfl,rfl,by have e':some (if b=true then Sl.pb t else .tr t)=some s:=e;exact (Option.some.inj e').symm⟩
 |b::md,t::ts,n,i+1,s,e=>by
  rcases gG (md:=md) (ts:=ts) (n:=n-1) (i:=i) (s:=s) (by simpa[startM] using e) with h|⟨b',t',h1,h2,h3⟩
  ·exact .inl h
  ·exact .inr ⟨b',t',by simpa using h1,by simpa using h2,h3⟩
theorem lF:∀{md:List Bool} {ts:List T} {n i:Nat} {b:Bool} {t:T},md[i]?=some b->ts[i]?=some t->(startM md ts n)[i]?=some (if b=true then .pb t else .tr t)
 |[],_,_,_,_,_,e,_=>by simp at e
 |b::md,[],_,_,_,_,_,e=>by simp at e
 |b::md,t::ts,n,0,b',t',e1,e2=>by
  have e1':b=b':=by simpa using e1
  have e2':t=t':=by simpa using e2
  subst e1' e2';rfl
 |b::md,t::ts,n,i+1,b',t',e1,e2=>by
  have:=lF (md:=md) (ts:=ts) (n:=n-1) (i:=i) (b:=b') (t:=t') (by simpa using e1) (by simpa using e2)
  simpa[startM] using this
noncomputable def nr(vs:List V)(i:Nat):Addr:=match vs[i]? with
 |some (.ref a)=>a
 |_=>0
noncomputable def GJ(md:List Bool)(vs:List V)(i:Nat):Option Addr:=match md[i]?,vs[i]? with
 |some true,some (.ref a)=>some a
 |_,_=>none
theorem gF(h:GJ md vs i=some a):md[i]?=some true/\vs[i]?=some (.ref a):=by
 unfold GJ at h
 split at h
 ·rename_i e1 e2;cases h;exact⟨e1,e2⟩
 ·cases h
theorem mL(h1:md[i]?=some true)(h2:vs[i]?=some (.ref a)):GJ md vs i=some a:=by
 unfold GJ;rw[h1,h2]
noncomputable def kq(K:Pm)(H:Hp)(md:List Bool)(vs:List V)(B:aX)(bh:∀ b,B b->∃ o,H b=some o):Fx:=⟨K,H,GJ md vs,B,bh,fun _=>none⟩
theorem kj(ag:gI K H B md vs args)(bh:∀ b,B b->∃ o,H b=some o)(nd:(km md vs).Nodup)(hN:md.length<=N.length):
  Rl (kq K H md vs B bh) (nr vs) B (start N vs) H (startM md args N.length):=by
 obtain⟨l1,l2⟩:=ag.len;have sget:∀ i v,vs[i]?=some v->(start N vs)[i]?=some (some v):=fun i v e=>by
  have hi:=(Kf.mp e).1;unfold start;rw[LY (by simpa using hi),Kg,e];rfl
 refine⟨?_,fun i s e=>?_,fun i j s u c d e1 e2 b1 b2 q=>?_,fun i a p=>?_,fun b z=>z,bh,fun b o e n=>e,fun a ws ga=>by cases ga⟩
 ·rw[jV l2 hN];unfold start;rw[JX,JY,Kl];lia
 ·rcases gG e with rfl|⟨b,t,h1,h2,rfl⟩
  ·trivial
  ·obtain⟨v,t',e1,e2,q⟩:=ag.get h1;rw[h2] at e2;cases e2
   cases b with
   |false =>
    rw[JZ Ka] at q;rw[JZ Ka];exact⟨v,sget i v e1,q⟩
   |true =>
    rw[Ke rfl] at q;rw[Ke rfl];obtain⟨a,rfl,hb,x⟩:=q;have ea:nr vs i=a:=by unfold nr;rw[e1]
    show _/\_/\_/\_;rw[ea];exact⟨sget i _ e1,hb,mL h1 e1,x⟩
 ·have one:∀{i:Nat} {s:Sl} {c:T},(startM md args N.length)[i]?=some s->s.box=some c->md[i]?=some true/\∃ a,vs[i]?=some (.ref a)/\nr vs i=a:=fun {i s c} e b=>by
   rcases gG e with rfl|⟨b',t,h1,h2,rfl⟩
   ·cases b
   ·cases b' with
    |false=>rw[JZ Ka] at b;cases b
    |true =>
     obtain⟨v,t',e1,e2,q⟩:=ag.get h1;rw[Ke rfl] at q;obtain⟨a,rfl,_⟩:=q;exact⟨h1,a,e1,by unfold nr;rw[e1]⟩
  obtain⟨m1,a1,v1,z1⟩:=one e1 b1;obtain⟨m2,a2,v2,z2⟩:=one e2 b2;rw[z1,z2] at q;subst q;exact sy nd m1 m2 v1 v2
 ·obtain⟨h1,h2⟩:=gF p;obtain⟨v,t',e1,e2,q⟩:=ag.get h1;refine⟨⟨t',?_⟩,by unfold nr;rw[h2]⟩
  have:=lF (n:=N.length) h1 e2;rw[Ke rfl] at this;exact this
theorem HasFn.fG{N ps:List Str}(F:HasFn K mg x st ps)(S:ao N ps (aa st))(md:List Bool)(hm:md.length=ps.length)(hN:md.length<=N.length)
  (hbody:∀(args:List T) (Qt:R->List T->Prop),args.length=ps.length->tsp args Qt->∀(f:Addr) (cdv:Value) (A:Around) (outer:List Env) (s:Shared) (H:Hp) (E:XK),b7 k (A.deeper (envOfC x (aa st) s.heap.objs.size f cdv)) ->
   ∃ us,YB (gK aU P w K mg base N x (aa st) f cdv A outer s H E).zJ (bA st) us/\us (m6 md Qt) (startM md args N.length)):ae P w K mg base aU (k+1) x ps (spT K md tsp):=by
 refine F.JF S (fun vs H Q E h=>?_) (fun f cdv A outer s H vs Q E hr h=>?_)
 ·obtain⟨B,args,Qt,ag,_⟩:=h;rw[ag.len.1,hm]
 ·obtain⟨B,args,Qt,ag,bh,nd,ht,fin⟩:=h;obtain⟨us,⟨t,q,r⟩,hu⟩:=hbody args Qt (by rw[ag.len.2,hm]) ht f cdv A outer s H E hr
  refine⟨t,q,?_⟩;have l0:=kj (N:=N) ag bh nd hN;have outs:∀ ad' B' σ' H' μ' (B2:aX),Rl (kq K H md vs B bh) ad' B' σ' H' μ'->(∀ b,B2 b->B' b)->Paired (Bx K H' B2) (km md vs) (bV md 0 μ'):=fun ad' B' σ' H' μ' B2 l hB=>by
   refine m3 (ag.len.1) fun n e=>?_;obtain⟨v,t',e1,e2,q⟩:=ag.get e;rw[Ke rfl] at q;obtain⟨a,rfl,_⟩:=q;obtain⟨⟨c,hc⟩,ha⟩:=l.par n a (mL e e1);have sl:=l.slot n _ hc;refine⟨a,c,e1,by rw[LO];exact hc,?_⟩
   rw[<- ha];exact (sl.2.2.2).of rfl (Fr.less hB)
  have keep:∀ ad' B' σ' H' μ',Rl (kq K H md vs B bh) ad' B' σ' H' μ'->∀ b o,H b=some o->b∉km md vs->H' b=some o:=fun ad' B' σ' H' μ' l b o e n=>l.old b o e fun i z=>n (fX (gF z).1 (gF z).2);refine r (kq K H md vs B bh) _ _ (nr vs) B (start N vs) H _ rfl l0 hu ⟨fun ad' B' σ' H' μ' l _ q=>?_,fun ad' B' σ' H' μ' v rr h q=>?_,fun _ _ _ _ _ _ _ z=>z.elim,fun _ _ _ _ _ _ _ z=>z.elim⟩
  ·exact fin .aC H' (.tr .aC) _ q (keep _ _ _ _ _ l) ⟨.aC,outs _ _ _ _ _ _ l l.bc⟩
  ·cases rr with
   |tr t=>exact fin v H' (.tr t) _ q (keep _ _ _ _ _ h.1) ⟨(show Rep K H' B' v t from h.2).fr (Fr.less h.1.bc),outs _ _ _ _ _ _ h.1 h.1.bc⟩
   |fr c =>
    obtain⟨l,a,rfl,n,h0,l2,x⟩:=h;have sub:∀ b,more B a b->more B' a b:=fun b z=>z.imp id (l.bc b);exact fin _ H' (.fr c) _ q (keep _ _ _ _ _ l) ⟨a,rfl,h0,fun z=>n (l.bc a z),x.of rfl (Fr.less sub),outs _ _ _ _ _ _ l2 sub⟩
   |br i =>
    have q':(match μ'[i]? with|some (.bx c)=>Qt (.fr c) (bV md 0 μ')|_=>False):=q
    obtain⟨l,rfl,s',c',e1,e2⟩:=h
    split at q'
    ·rename_i c ec;have sl:=l.slot i _ ec;have sub:∀ b,more B (ad' i) b->B' b:=fun b z=>z.elim (fun z=>by rw[z];exact sl.2.1) (l.bc b)
     refine fin _ H' (.fr c) _ q' (keep _ _ _ _ _ l) ⟨ad' i,rfl,sl.2.2.1,fun z=>?_,(sl.2.2.2.2).of rfl (Fr.less sub),outs _ _ _ _ _ _ l sub⟩;obtain⟨o,e⟩:=bh _ z;have:H (ad' i)=none:=sl.2.2.1;rw[this] at e;cases e
    ·exact q'.elim
noncomputable def xB(μ:Mu):List Bool->List R->Option (List T)
 |[],[]=>some []
 |false::md,r::rs=>(match cont μ r,xB μ md rs with
  |some t,some ts=>some (t::ts)
  |_,_=>none)
 |true::md,.br j::rs=>(match cont μ (.br j),xB μ md rs with
  |some t,some ts=>some (t::ts)
  |_,_=>none)
 |_,_=>none
noncomputable def h_:List Bool->List R->List Nat
 |true::md,.br j::rs=>j::h_ md rs
 |_::md,_::rs=>h_ md rs
 |_,_=>[]
noncomputable def iC:List Bool->List R->List Nat
 |false::md,.br j::rs=>j::iC md rs
 |_::md,_::rs=>iC md rs
 |_,_=>[]
noncomputable def iH:T->Bool
 |.lst ts=>ts.all aR
 |.n5 _ ts=>ts.all aR
 |t=>aR t
noncomputable def gv:R->Bool
 |.tr t=>aR t
 |.fr c=>iH c
 |.br _=>false
noncomputable def putAll:List Nat->List T->Mu->Mu
 |j::js,c::cs,μ=>putAll js cs (dH μ j c)
 |_,_,μ=>μ
theorem rq(h:i≠j):(dH μ j c)[i]?=μ[i]?:=by
 unfold dH;split
 ·rw[KU (Ne.symm h)]
 ·rfl
theorem zq{s:Sl}(e:μ[j]?=some s):(dH μ j c)[j]?=some (s.put c):=by
 unfold dH;rw[e];exact KH (Kf.mp e).1
theorem w6:(dH μ j c).length=μ.length:=by
 unfold dH;split
 ·exact K_
 ·rfl
theorem jZ:∀{js:List Nat} {cs:List T} {μ:Mu},(putAll js cs μ).length=μ.length
 |[],_,_=>rfl
 |_::_,[],_=>rfl
 |j::js,c::cs,μ=>(jZ (js:=js)).trans w6
theorem eX:∀{js:List Nat} {cs:List T} {μ:Mu} {i:Nat},i∉js->(putAll js cs μ)[i]?=μ[i]?
 |[],_,_,_,_=>rfl
 |_::_,[],_,_,_=>rfl
 |j::js,c::cs,μ,i,h=>(eX (js:=js) (fun z=>h (Kh _ z))).trans (rq fun z=>h (z ▸ Kk))
theorem dM{P:Addr->T->Prop}:∀{js:List Nat} {cs:List T} {μ:Mu} {i:Nat} {s:Sl},js.Nodup->Paired P (js.map ad) cs->i∈js->μ[i]?=some s->∃ c,(putAll js cs μ)[i]?=some (s.put c)/\P (ad i) c
 |[],_,_,_,_,_,_,h,_=>by cases h
 |j::js,c::cs,μ,i,s,nd,.cons p ps,h,e=>by
  rw[KQ] at nd;by_cases z:i=j
  ·subst z;refine⟨c,?_,p⟩;show (putAll js cs (dH μ i c))[i]?=_;rw[eX nd.1];exact zq e
  ·rcases Ki.mp h with z'|z'
   ·exact absurd z' z
   ·exact dM (js:=js) nd.2 ps z' (by rw[rq z];exact e)
theorem Rl.call{B2:aX}{js:List Nat}{outs:List T}(l:Rl F ad B σ H μ)(hb:∀ j∈js,∃(s:Sl) (c:T),μ[j]?=some s/\s.box=some c)(nd:js.Nodup)
  (keep:∀ b o,H b=some o->b∉js.map ad->H' b=some o) (sB:∀ b,B b->B2 b) (nB:∀ b o,H b=some o->¬ B b->¬ B2 b) (tB:∀ b,B2 b->¬ B b->∃ o,H' b=some o) (ps:Paired (Bx F.K H' B2) (js.map ad) outs) :
  Rl F ad B2 σ H' (putAll js outs μ)/\Kp μ (putAll js outs μ)/\Fr B H B2 H':=by
 have inB:∀ b∈js.map ad,B b:=fun b hb'=>by
  obtain⟨j,hj,rfl⟩:=KA.mp hb';obtain⟨s,c,e,q⟩:=hb j hj;exact l.own j s c e q
 have f:Fr B H B2 H':=fun b o e n=>⟨keep b o e fun z=>n (inB b z),nB b o e n⟩;have cases':∀ i s,(putAll js outs μ)[i]?=some s->(i∉js/\μ[i]?=some s)\/(i∈js/\∃ s0 c0 c,μ[i]?=some s0/\s0.box=some c0/\s=s0.put c/\Bx F.K H' B2 (ad i) c):=fun i s e=>by
  by_cases z:i∈js
  ·obtain⟨s0,c0,e0,q0⟩:=hb i z;obtain⟨c,e1,p⟩:=dM nd ps z e0;rw[e1] at e;exact .inr ⟨z,s0,c0,c,e0,q0,(Option.some.inj e).symm,p⟩
  ·rw[eX z] at e;exact .inl ⟨z,e⟩
 have boxOld:∀(i:Nat) (s:Sl) (c:T),(putAll js outs μ)[i]?=some s->s.box=some c->∃(s0:Sl) (c0:T),μ[i]?=some s0/\s0.box=some c0:=fun i s c e b=>by
  rcases cases' i s e with ⟨_,e'⟩|⟨_,s0,c0,_,e0,q0,_⟩
  ·exact⟨s,c,e',b⟩
  ·exact⟨s0,c0,e0,q0⟩
 have ne:∀(i:Nat) (s:Sl) (c:T),i∉js->μ[i]?=some s->s.box=some c->ad i∉js.map ad:=fun i s c z e b hm=>by
  obtain⟨j,hj,q⟩:=KA.mp hm;obtain⟨s0,c0,e0,q0⟩:=hb j hj;exact z (l.inj i j s s0 c c0 e e0 b q0 q.symm ▸ hj)
 refine⟨⟨by rw[jZ];exact l.len,fun i s e=>?_,fun i j s u c d e1 e2 b1 b2 q=>?_,fun i a p=>?_,fun b z=>sB b (l.bc b z),fun b z=>?_,fun b o e n=>?_,fun a ws ga=>?_⟩,fun i=>?_,f⟩
 ·rcases cases' i s e with ⟨z,e'⟩|⟨z,s0,c0,c,e0,q0,rfl,x⟩
  ·have k:=l.slot i s e';unfold iY at k ⊢
   split at k
   ·trivial
   ·obtain⟨v,e1,r1⟩:=k;exact⟨v,e1,r1.fr f⟩
   ·obtain⟨e1,b,z0,p,x⟩:=k;obtain⟨o,eo⟩:=x.gj;exact⟨e1,sB _ b,z0,p,x.of ((keep _ o eo (ne i _ _ z e' rfl)).trans eo.symm) f⟩
   ·obtain⟨e1,b,p,x⟩:=k;obtain⟨o,eo⟩:=x.gj;exact⟨e1,sB _ b,p,x.of ((keep _ o eo (ne i _ _ z e' rfl)).trans eo.symm) f⟩
  ·have k:=l.slot i s0 e0
   cases s0 with
   |un=>cases q0
   |tr t=>cases q0
   |bx d=>exact⟨k.1,sB _ k.2.1,k.2.2.1,k.2.2.2.1,x⟩
   |pb d=>exact⟨k.1,sB _ k.2.1,k.2.2.1,x⟩
 ·obtain⟨s1,c1,g1,g2⟩:=boxOld i s c e1 b1;obtain⟨s2,c2,g3,g4⟩:=boxOld j u d e2 b2;exact l.inj i j s1 s2 c1 c2 g1 g3 g2 g4 q
 ·obtain⟨⟨c,e⟩,ha⟩:=l.par i a p;refine⟨?_,ha⟩;by_cases z:i∈js
  ·obtain⟨c',e1,_⟩:=dM nd ps z e;exact⟨c',e1⟩
  ·exact⟨c,by rw[eX z];exact e⟩
 ·by_cases zb:B b
  ·obtain⟨o,e⟩:=l.gj b zb;by_cases z2:b∈js.map ad
   ·obtain⟨j,hj,rfl⟩:=KA.mp z2;obtain⟨s0,c0,e0,q0⟩:=hb j hj;obtain⟨c,_,x⟩:=dM nd ps hj e0;exact x.gj
   ·exact⟨o,keep b o e z2⟩
  ·exact tB b z zb
 ·have e2:=l.old b o e n;refine keep b o e2 fun hm=>?_;obtain⟨j,hj,rfl⟩:=KA.mp hm;obtain⟨s0,c0,e0,q0⟩:=hb j hj;rcases ((l.slot j s0 e0).boxed q0).2.2.2 with z|z
  ·exact n j z
  ·rw[z] at e;cases e
 ·obtain⟨g1,g2,g3⟩:=l.gh a ws ga;refine⟨keep a _ g1 fun hm=>?_,sB a g2,fun i s c e b=>?_⟩
  ·obtain⟨j,hj,q⟩:=KA.mp hm;obtain⟨s0,c0,e0,q0⟩:=hb j hj;exact g3 j s0 c0 e0 q0 q
  ·obtain⟨s0,c0,e0,q0⟩:=boxOld i s c e b;exact g3 i s0 c0 e0 q0
 ·by_cases z:i∈js
  ·obtain⟨s0,c0,e0,q0⟩:=hb i z;obtain⟨c,e1,_⟩:=dM nd ps z e0;rw[e0,e1];show (s0.box).isSome=((s0.put c).box).isSome;rw[q0,Sl.jg q0];rfl
  ·rw[eX z]
theorem AM(l:Rl F ad B σ H μ)(ro:List Nat):∀{md:List Bool} {xs:List V} {rs:List R} {args:List T},Paired (Hv F ad B H μ) xs rs->xB μ md rs=some args->(∀ j∈iC md rs,j∈ro)->(∀ j∈h_ md rs,j∉ro) ->
  (∀ j∈ro,∃(s:Sl) (c:T),μ[j]?=some s/\s.box=some c) ->
  gI F.K H (fun b=>B b/\∀ j∈ro,b≠ad j) md xs args/\km md xs=(h_ md rs).map ad/\∀ j∈h_ md rs,∃(s:Sl) (c:T),μ[j]?=some s/\s.box=some c:=by
 intro md
 induction md with
 |nil =>
  intro xs rs args p e _ _ _
  cases p with
  |nil=>cases e;exact⟨trivial,rfl,fun j h=>by cases h⟩
  |cons h p=>cases e
 |cons bb md ih =>
  intro xs rs args pp e h1 h2 h3
  cases pp with
  |nil=>cases bb<;>cases e
  |cons h p =>
   rename_i x r xs2 rs
   cases bb with
   |false =>
    unfold xB at e
    split at e
    ·rename_i t ts e1 e2;cases e;have sub:∀ j∈iC md rs,j∈ro:=fun j hj=>h1 j (by cases r<;>first|exact hj|exact Kh _ hj)
     obtain⟨g1,g2,g3⟩:=ih p e2 sub h2 h3;refine⟨⟨?_,g1⟩,?_,g3⟩
     ·cases r with
      |tr t' =>
       have e1':t'=t:=Option.some.inj e1;subst e1';exact (show Rep F.K H B x t' from h).fr (Fr.less fun _ z=>z.1)
      |br j =>
       obtain⟨rfl,s,c,q1,q2⟩:=h;have e1':(μ[j]?).bind Sl.box=some t:=e1;rw[q1] at e1';have bx:=((l.slot j s q1).boxed (c:=t) e1').2.2.1;exact (bx.of rfl (Fr.less fun _ z=>z.1)).rep fun z=>z.2 j (h1 j Kk) rfl
      |fr c=>exact h.elim
     ·show km (false::md) (_::_)=_;rw[show h_ (false::md) (r::rs)=h_ md rs by cases r<;>rfl]
      exact g2
    ·cases e
   |true =>
    cases r with
    |tr t=>cases e
    |fr c=>cases e
    |br j =>
     unfold xB at e
     split at e
     ·rename_i t ts e1 e2;cases e;obtain⟨g1,g2,g3⟩:=ih p e2 h1 (fun i hi=>h2 i (Kh _ hi)) h3;obtain⟨rfl,s,c,q1,q2⟩:=h;have e1':(μ[j]?).bind Sl.box=some t:=e1;rw[q1] at e1';have bx:=(l.slot j s q1).boxed (c:=t) e1';refine⟨⟨⟨ad j,rfl,⟨bx.2.1,fun i hi z=>?_⟩,bx.2.2.1.of rfl (Fr.less fun _ z=>z.1)⟩,g1⟩,K4 (ad j::·) g2,fun i hi=>?_⟩
      ·obtain⟨s',c',q3,q4⟩:=h3 i hi;have:=l.inj j i s s' t c' q1 q3 e1' q4 z;subst this;exact h2 j Kk hi
      ·rcases Ki.mp hi with z|z
       ·subst z;exact⟨s,t,q1,e1'⟩
       ·exact g3 i z
     ·cases e
theorem jM:∀{md:List Bool} {xs:List V} {rs:List R},Paired (Hv F ad B H μ) xs rs->∀ j∈iC md rs,∃(s:Sl) (c:T),μ[j]?=some s/\s.box=some c
 |[],_,_,_,j,h=>by cases h
 |b::md,_,_,.nil,j,h=>by cases b<;>cases h
 |b::md,_,r::rs,.cons h p,j,hj=>by
  cases b with
  |true=>exact jM (md:=md) p j (by cases r<;>exact hj)
  |false =>
   cases r with
   |tr t=>exact jM (md:=md) p j hj
   |fr c=>exact h.elim
   |br i =>
    rcases Ki.mp hj with z|z
    ·subst z;exact h.2
    ·exact jM (md:=md) p j z
theorem Bx.flat(h:Bx K H B a c)(f:iH c=true):Bx K H B' a c:=by
 rcases h.is with ⟨ts,vs,rfl,e,r⟩|⟨ks,ts,vs,rfl,e,l,r⟩
 ·exact⟨vs,e,r.flat f⟩
 ·exact⟨vs,e,l,r.flat f⟩
theorem Paired.nM:∀{as:List Addr} {outs:List T},Paired (Bx K H B) as outs->outs.all iH=true->Paired (Bx K H B') as outs
 |_,_,.nil,_=>.nil
 |_,_,.cons h p,f=>by
  rw[Lf,KI] at f;exact .cons (h.flat f.1) (Paired.nM p f.2)
namespace Y
noncomputable def CK(md:List Bool)(tsp:dE)(us:UA):UE:=fun μ Q=>us μ fun rs μ1=>match xB μ1 md rs with
 |some args=>(h_ md rs).Nodup/\(∀ j∈h_ md rs,j∉iC md rs)/\tsp args fun r outs=>(iC md rs=[]\/(gv r=true/\outs.all iH=true))/\Q r (putAll (h_ md rs) outs μ1)
 |none=>False
theorem AK{md:List Bool}{E:XK}{t:TA}(ha:RA K t us):RE K (jD (spT K md tsp) [] E t) (CK md tsp us):=by
 intro F ad B σ H μ Q Qt hF l q k;refine ha F ad B σ H μ _ _ hF l q fun vs H1 rs μ1 l1 ps f1 k1 q1=>?_
 split at q1
 ·rename_i args ea;obtain⟨nd,dj,q1⟩:=q1;have hro:=jM (md:=md) ps;obtain⟨ag,eb,hb⟩:=AM l1 (iC md rs) ps ea (fun j h=>h) dj hro;rw[hF] at ag;show spT K md tsp (vs++[]) H1 Q E;rw[Kw];have inj:∀{js:List Nat},js.Nodup->(∀ j∈js,∃(s:Sl) (c:T),μ1[j]?=some s/\s.box=some c)->(js.map ad).Nodup:=fun {js}=>by
   induction js with
   |nil=>exact fun _ _=>OO
   |cons j js ih =>
    intro nd hb;rw[KQ] at nd;rw[KD,KQ];refine⟨fun hm=>?_,ih nd.2 fun i hi=>hb i (Kh _ hi)⟩;obtain⟨i,hi,z⟩:=KA.mp hm;obtain⟨s1,c1,e1,b1⟩:=hb j Kk;obtain⟨s2,c2,e2,b2⟩:=hb i (Kh _ hi);exact nd.1 (l1.inj i j s2 s1 c2 c1 e2 e1 b2 b1 z ▸ hi)
  refine⟨_,args,_,ag,fun b z=>l1.gj b z.1,by rw[eb];exact inj nd hb,q1,fun v H2 r outs hq keep res=>?_⟩
  rw[eb] at keep res;obtain⟨hfl,hq⟩:=hq;have nro:∀{b:Addr},iC md rs=[]->B b->B b/\∀ j∈iC md rs,b≠ad j:=fun {b} z h=>⟨h,fun j hj=>by rw[z] at hj;cases hj⟩
  cases r with
  |br i=>exact res.elim
  |tr t =>
   obtain⟨rv,po⟩:=res;have rv':Rep F.K H2 B v t:=by
    rw[hF];rcases hfl with z|z
    ·exact rv.fr (Fr.less fun b h=>nro z h)
    ·exact rv.flat z.1
   have po':Paired (Bx F.K H2 B) ((h_ md rs).map ad) outs:=by
    rw[hF];rcases hfl with z|z
    ·exact Paired.mG po fun a c h=>h.of rfl (Fr.less fun b h=>nro z h)
    ·exact Paired.nM po z.2
   obtain⟨l2,k2,f2⟩:=l1.call hb nd keep (fun _ z=>z) (fun _ _ _ z=>z) (fun b z n=>absurd z n) po';exact k v H2 (.tr t) _ ⟨l2,rv'⟩ (f1.trans f2) (k1.trans k2) hq
  |fr c =>
   obtain⟨a,rfl,ha0,nBa,x,po⟩:=res;have nBa':¬ B a:=l1.kB ha0;have sub:iC md rs=[]->∀ b,more B a b->more (fun b=>B b/\∀ j∈iC md rs,b≠ad j) a b:=fun z b h=>h.imp id fun h=>nro z h;have x':Bx F.K H2 (more B a) a c:=by
    rw[hF];rcases hfl with z|z
    ·exact x.of rfl (Fr.less (sub z))
    ·exact x.flat z.1
   have po':Paired (Bx F.K H2 (more B a)) ((h_ md rs).map ad) outs:=by
    rw[hF];rcases hfl with z|z
    ·exact Paired.mG po fun a' c h=>h.of rfl (Fr.less (sub z))
    ·exact Paired.nM po z.2
   have po2:Paired (Bx F.K H2 B) ((h_ md rs).map ad) outs:=Paired.mG po' fun a' c h=>h.of rfl (Fr.less fun _ z=>.inr z);obtain⟨l2,k2,f2⟩:=l1.call hb nd keep (fun _ z=>z) (fun _ _ _ z=>z) (fun b z n=>absurd z n) po2;obtain⟨l3,_,f3⟩:=l1.call (B2:=more B a) hb nd keep (fun _ z=>.inr z) (fun b o e n z=>z.elim (fun z=>by rw[z,ha0] at e;cases e) n) (fun b z n=>z.elim (fun z=>by rw[z];exact x'.gj) fun z=>absurd z n) po'
   exact k _ H2 (.fr c) _ ⟨l2,a,rfl,nBa',l1.Ay ha0,l3,x'⟩ (f1.trans f3) (k1.trans k2) hq
 ·exact q1.elim
section
variable {X:Cx} {e:Expr} {es:List Expr} {us:UA} {pos p:Pos} {x:Str} {k:Nat} {ps:List Str} {md:List Bool} {tsp:dE} {E:XK}
theorem fn(K:Pm)(hK:X.K=K)(F:ae X.prog X.w X.K X.mg X.base aU k x ps (spT K md tsp))(hr:b7 k X.A)(hg:Gl X x)(hx:Passes aU X E)(ha:YA X (e::es) us)(h1:autoParam (cS e=true) ℜ0)(h2:autoParam (es.all cS=true) ℜ0)(hdb:autoParam ((x ==("__debug__":Str))=false) ℜ1):
  YE X (.Call (.Name x p) (e::es) [] pos) (CK md tsp us):=by
 obtain⟨t,q,r⟩:=ha;subst hK;exact⟨_,Z.fn F hr hg hx q h1 h2 hdb,AK r⟩
end
end Y
noncomputable def Dp:dE:=fun args Q=>∃ ns:List Int,args=[.ee (ns.map T.int)]/\ns.length<=63/\Q (.tr (.bl true)) []
section
variable {prog:Program} {w:World} {A:Around} {E:Value->Shared->Prop} {s:Shared}
structure ZA (z TI TO i1 i2 l1 l2:Addr):Prop where
 a1:TI≠z
 a2:TO≠z
 a3:i1≠z
 a4:i2≠z
 a5:TO≠i1
 a6:TO≠i2
 a7:i1≠i2
 a8:l1≠z/\l1≠TO/\l1≠i1/\l1≠i2
 a9:l2≠z/\l2≠TO/\l2≠i1/\l2≠i2
 b1:TI≠TO/\TI≠i1/\TI≠i2
theorem ZA.f1{TI TO:Addr}(D:ZA z TI TO i1 i2 l1 l2){e:Addr}(he:e=z\/e=TO\/e=i2):∀ b∈[i1,l1],b≠e:=fun b hb=>by
 rcases Ki.mp hb with rfl|hb
 ·rcases he with rfl|rfl|rfl
  ·exact D.a3
  ·exact D.a5.symm
  ·exact D.a7
 ·have hb:b=l1:=by simpa using hb
  subst hb;rcases he with rfl|rfl|rfl
  ·exact D.a8.1
  ·exact D.a8.2.1
  ·exact D.a8.2.2.2
theorem ZA.f2{TI TO:Addr}(D:ZA z TI TO i1 i2 l1 l2){e:Addr}(he:e=z\/e=TO\/e=i1):∀ b∈[i2,l2],b≠e:=fun b hb=>by
 rcases Ki.mp hb with rfl|hb
 ·rcases he with rfl|rfl|rfl
  ·exact D.a4
  ·exact D.a6.symm
  ·exact D.a7.symm
 ·have hb:b=l2:=by simpa using hb
  subst hb;rcases he with rfl|rfl|rfl
  ·exact D.a9.1
  ·exact D.a9.2.1
  ·exact D.a9.2.2.1
theorem eW{P:Nat->Value->Prop}{S:Nat->Heap->Prop}{A':Around}(D:Draws prog w A' it [it,l] n P S){e:Addr}(st:S i h)(hs:Heap.ExtBut e h h')(ne:∀ b∈[it,l],b≠e):S i h':=D.frame i h h' st fun b hb o q=>hs b o (ne b hb) q
theorem uQ{TI TO:Addr}{n1 n2:Nat}{a b:Value}(D:ZA z TI TO i1 i2 l1 l2)(D1:Draws prog w A i1 [i1,l1] n1 P1 S1)(D2:Draws prog w A i2 [i2,l2] n2 P2 S2)
  (hz:IsZip s.heap z TI TO .none) (hTI:IsPair s.heap TI (.ref i1) (.ref i2)) (hTO:IsPair s.heap TO a b) (st1:S1 k s.heap) (st2:S2 k s.heap) (hk1:k<n1) (hk2:k<n2)
  (hQ:∀ x y h' tk,P1 k x->P2 k y->IsZip h' z TI TO (rawInt s.heap.objs.size)->IsPair h' TO x y->S1 (k+1) h'->S2 (k+1) h'->IsPair h' s.heap.objs.size x y ->
   (∀ c o,c≠z->c≠TO->c≠i1->c≠i2->s.heap.get? c=some o->h'.get? c=some o)->Q (.ref s.heap.objs.size) {s with heap:=h',toks:=tk}) :
  wpAny (model prog w) A (Builtin.«zip.__next__» ⟨[.ref z],[]⟩) (fun fin s'=>∃ v,fin=.done (.ret v)/\Q v s') E s:=by
 have zrec:=hz;show wpAny _ _ (field (.ref z) 2 >>= _) _ _ _;refine JU (Li zrec rfl (x:=.bool false) rfl ?_);show wpAny _ _ (field (.ref z) 3 >>= _) _ _ _;refine JU (Li zrec rfl (x:=.ref TI) rfl ?_);have tirec:=hTI;refine JU (LK tirec rfl ?_);show wpAny _ _ (Builtin.SmallTypes.ownedTupleIsFree (.ref z) >>= _) _ _ _;refine JU ?_;unfold Builtin.SmallTypes.ownedTupleIsFree;refine JU (Li zrec rfl (x:=.none) rfl (Kb ?_));simp only[LS];refine JU (NU ?_);refine JU (Li zrec rfl (x:=.ref TO) rfl ?_);refine JU (LP zrec (by simp) fun g1 zr1 sb1=>?_)
 replace zr1:IsZip g1 z TI TO .ellipsis:=zr1
 refine JU ?_;simp only[List.zipIdx_cons,List.zipIdx_nil,MF,List.forIn_nil];refine JU (JU (NL ?_));show wpAny _ _ (Builtin.SmallTypes.nextOf (.ref i1) >>= _) _ _ _;refine JU (D1.item k _ _ _ hk1 (eW D1 st1 sb1.extBut (D.f1 (.inl rfl))) fun x g2 tk2 px st1b sb2=>Kb ?_);have to2:IsPair g2 TO a b:=sb2.extBut _ _ D.a5 (sb1.extBut _ _ D.a2 hTO);refine JU (LK to2 rfl ?_);refine JU (Nn to2 fun g3 to3 sb3=>?_)
 replace to3:IsPair g3 TO x b:=to3
 refine JU (wpAny_letGo (Kb ?_));refine JU (JU (NL ?_));show wpAny _ _ (Builtin.SmallTypes.nextOf (.ref i2) >>= _) _ _ _;have st2c:S2 k g3:=eW D2 (eW D2 (eW D2 st2 sb1.extBut (D.f2 (.inl rfl))) sb2.extBut (D.f2 (.inr (.inr rfl)))) sb3.extBut (D.f2 (.inr (.inl rfl)));refine JU (D2.item k _ _ _ hk2 st2c fun y g4 tk4 py st2d sb4=>Kb ?_);have to4:IsPair g4 TO x b:=sb4.extBut _ _ D.a6 to3;refine JU (LK to4 rfl ?_);refine JU (Nn to4 fun g5 to5 sb5=>?_)
 replace to5:IsPair g5 TO x y:=to5
 refine JU (wpAny_letGo (Kb (Kb ?_)));refine JU (LK to5 rfl ?_);refine JU (OP ?_);have size5:g5.objs.size=s.heap.objs.size:=by rw[sb5.1,sb4.1,sb3.1,sb2.1,sb1.1]
 have zr5:IsZip g5 z TI TO .ellipsis:=sb5.extBut _ _ D.a2.symm (sb4.extBut _ _ D.a4.symm (sb3.extBut _ _ D.a2.symm (sb2.extBut _ _ D.a3.symm zr1)));have keep5:∀ c o,c≠z->c≠TO->c≠i1->c≠i2->s.heap.get? c=some o->g5.get? c=some o:=fun c o e1 e2 e3 e4 q =>
  sb5.extBut _ _ e2 (sb4.extBut _ _ e4 (sb3.extBut _ _ e2 (sb2.extBut _ _ e3 (sb1.extBut _ _ e1 q))))
 have s1e:S1 (k+1) g5:=eW D1 (eW D1 (eW D1 st1b sb3.extBut (D.f1 (.inr (.inl rfl)))) sb4.extBut (D.f1 (.inr (.inr rfl)))) sb5.extBut (D.f1 (.inr (.inl rfl)));have s2e:S2 (k+1) g5:=eW D2 st2d sb5.extBut (D.f2 (.inr (.inl rfl)));have zlt:z<g5.objs.size:=Kn zr5;show wpAny _ _ (Builtin.SmallTypes.ownedTupleHandOut (.ref z) (.ref g5.objs.size) >>= _) _ _ _;refine JU ?_;unfold Builtin.SmallTypes.ownedTupleHandOut;have zr6:IsZip (g5.push {cls:=.type "tuple",data:=.seq #[x,y]}) z TI TO .ellipsis:=JW _ zr5;refine JU (LP zr6 (by simp) fun g7 zr7 sb7=>?_)
 replace zr7:IsZip g7 z TI TO (rawInt g5.objs.size):=zr7
 refine LP zr7 (by simp) fun g8 zr8 sb8=>?_
 replace zr8:IsZip g8 z TI TO (rawInt g5.objs.size):=zr8
 have up:∀ c o,c≠z->g5.get? c=some o->g8.get? c=some o:=fun c o e1 q=>sb8.extBut _ _ e1 (sb7.extBut _ _ e1 (JW _ q));have pr8:IsPair g8 g5.objs.size x y:=sb8.extBut _ _ (Mf zlt) (sb7.extBut _ _ (Mf zlt) (Km _ rfl));rw[size5] at zr8 pr8;refine Kb ⟨_,rfl,?_⟩;show Q (.ref g5.objs.size) _;rw[size5];exact hQ x y g8 _ px py zr8 (up _ _ D.a2 to5) (D1.frame _ _ _ s1e fun b hb o q=>up b o (D.f1 (.inl rfl) b hb) q) (D2.frame _ _ _ s2e fun b hb o q=>up b o (D.f2 (.inl rfl) b hb) q) pr8 fun c o e1 e2 e3 e4 q=>up c o e1 (keep5 c o e1 e2 e3 e4 q)
theorem wQ{TI TO:Addr}{n1 n2:Nat}{a b:Value}{Q:Fin->Shared->Prop}(D:ZA z TI TO i1 i2 l1 l2)(D1:Draws prog w A i1 [i1,l1] n1 P1 S1)(D2:Draws prog w A i2 [i2,l2] n2 P2 S2)
  (hz:IsZip s.heap z TI TO .none) (hTI:IsPair s.heap TI (.ref i1) (.ref i2)) (hTO:IsPair s.heap TO a b) (st1:S1 k s.heap) (st2:S2 k s.heap) (hk:k=n1\/(k<n1/\k=n2))
  (hE:∀ h' e tk,(∀ c o,c≠z->c≠TO->c≠i1->c≠i2->s.heap.get? c=some o->h'.get? c=some o)->(∃ o,h'.get? e=some o/\o.cls=.type "StopIteration")->E (.ref e) {s with heap:=h',toks:=tk}) :
  wpAny (model prog w) A (Builtin.«zip.__next__» ⟨[.ref z],[]⟩) Q E s:=by
 have zrec:=hz;show wpAny _ _ (field (.ref z) 2 >>= _) _ _ _;refine JU (Li zrec rfl (x:=.bool false) rfl ?_);show wpAny _ _ (field (.ref z) 3 >>= _) _ _ _;refine JU (Li zrec rfl (x:=.ref TI) rfl ?_);have tirec:=hTI;refine JU (LK tirec rfl ?_);show wpAny _ _ (Builtin.SmallTypes.ownedTupleIsFree (.ref z) >>= _) _ _ _;refine JU ?_;unfold Builtin.SmallTypes.ownedTupleIsFree;refine JU (Li zrec rfl (x:=.none) rfl (Kb ?_));simp only[LS];refine JU (NU ?_);refine JU (Li zrec rfl (x:=.ref TO) rfl ?_);refine JU (LP zrec (by simp) fun g1 zr1 sb1=>?_)
 replace zr1:IsZip g1 z TI TO .ellipsis:=zr1
 refine JU ?_;simp only[List.zipIdx_cons,List.zipIdx_nil,MF,List.forIn_nil];refine JU (JU (NL ?_));show wpAny _ _ (Builtin.SmallTypes.nextOf (.ref i1) >>= _) _ _ _;rcases hk with hk|⟨hk1,hk2⟩
 ·subst hk;refine JU (D1.done _ _ _ (eW D1 st1 sb1.extBut (D.f1 (.inl rfl))) fun g2 e sb2 he=>?_);obtain⟨oe,hoe,hce⟩:=he;have zr2:IsZip g2 z TI TO .ellipsis:=sb2 _ _ D.a3.symm zr1;have nez:e≠z:=fun q=>by subst q;rw[zr2] at hoe;cases hoe;simp at hce
  refine LP zr2 (by simp) fun g3 _ sb3=>hE g3 e _ (fun c o e1 _ e3 _ q=>sb3.extBut _ _ e1 (sb2 _ _ e3 (sb1.extBut _ _ e1 q))) ⟨oe,sb3.extBut _ _ nez hoe,hce⟩
 ·subst hk2;refine JU (D1.item k _ _ _ hk1 (eW D1 st1 sb1.extBut (D.f1 (.inl rfl))) fun x g2 tk2 px st1b sb2=>Kb ?_);have to2:IsPair g2 TO a b:=sb2.extBut _ _ D.a5 (sb1.extBut _ _ D.a2 hTO);refine JU (LK to2 rfl ?_);refine JU (Nn to2 fun g3 to3 sb3=>?_);refine JU (wpAny_letGo (Kb ?_));refine JU (JU (NL ?_));show wpAny _ _ (Builtin.SmallTypes.nextOf (.ref i2) >>= _) _ _ _;have st2c:S2 k g3:=eW D2 (eW D2 (eW D2 st2 sb1.extBut (D.f2 (.inl rfl))) sb2.extBut (D.f2 (.inr (.inr rfl)))) sb3.extBut (D.f2 (.inr (.inl rfl)));refine JU (D2.done _ _ _ st2c fun g4 e sb4 he=>?_);obtain⟨oe,hoe,hce⟩:=he;have zr4:IsZip g4 z TI TO .ellipsis:=sb4 _ _ D.a4.symm (sb3.extBut _ _ D.a2.symm (sb2.extBut _ _ D.a3.symm zr1));have nez:e≠z:=fun q=>by subst q;rw[zr4] at hoe;cases hoe;simp at hce
  refine LP zr4 (by simp) fun g5 _ sb5=>hE g5 e _ (fun c o e1 e2 e3 e4 q=>sb5.extBut _ _ e1 (sb4 _ _ e4 (sb3.extBut _ _ e2 (sb2.extBut _ _ e3 (sb1.extBut _ _ e1 q))))) ⟨oe,sb5.extBut _ _ nez hoe,hce⟩
end
noncomputable def qZ(K:Pm)(k:Bool)(H:Hp)(a:Addr)(xs:List V):Prop:=if k=true then cx K H a xs else cc K H a xs
noncomputable def iP(k:Bool)(h:Heap)(it a:Addr)(i:Nat):Prop:=if k=true then h.IsListIter it a i else h.IsTupleIter it a i
noncomputable def iM(k:Bool)(h:Heap)(a:Addr)(items:Array Value):Prop:=if k=true then h.IsList a items else h.IsTuple a items
theorem jb(k:Bool)(hh:A.handled=none)(it l:Addr)(hne:l≠it)(items:Array Value):Draws prog w A it [it,l] items.size (fun i v=>items[i]?=some v) (fun i h=>iP k h it l i/\iM k h l items):=by
 cases k with
 |true=>exact Draws.list hh it l hne items
 |false=>exact iu hh it l hne items
theorem Inv.sX{k:Bool}(I:Inv X pins σ H s)(h:qZ X.K k H a xs):∃ its:List Value,Vals xs its/\iM k s.heap a its.toArray:=by
 cases k with
 |true=>obtain⟨its,r,p,_⟩:=I.list h;exact⟨its,r,p.isList⟩
 |false=>obtain⟨its,r,p,_⟩:=I.tuple h;exact⟨its,r,p⟩
theorem Inv.oV{k:Bool}(I:Inv X pins σ H s)(h:qZ X.K k H a xs)(h':qZ X.K k H a ys):xs=ys:=by
 cases k with
 |true=>exact I.ke h h'
 |false=>exact I.ik h h'
noncomputable def Ee(K:Pm)(k1 k2:Bool)(a b:Addr):It:=
  ⟨fun i H=>∃ xs ys x y,qZ K k1 H a xs/\qZ K k2 H b ys/\xs[i]?=some x/\ys[i]?=some y,
   fun i H v H'=>∃ p x y,(∀ xs,qZ K k1 H a xs->xs[i]?=some x)/\(∀ ys,qZ K k2 H b ys->ys[i]?=some y)/\H p=none/\v=.ref p/\H'=upd H p (.tup [x,y]),
   fun i H=>∃ xs ys,qZ K k1 H a xs/\qZ K k2 H b ys/\i=min xs.length ys.length⟩
theorem iM.ty{k:Bool}(x:iM k h a items):∃ o,h.get? a=some o/\(o.cls=.type "list"\/o.cls=.type "tuple")/\∃ n,o.data=.seq items n:=by
 cases k with
 |true=>obtain⟨o,e,c,n,d⟩:=(show h.IsList a items from x);exact⟨o,e,.inl c,n,d⟩
 |false=>obtain⟨o,e,c,n,d⟩:=(show h.IsTuple a items from x);exact⟨o,e,.inr c,n,d⟩
theorem iP.ty{k:Bool}(x:iP k h it a i):∃ o,h.get? it=some o/\(o.cls=.type "list_iterator"\/o.cls=.type "tuple_iterator")/\o.data=.fields #[.ref a,.int i 0]:=by
 cases k with
 |true=>obtain⟨o,e,c,d⟩:=(show h.IsListIter it a i from x);exact⟨o,e,.inl c,d⟩
 |false=>obtain⟨o,e,c,d⟩:=(show h.IsTupleIter it a i from x);exact⟨o,e,.inr c,d⟩
noncomputable def HB(k:Bool):String:=if k=true then "list_iterator" else "tuple_iterator"
abbrev GP(h:Heap)(k1:Bool)(a:Addr):Heap:=h.push {cls:=.type (HB k1),data:=.fields #[.ref a,.int 0 0]}
abbrev Hx(h:Heap)(k1 k2:Bool)(a b:Addr):Heap:=(GP h k1 a).push {cls:=.type (HB k2),data:=.fields #[.ref b,.int 0 0]}
abbrev GQ(h:Heap)(k1 k2:Bool)(a b:Addr):Heap:=(Hx h k1 k2 a b).push {cls:=.type "tuple",data:=.seq #[.ref h.objs.size,.ref (GP h k1 a).objs.size]}
abbrev Ht(h:Heap)(k1 k2:Bool)(a b:Addr):Heap:=(GQ h k1 k2 a b).push {cls:=.type "tuple",data:=.seq #[.none,.none]}
abbrev Em(h:Heap)(k1 k2:Bool)(a b:Addr):Heap:=(Ht h k1 k2 a b).push {cls:=.type "zip",data:=.fields #[.none,.bool false,.bool false,.ref (Hx h k1 k2 a b).objs.size,.ref (GQ h k1 k2 a b).objs.size]}
theorem nF(x:h.IsTuple a items)(o:Obj):(h.push o).IsTuple a items:=by
 obtain⟨ob,e,r⟩:=x;exact⟨ob,JW _ e,r⟩
theorem p9(k1 k2:Bool)(a b:Addr)(xs ys:Array Value):
  Meets (Builtin.«zip.__new__» ⟨[.type "zip",.ref a,.ref b],[]⟩) (fun _ R s=>iM k1 s.heap a xs/\iM k2 s.heap b ys /\
   R (.ok (.ret (.ref (Ht s.heap k1 k2 a b).objs.size))) {s with heap:=Em s.heap k1 k2 a b}):=
 .of_wp fun prog w A R s h=>by
  obtain⟨hp,g,d,tk,os⟩:=s;obtain⟨q1,q2,h⟩:=h;have hsub:=sub_zip
  cases k1 with
  |true =>
   have w1:Heap.IsList (Shared.heap ⟨hp,g,d,tk,os⟩) a xs:=q1
   cases k2 with
   |true =>
    have w2:Heap.IsList (Shared.heap ⟨hp.push {cls:=.type "list_iterator",data:=.fields #[.ref a,.int 0 0]},g,d,tk,os⟩) b ys:=Heap.IsList.push q2 _;wp_walk using LW w1,LW w2;exact⟨_,rfl,h⟩
   |false =>
    have w2:Heap.IsTuple (Shared.heap ⟨hp.push {cls:=.type "list_iterator",data:=.fields #[.ref a,.int 0 0]},g,d,tk,os⟩) b ys:=nF q2 _;wp_walk using LW w1,L5 w2;exact⟨_,rfl,h⟩
  |false =>
   have w1:Heap.IsTuple (Shared.heap ⟨hp,g,d,tk,os⟩) a xs:=q1
   cases k2 with
   |true =>
    have w2:Heap.IsList (Shared.heap ⟨hp.push {cls:=.type "tuple_iterator",data:=.fields #[.ref a,.int 0 0]},g,d,tk,os⟩) b ys:=Heap.IsList.push q2 _;wp_walk using L5 w1,LW w2;exact⟨_,rfl,h⟩
   |false =>
    have w2:Heap.IsTuple (Shared.heap ⟨hp.push {cls:=.type "tuple_iterator",data:=.fields #[.ref a,.int 0 0]},g,d,tk,os⟩) b ys:=nF q2 _;wp_walk using L5 w1,L5 w2;exact⟨_,rfl,h⟩
theorem Bb{k:Bool}(e:h.get? it=some {cls:=.type (HB k),data:=.fields #[.ref a,.int 0 0]}):iP k h it a 0:=by
 cases k with
 |true=>exact⟨_,e,rfl,rfl⟩
 |false=>exact⟨_,e,rfl,rfl⟩
section
variable {prog:Program} {w:World} {A:Around} {E:Value->Shared->Prop} {s:Shared}
theorem uG{k1 k2:Bool}{xs ys:Array Value}(h1:iM k1 s.heap a xs)(h2:iM k2 s.heap b ys)
  (h:∀ h',IsZip h' (s.heap.objs.size+4) (s.heap.objs.size+2) (s.heap.objs.size+3) .none->IsPair h' (s.heap.objs.size+2) (.ref s.heap.objs.size) (.ref (s.heap.objs.size+1))->IsPair h' (s.heap.objs.size+3) .none .none ->
   iP k1 h' s.heap.objs.size a 0->iP k2 h' (s.heap.objs.size+1) b 0->(∀ c o,s.heap.get? c=some o->h'.get? c=some o)->Q (.ref (s.heap.objs.size+4)) {s with heap:=h'}) :
  wpAny (model prog w) A (call (.type "zip") [.ref a,.ref b]) Q E s:=by
 refine callType_new F.called_zip (by decide) (F.typeCall_zip_2 _ _) (F.newCall_zip_2 _ _) (fun obj=>F.args_object_init_3 obj _ _) F.entry_zip_new (p9 k1 k2 a b xs ys) ⟨h1,h2,?_⟩
 have e1:(GP s.heap k1 a).objs.size=s.heap.objs.size+1:=Md ..;have e2:(Hx s.heap k1 k2 a b).objs.size=s.heap.objs.size+2:=by rw[Md,e1]
 have e3:(GQ s.heap k1 k2 a b).objs.size=s.heap.objs.size+3:=by rw[Md,e2]
 have e4:(Ht s.heap k1 k2 a b).objs.size=s.heap.objs.size+4:=by rw[Md,e3]
 have p5:(Em s.heap k1 k2 a b).get? (Ht s.heap k1 k2 a b).objs.size=some _:=Km _ rfl;have p4:(Em s.heap k1 k2 a b).get? (GQ s.heap k1 k2 a b).objs.size=some _:=JW _ (Km _ rfl);have p3:(Em s.heap k1 k2 a b).get? (Hx s.heap k1 k2 a b).objs.size=some _:=JW _ (JW _ (Km _ rfl));have p2:(Em s.heap k1 k2 a b).get? (GP s.heap k1 a).objs.size=some _:=JW _ (JW _ (JW _ (Km _ rfl)));have p1:(Em s.heap k1 k2 a b).get? s.heap.objs.size=some _:=JW _ (JW _ (JW _ (JW _ (Km _ rfl))));show _/\_;rw[e2,e3,e4] at p5;rw[e1,e2] at p3;rw[e3] at p4;rw[e1] at p2;rw[e4];exact⟨⟨_,p5,rfl⟩,h _ p5 p3 p4 (Bb p1) (Bb p2) fun c o x=>JW _ (JW _ (JW _ (JW _ (JW _ x))))⟩
end
theorem t4{w:World}{tk:Nat}(k1 k2:Bool)(a b z TI TO i1 i2:Addr)(D:ZA z TI TO i1 i2 a b):
  Turn P w K (.Tuple es tk tp) (Ee K k1 k2 a b) [z,TI,TO,i1,i2] z (fun i h=>IsZip h z TI TO .none/\IsPair h TI (.ref i1) (.ref i2)/\(∃ x y,IsPair h TO x y)/\iP k1 h i1 a i/\iP k2 h i2 b i) where
 mem:=by simp
 obj:=fun i h st c hc=>by
  obtain⟨s1,s2,⟨x,y,s3⟩,s4,s5⟩:=st;simp only[Ki,Ld,Mi] at hc;rcases hc with rfl|rfl|rfl|rfl|rfl
  ·exact⟨_,s1,fun v q=>by cases q⟩
  ·exact⟨_,s2,fun v q=>by cases q⟩
  ·exact⟨_,s3,fun v q=>by cases q⟩
  ·obtain⟨o,e,_,d⟩:=s4.ty;exact⟨o,e,fun v q=>by rw[d] at q;cases q⟩
  ·obtain⟨o,e,_,d⟩:=s5.ty;exact⟨o,e,fun v q=>by rw[d] at q;cases q⟩
 keep:=fun i h h' st k=>by
  obtain⟨s1,s2,⟨x,y,s3⟩,s4,s5⟩:=st;refine⟨k z (by simp) _ s1,k TI (by simp) _ s2,⟨x,y,k TO (by simp) _ s3⟩,?_,?_⟩
  ·cases k1 with
   |true=>obtain⟨o,e,r⟩:=(show h.IsListIter i1 a i from s4);exact⟨o,k i1 (by simp) o e,r⟩
   |false=>obtain⟨o,e,r⟩:=(show h.IsTupleIter i1 a i from s4);exact⟨o,k i1 (by simp) o e,r⟩
  ·cases k2 with
   |true=>obtain⟨o,e,r⟩:=(show h.IsListIter i2 b i from s5);exact⟨o,k i2 (by simp) o e,r⟩
   |false=>obtain⟨o,e,r⟩:=(show h.IsTupleIter i2 b i from s5);exact⟨o,k i2 (by simp) o e,r⟩
 item:=by
  intro X hP hw hK hc i pins s σ H E I hf st hg;subst hP hw hK;obtain⟨xs,ys,x,y,q1,q2,ex,ey⟩:=hg;obtain⟨s1,s2,⟨x0,y0,s3⟩,s4,s5⟩:=st;obtain⟨its1,rv1,p1⟩:=I.sX q1;obtain⟨its2,rv2,p2⟩:=I.sX q2;obtain⟨u1,hu1,ru1⟩:=rv1.get ex;obtain⟨u2,hu2,ru2⟩:=rv2.get ey;have lt1:i<its1.toArray.size:=by have:=(Kf.mp hu1).1;simpa using this
  have lt2:i<its2.toArray.size:=by have:=(Kf.mp hu2).1;simpa using this
  have hT:s.TypeIs (.ref z) "zip":=⟨_,s1,rfl⟩;have D1:=jb (prog:=X.prog) (w:=X.w) (A:=X.A.in1) k1 (I.ok.hd hc) i1 a D.a8.2.2.1 its1.toArray;have D2:=jb (prog:=X.prog) (w:=X.w) (A:=X.A.in1) k2 (I.ok.hd hc) i2 b D.a9.2.2.2 its2.toArray;unfold pyNext;refine JU (NM (Le (name:=Str.ofString "__next__") hT PySem.F.slot_zip_next (Lh PySem.F.slot_zip_next hT PySem.F.entry_zip_next
   (uQ D D1 D2 s1 s2 s3 ⟨s4,p1⟩ ⟨s5,p2⟩ lt1 lt2 fun v1 v2 h' tk' px py z1 t1 w1 w2 pr kp=>Kb ?_) (PySem.F.args_zip_next_1 _))))
  have fr:H s.heap.objs.size=none:=I.aO.fresh (Kc _);have ev1:v1=u1:=by rw[Lm,hu1] at px;exact (Option.some.inj px).symm
  have ev2:v2=u2:=by rw[Lm,hu2] at py;exact (Option.some.inj py).symm
  subst ev1 ev2;have lt:∀{c o},s.heap.get? c=some o->s.heap.objs.size≠c:=fun e=>Mf (Kn e);refine⟨.ref s.heap.objs.size,rfl,wpAny_letOwnedTupleGo_zip z1 fun h2 z2 sb2=>?_⟩;have pr2:IsPair h2 s.heap.objs.size v1 v2:=sb2.extBut _ _ (lt s1) pr;have I2:Inv X pins σ (upd H s.heap.objs.size (.tup [x,y])) {s with heap:=h2,toks:=tk'}:=by
   refine I.nv (fp:=[z,TI,TO,i1,i2]) hf (Kc _) (fun c o hcm ec=>?_) ⟨by show 2<=sizeLine;decide,[v1,v2],.cons ru1 (.cons ru2 .nil),⟨_,pr2,rfl,_,rfl,rfl⟩⟩
   simp only[Ki,Ld,Mi,not_or] at hcm;exact sb2.extBut _ _ hcm.1 (kp c o hcm.1 hcm.2.2.1 hcm.2.2.2.1 hcm.2.2.2.2 ec)
  refine⟨.ref s.heap.objs.size,_,I2,rfl,⟨s.heap.objs.size,x,y,fun zs hz=>by rw[I.oV hz q1];exact ex,fun zs hz=>by rw[I.oV hz q2];exact ey,fr,rfl,rfl⟩,⟨z2,?_,⟨v1,v2,?_⟩,?_,?_⟩,fun c hcm=>?_⟩
  ·exact sb2.extBut _ _ D.a1 (kp _ _ D.a1 D.b1.1 D.b1.2.1 D.b1.2.2 s2)
  ·exact sb2.extBut _ _ D.a2 t1
  ·have:=D1.frame (i+1) h' h2 w1 fun c hcm o q=>sb2.extBut _ _ (D.f1 (.inl rfl) c hcm) q;exact this.1
  ·have:=D2.frame (i+1) h' h2 w2 fun c hcm o q=>sb2.extBut _ _ (D.f2 (.inl rfl) c hcm) q;exact this.1
  ·have hn:=(hf c hcm).1;rw[aj]
   ·exact hn
   ·simp only[Ki,Ld,Mi] at hcm;rcases hcm with rfl|rfl|rfl|rfl|rfl
    ·exact (lt s1).symm
    ·exact (lt s2).symm
    ·exact (lt s3).symm
    ·obtain⟨o,e,_⟩:=s4.ty;exact (lt e).symm
    ·obtain⟨o,e,_⟩:=s5.ty;exact (lt e).symm
 done:=by
  intro X hP hw hK hc i pins s σ H E I hf st hg;subst hP hw hK;obtain⟨xs,ys,q1,q2,hi⟩:=hg;obtain⟨s1,s2,⟨x0,y0,s3⟩,s4,s5⟩:=st;obtain⟨its1,rv1,p1⟩:=I.sX q1;obtain⟨its2,rv2,p2⟩:=I.sX q2;have n1:its1.toArray.size=xs.length:=by rw[J_];exact rv1.length.symm
  have n2:its2.toArray.size=ys.length:=by rw[J_];exact rv2.length.symm
  have hT:s.TypeIs (.ref z) "zip":=⟨_,s1,rfl⟩;have D1:=jb (prog:=X.prog) (w:=X.w) (A:=X.A.in1) k1 (I.ok.hd hc) i1 a D.a8.2.2.1 its1.toArray;have D2:=jb (prog:=X.prog) (w:=X.w) (A:=X.A.in1) k2 (I.ok.hd hc) i2 b D.a9.2.2.2 its2.toArray;unfold pyNext;refine JU (NM (Le (name:=Str.ofString "__next__") hT PySem.F.slot_zip_next (Lh PySem.F.slot_zip_next hT PySem.F.entry_zip_next
   (wQ D D1 D2 s1 s2 s3 ⟨s4,p1⟩ ⟨s5,p2⟩ (by rw[n1,n2];lia) fun h' e tk' kp he=>?_) (PySem.F.args_zip_next_1 _))))
  obtain⟨o,ho,hcl⟩:=he;refine JU (wpAny_isInstance (T:="StopIteration") (b:=true) ⟨o,ho,hcl⟩ isSubtype_stop (Kb ⟨rfl,?_⟩));refine I.turns (t':=tk') hf fun c o hcm ec=>?_;simp only[Ki,Ld,Mi,not_or] at hcm;exact kp c o hcm.1 hcm.2.2.1 hcm.2.2.2.1 hcm.2.2.2.2 ec
 self:=fun A i s Q E st h=>wpAny_pyIter_zip st.1 h
section
variable {X:Cx} {es:List Expr} {tk:Nat} {tp:Pos}
noncomputable def FJ(K:Pm)(ta:TA):TI:=fun σ H R=>ta σ H fun vs H1=>∃ a b k1 k2,vs=[.ref a,.ref b]/\(∃ xs,qZ K k1 H1 a xs)/\(∃ ys,qZ K k2 H1 b ys)/\R (Ee K k1 k2 a b) H1
theorem Aa{e1 e2:Expr}{p pos:Pos}(hg:Gl X "zip")(hm:X.mg "zip"=none)(ha:PA X [e1,e2] ta)(h1:autoParam (cS e1=true) ℜ0)(h2:autoParam (cS e2=true) ℜ0)(hv:autoParam (bootBuiltins "zip"=some (.type "zip")) ℜ6):
  PI X (.Tuple es tk tp) (.Call (.Name "zip" p) [e1,e2] [] pos) (FJ X.K ta):=by
 intro pins s σ H R I h;refine Call_ (fQ I hg hm hv (Ly (bS (ha pos pins s σ H _ I h) fun us s1 ⟨vs,H1,I1,r1,q1⟩=>?_) (by rw[dq h1,dq h2]) (by rw[dq h2];rfl)))
 obtain⟨a,b,k1,k2,e,⟨xs,hx⟩,⟨ys,hy⟩,q⟩:=q1;subst e;obtain⟨u,w',rfl,ru,rw'⟩:=vals2 r1
 cases ru;cases rw'
 obtain⟨its1,rv1,p1⟩:=I1.sX hx;obtain⟨its2,rv2,p2⟩:=I1.sX hy;obtain⟨o1,eo1,_⟩:=p1.ty;obtain⟨o2,eo2,_⟩:=p2.ty;have l1:a<s1.heap.objs.size:=Kn eo1;have l2:b<s1.heap.objs.size:=Kn eo2;refine uG p1 p2 fun h' z1 z2 z3 z4 z5 kp=>wpAny_pyIter_zip z1 ?_;have I2:Inv X pins σ H1 {s1 with heap:=h'}:=I1.kept (t':=s1.toks) kp
 have ne:∀(m n c:Nat),m≠n->c+m≠c+n:=fun m n c h=>by lia
 have nl:∀(x c m:Nat),x<c->x≠c+m:=fun x c m h=>by lia
 have D:ZA (s1.heap.objs.size+4) (s1.heap.objs.size+2) (s1.heap.objs.size+3) s1.heap.objs.size (s1.heap.objs.size+1) a b:=
  ⟨ne 2 4 _ (by decide),ne 3 4 _ (by decide),ne 0 4 _ (by decide),ne 1 4 _ (by decide),ne 3 0 _ (by decide),ne 3 1 _ (by decide),ne 0 1 _ (by decide),⟨nl _ _ 4 l1,nl _ _ 3 l1,nl _ _ 0 l1,nl _ _ 1 l1⟩,⟨nl _ _ 4 l2,nl _ _ 3 l2,nl _ _ 0 l2,nl _ _ 1 l2⟩,ne 2 3 _ (by decide),ne 2 0 _ (by decide),ne 2 1 _ (by decide)⟩
 refine⟨s1.heap.objs.size+4,[s1.heap.objs.size+4,s1.heap.objs.size+2,s1.heap.objs.size+3,s1.heap.objs.size,s1.heap.objs.size+1],_,_,H1,rfl,I2,t4 k1 k2 a b _ _ _ _ _ D,⟨z1,z2,⟨_,_,z3⟩,z4,z5⟩,fun c hc=>?_,q⟩;have hc':s1.heap.objs.size<=c:=by
  simp only[Ki,Ld,Mi] at hc;rcases hc with rfl|rfl|rfl|rfl|rfl
  ·exact Nc _ _
  ·exact Nc _ _
  ·exact Nc _ _
  ·exact Kc _
  ·exact Nc _ _
 exact I1.qm hc' (I1.aO.fresh hc')
end
noncomputable def pq(ts us:List T):List T:=List.zipWith (fun t u=>.tup [t,u]) ts us
noncomputable def nJ:T->Option (List T)
 |.lst ts=>some ts
 |.tup ts=>some ts
 |.ee ts=>some ts
 |.dZ ts=>some ts
 |_=>none
noncomputable def kdOf:T->Bool
 |.lst _=>true
 |.ee _=>true
 |_=>false
theorem Vw.sq{v:V}{t:T}(h:Vw K H B v t)(e:nJ t=some ts):∃ a vs,v=.ref a/\qZ K (kdOf t) H a vs/\ay K H B vs ts:=by
 cases h with
 |aC=>cases e
 |bl=>cases e
 |int=>cases e
 |str=>cases e
 |eJ=>cases e
 |n5=>cases e
 |exc=>cases e
 |Ar=>cases e
 |tup h r=>cases e;exact⟨_,_,rfl,cc.of h,r⟩
 |dZ h r=>cases e;exact⟨_,_,rfl,.inr h,r⟩
 |lst h r=>cases e;exact⟨_,_,rfl,cx.of h,r⟩
 |ee h r=>cases e;exact⟨_,_,rfl,h,r⟩
theorem Dq{k1 k2:Bool}{us:List T}:iS K (Ee K k1 k2 a b) (fun H B=>(∃ vs,qZ K k1 H a vs/\ay K H B vs ts)/\∃ ws,qZ K k2 H b ws/\ay K H B ws us) (pq ts us):=by
 refine⟨fun H B i t hb ⟨⟨vs,h1,r1⟩,ws,h2,r2⟩ e=>?_,fun H B ⟨⟨vs,h1,r1⟩,ws,h2,r2⟩=>⟨vs,ws,h1,h2,by rw[r1.length,r2.length];simp[pq]⟩⟩
 unfold pq at e;rw[List.getElem?_zipWith] at e
 cases e1:ts[i]? with
 |none=>rw[e1] at e;cases e
 |some t1=>cases e2:us[i]? with
  |none=>rw[e1,e2] at e;cases e
  |some t2 =>
   rw[e1,e2] at e;have e':T.tup [t1,t2]=t:=Option.some.inj e;subst e';obtain⟨v1,g1,rv1⟩:=r1.get e1;obtain⟨v2,g2,rv2⟩:=r2.get e2;refine⟨⟨vs,ws,v1,v2,h1,h2,g1,g2⟩,fun x H2 y=>?_⟩;obtain⟨p,x',y',hx,hy,hp,rfl,rfl⟩:=y;have z1:=hx vs h1;have z2:=hy ws h2;rw[g1] at z1;rw[g2] at z2
   cases z1;cases z2
   have fs:Fr B H B (upd H p (.tup [v1,v2])):=Fr.same (bL.new hp);refine⟨bL.new hp,.tup (fun z=>?_) az (.cons (rv1.fr fs) (.cons (rv2.fr fs) .nil))⟩;obtain⟨o,q⟩:=hb p z;rw[hp] at q;cases q
namespace Y
section
variable {X:Cx} {e1 e2:Expr} {es:List Expr} {us:UA} {pos p tp:Pos} {k:Nat}
noncomputable def iZ(us:UA):UI:=fun μ Rt=>us μ fun rs μ'=>match rs with
 |[.tr t1,.tr t2]=>(match nJ t1,nJ t2 with
  |some ts,some vs=>Rt (pq ts vs) none μ'
  |_,_=>False)
 |_=>False
theorem zip(K:Pm)(hK:X.K=K)(hg:Gl X "zip")(hm:X.mg "zip"=none)(ha:YA X [e1,e2] us)(h1:autoParam (cS e1=true) ℜ0)(h2:autoParam (cS e2=true) ℜ0):YI X (.Tuple es k tp) (.Call (.Name "zip" p) [e1,e2] [] pos) (iZ us):=by
 obtain⟨t,q,r⟩:=ha;subst hK;refine⟨_,⟨Aa hg hm q.h h1 h2⟩,fun F ad B σ H μ R Rt hF l q k=>r F ad B σ H μ _ _ hF l q fun vs H' rs μ' l1 ps f k1 q1=>?_⟩
 split at q1
 ·rename_i t1 t2
  cases ps with
  |cons h1 ps=>cases ps with
   |cons h2 ps =>
    cases ps;have r1:=b8 h1;have r2:=b8 h2
    split at q1
    ·rename_i ts us e1 e2;obtain⟨a,vs,rfl,s1,_⟩:=Vw.sq r1.vw e1;obtain⟨b,ws,rfl,s2,_⟩:=Vw.sq r2.vw e2;rw[hF] at s1 s2;refine⟨a,b,kdOf t1,kdOf t2,rfl,⟨vs,s1⟩,⟨ws,s2⟩,k _ H' μ' _ none (fun H B=>Rep F.K H B (.ref a) t1/\Rep F.K H B (.ref b) t2) l1 f k1 (Dq.imp fun H B h=>?_) ⟨r1,r2⟩ (fun B1 H1 B2 H2 f h=>⟨h.1.fr f,h.2.fr f⟩) (fun j ls z=>by cases z) q1⟩
     obtain⟨g1,g2⟩:=h;obtain⟨a',vs',ea,sa,ra⟩:=Vw.sq g1.vw e1;obtain⟨b',ws',eb,sb,rb⟩:=Vw.sq g2.vw e2
     cases ea;cases eb
     rw[hF] at sa sb ra rb;exact⟨⟨vs',sa,ra⟩,ws',sb,rb⟩
    ·exact q1.elim
 ·exact q1.elim
end
end Y
theorem Ag{N ps:List Str}(F:yB K x x st fa fd)(S:ao N ps (aa st))(md:List Bool)(hm:md.length=ps.length)(hN:md.length<=N.length)
  (hbody:∀(args:List T) (Qt:R->List T->Prop),args.length=ps.length->tsp args Qt->∀(cdv:Value) (A:Around) (outer:List Env) (s:Shared) (H:Hp) (E:XK),b7 k (A.deeper (envOfC x (aa st) s.heap.objs.size fa cdv)) ->
   ∃ us,YB (gK aU P w K mg base N x (aa st) fa cdv A outer s H E).zJ (bA st) us/\us (m6 md Qt) (startM md args N.length)):d_ P w K mg base aU (k+1) fa fd ps (spT K md tsp):=by
 refine yH F S (fun vs H Q E h=>?_) (fun cdv A outer s H vs Q E hr h=>?_)
 ·obtain⟨B,args,Qt,ag,_⟩:=h;rw[ag.len.1,hm]
 ·obtain⟨B,args,Qt,ag,bh,nd,ht,fin⟩:=h;obtain⟨us,⟨t,q,r⟩,hu⟩:=hbody args Qt (by rw[ag.len.2,hm]) ht cdv A outer s H E hr
  refine⟨t,q,?_⟩;have l0:=kj (N:=N) ag bh nd hN;have outs:∀ ad' B' σ' H' μ' (B2:aX),Rl (kq K H md vs B bh) ad' B' σ' H' μ'->(∀ b,B2 b->B' b)->Paired (Bx K H' B2) (km md vs) (bV md 0 μ'):=fun ad' B' σ' H' μ' B2 l hB=>by
   refine m3 (ag.len.1) fun n e=>?_;obtain⟨v,t',e1,e2,q⟩:=ag.get e;rw[Ke rfl] at q;obtain⟨a,rfl,_⟩:=q;obtain⟨⟨c,hc⟩,ha⟩:=l.par n a (mL e e1);have sl:=l.slot n _ hc;refine⟨a,c,e1,by rw[LO];exact hc,?_⟩
   rw[<- ha];exact (sl.2.2.2).of rfl (Fr.less hB)
  have keep:∀ ad' B' σ' H' μ',Rl (kq K H md vs B bh) ad' B' σ' H' μ'->∀ b o,H b=some o->b∉km md vs->H' b=some o:=fun ad' B' σ' H' μ' l b o e n=>l.old b o e fun i z=>n (fX (gF z).1 (gF z).2);refine r (kq K H md vs B bh) _ _ (nr vs) B (start N vs) H _ rfl l0 hu ⟨fun ad' B' σ' H' μ' l _ q=>?_,fun ad' B' σ' H' μ' v rr h q=>?_,fun _ _ _ _ _ _ _ z=>z.elim,fun _ _ _ _ _ _ _ z=>z.elim⟩
  ·exact fin .aC H' (.tr .aC) _ q (keep _ _ _ _ _ l) ⟨.aC,outs _ _ _ _ _ _ l l.bc⟩
  ·cases rr with
   |tr t=>exact fin v H' (.tr t) _ q (keep _ _ _ _ _ h.1) ⟨(show Rep K H' B' v t from h.2).fr (Fr.less h.1.bc),outs _ _ _ _ _ _ h.1 h.1.bc⟩
   |fr c =>
    obtain⟨l,a,rfl,n,h0,l2,x⟩:=h;have sub:∀ b,more B a b->more B' a b:=fun b z=>z.imp id (l.bc b);exact fin _ H' (.fr c) _ q (keep _ _ _ _ _ l) ⟨a,rfl,h0,fun z=>n (l.bc a z),x.of rfl (Fr.less sub),outs _ _ _ _ _ _ l2 sub⟩
   |br i =>
    have q':(match μ'[i]? with|some (.bx c)=>Qt (.fr c) (bV md 0 μ')|_=>False):=q
    obtain⟨l,rfl,s',c',e1,e2⟩:=h
    split at q'
    ·rename_i c ec;have sl:=l.slot i _ ec;have sub:∀ b,more B (ad' i) b->B' b:=fun b z=>z.elim (fun z=>by rw[z];exact sl.2.1) (l.bc b)
     refine fin _ H' (.fr c) _ q' (keep _ _ _ _ _ l) ⟨ad' i,rfl,sl.2.2.1,fun z=>?_,(sl.2.2.2.2).of rfl (Fr.less sub),outs _ _ _ _ _ _ l sub⟩;obtain⟨o,e⟩:=bh _ z;have:H (ad' i)=none:=sl.2.2.1;rw[this] at e;cases e
    ·exact q'.elim
namespace Y
section
variable {X:Cx} {es:List Expr} {pos:Pos} {x:Str}
theorem gQ{t:T}(hg:Gl X x)(h:∃ w u,X.mg x=some u/\RelV w u/\∀ H B,Rep X.K H B w t)(hd:autoParam ((x ==("__debug__":Str))=false) ℜ1):YE X (.Name x pos) (uC t):=by
 obtain⟨w,u,hm,r,h⟩:=h;exact glob hg hm r h hd
noncomputable def qR:List V->Option (List T)
 |[]=>some []
 |v::vs=>match wL v,qR vs with
  |some t,some ts=>some (t::ts)
  |_,_=>none
theorem lq:∀{vs:List V} {ts:List T},qR vs=some ts->vs.map wL=ts.map some
 |[],ts,h=>by cases h;rfl
 |v::vs,ts,h=>by
  unfold qR at h
  split at h
  ·rename_i t us e1 e2;cases h;rw[KD,KD,e1,lq e2]
  ·cases h
theorem eC(h:kK es=some vs)(h2:qR vs=some ts):YA X es (uK ts):=consts h (lq h2)
end
end Y
theorem jY{u w:US}{E:Ed}(h:∀ N,N=w E->u {E with nx:=N} μ):Y.A7 u w E μ:=h _ rfl
noncomputable def n4(o:Option (Prop×R))(Q:R->Prop):Prop:=match o with
 |some (C,r)=>C/\Q r
 |none=>False
noncomputable def EW(o:Option (List T×Option (Nat×List T)))(Q:List T->Option (Nat×List T)->Prop):Prop:=match o with
 |some (ts,g)=>Q ts g
 |none=>False
noncomputable def nb:Option Sl->Prop
 |some (.pb _)=>False
 |_=>True
noncomputable def sl:Option T->Sl
 |none=>.un
 |some t=>.tr t
noncomputable def C9(o:Option Sl)(i:Nat):Option (Prop×R):=match o with
 |some (.tr t)=>some (True,.tr t)
 |some (.bx _)=>some (True,.br i)
 |some (.pb _)=>some (True,.br i)
 |_=>none
noncomputable def xF:R->Option Bool
 |.tr (.bl b)=>some b
 |.tr (.int i)=>some (i != 0)
 |_=>none
noncomputable def DJ(a b:Option T):Option (Prop×R):=match a,b with
 |some (.int i),some (.int j)=>some (True,.tr (.int (i+j)))
 |some (.str i),some (.str j)=>some (i.length+j.length<=sizeLine,.tr (.str (i++j)))
 |some (.lst xs),some (.lst ys)=>some (xs.length+ys.length<=sizeLine,.fr (.lst (xs++ys)))
 |some (.tup xs),some (.tup ys)=>some (xs.length+ys.length<=sizeLine,.tr (.tup (xs++ys)))
 |_,_=>none
noncomputable def oT(o:Option T):Option (Prop×R):=match o with
 |some t=>some (True,.tr t)
 |none=>none
noncomputable def IB(a b:Option T):Option (Prop×R):=match a,b with
 |some (.lst xs),some (.int i)=>oT (bw xs i)
 |some (.tup xs),some (.int i)=>oT (bw xs i)
 |some (.dZ xs),some (.int i)=>oT (bw xs i)
 |some (.str z),some (.int i)=>(match bw z.cps.toList i with|some c=>some (z.length<=sizeLine,.tr (.str ⟨#[c]⟩))|none=>none)
 |_,_=>none
noncomputable def GL(a:T):Option (Prop×R):=match a with
 |.lst xs=>some (True,.tr (.int xs.length))
 |.tup xs=>some (True,.tr (.int xs.length))
 |.ee xs=>some (True,.tr (.int xs.length))
 |.dZ xs=>some (True,.tr (.int xs.length))
 |.str z=>some (z.length<=sizeLine,.tr (.int z.length))
 |_=>none
noncomputable def qP(a:Option T):Option (Prop×R):=match a with
 |some (.lst xs)=>some (True,.tr (.tup xs))
 |some (.tup xs)=>some (True,.tr (.tup xs))
 |_=>none
noncomputable def B4(a:T):Option (Prop×R):=match a with
 |.lst xs=>some (True,.fr (.lst xs))
 |.tup xs=>some (True,.fr (.lst xs))
 |.ee xs=>some (True,.fr (.lst xs))
 |.eJ lo hi=>some ((hi-lo).toNat<=65536/\-(2^62)<=lo/\lo<2^62/\-(2^62)<=hi/\hi<2^62,.fr (.lst ((List.range (hi-lo).toNat).map fun k=>T.int (lo+(k:Nat)))))
 |_=>none
noncomputable def u6(a:Option T):Option (List T):=match a with
 |some (.tup ts)=>some ts
 |some (.lst ts)=>some ts
 |_=>none
noncomputable def yF(r:R)(μ:Mu):Option (List T×Option (Nat×List T)):=match r with
 |.br j=>(match cont μ (.br j) with|some (.lst ts)=>some (ts,some (j,ts))|_=>none)
 |.tr (.lst ts)=>some (ts,none)
 |.fr (.lst ts)=>some (ts,none)
 |.tr (.tup ts)=>some (ts,none)
 |.tr (.ee ts)=>some (ts,none)
 |.tr (.dZ ts)=>some (ts,none)
 |_=>none
namespace A
open Y
theorem uC(t:T)(μ:Mu)(Q:R->Mu->Prop):Y.uC t μ Q=Q (.tr t) μ:=rfl
theorem mQ(i:Nat)(μ:Mu)(Q:R->Mu->Prop):Y.mQ i μ Q=n4 (C9 μ[i]? i) fun r=>Q r μ:=by
 unfold Y.mQ C9
 cases μ[i]? with
 |none=>rfl
 |some s=>cases s<;>exact propext ⟨fun h=>by first|exact h|exact⟨trivial,h⟩,fun h=>by first|exact h|exact h.2⟩
theorem jF(ue:UE)(μ:Mu)(Q:Bool->Mu->Prop):Y.jF ue μ Q=ue μ fun r μ'=>match r with|.tr (.bl b)=>Q b μ'|_=>False:=rfl
theorem jI(u u':U2)(ua ub uc:UE)(μ:Mu)(Q:R->Mu->Prop):Y.jI u u' ua ub uc μ Q=ua μ fun r1 μ1=>ub μ1 fun r2 μ2=>u r1.d r2.d μ2 fun z μ3=>match z with
 |.tr (.bl true)=>uc μ3 fun r3 μ4=>u' r2.d r3.d μ4 Q
 |.tr (.bl false)=>Q (.tr (.bl false)) μ3
 |_=>False:=rfl
theorem zH(ut:UT)(μ:Mu)(Q:Bool->Mu->Prop):Y.zH ut μ Q=ut μ fun b μ'=>Q (!b) μ':=rfl
theorem xy(u w:UT)(μ:Mu)(Q:Bool->Mu->Prop):Y.xy u w μ Q=u μ fun b μ'=>if b=true then w μ' Q else Q false μ':=rfl
theorem EE(u w:UT)(μ:Mu)(Q:Bool->Mu->Prop):Y.EE u w μ Q=u μ fun b μ'=>if b=true then Q true μ' else w μ' Q:=rfl
theorem oE(ue:UE)(μ:Mu)(Q:Bool->Mu->Prop):Y.oE ue μ Q=ue μ fun r μ'=>match xF r with|some b=>Q b μ'|none=>False:=by
 unfold Y.oE xF;congr 1
 funext r μ'
 cases r with
 |tr t=>cases t<;>rfl
 |br i=>rfl
 |fr c=>rfl
theorem sE(ua ub:UE)(μ:Mu)(Q:R->Mu->Prop):Y.sE ua ub μ Q=ua μ fun r μ'=>match r with|.tr (.bl true)=>ub μ' Q|.tr (.bl false)=>Q (.tr (.bl false)) μ'|_=>False:=rfl
theorem E9(uc:UT)(ua ub:UE)(μ:Mu)(Q:R->Mu->Prop):Y.E9 uc ua ub μ Q=uc μ fun b μ'=>if b=true then ua μ' Q else ub μ' Q:=rfl
theorem wF(ue:UE)(μ:Mu)(Q:R->Mu->Prop):Y.wF ue μ Q=ue μ fun r μ'=>match r with|.tr (.int i)=>Q (.tr (.int (-i))) μ'|_=>False:=rfl
theorem pN(μ:Mu)(Q:List R->Mu->Prop):Y.pN μ Q=Q [] μ:=rfl
theorem uK(ts:List T)(μ:Mu)(Q:List R->Mu->Prop):Y.uK ts μ Q=Q (ts.map R.tr) μ:=rfl
theorem zR(us:UA)(μ:Mu)(Q:R->Mu->Prop):Y.zR us μ Q=us μ fun rs μ'=>match trees rs with|some ts=>ts.length<=sizeLine/\Q (.tr (.tup ts)) μ'|none=>False:=rfl
theorem yR(us:UA)(μ:Mu)(Q:R->Mu->Prop):Y.yR us μ Q=us μ fun rs μ'=>match trees rs with|some ts=>ts.length<=sizeLine/\Q (.fr (.lst ts)) μ'|none=>False:=rfl
theorem C5(u:UC)(us:UA)(μ:Mu)(Q:R->Mu->Prop):Y.C5 u us μ Q=us μ fun rs μ'=>u rs μ' Q:=rfl
theorem jj(μ:Mu)(Q:Option Int->Mu->Prop):Y.jj μ Q=Q none μ:=rfl
theorem iE(ue:UE)(μ:Mu)(Q:Option Int->Mu->Prop):Y.iE ue μ Q=ue μ fun r μ'=>match r with|.tr (.int i)=>Q (some i) μ'|_=>False:=rfl
theorem ou(f:T->T->Mu->(R->Mu->Prop)->Prop)(r1 r2:R)(μ:Mu)(Q:R->Mu->Prop):Y.ou f r1 r2 μ Q=(match cont μ r1,cont μ r2 with|some t,some u=>f t u μ Q|_,_=>False):=rfl
theorem FK(C:Int->Int->Prop)(g:Int->Int->Int)(i j:Int)(μ:Mu)(Q:R->Mu->Prop):vb C g (.int i) (.int j) μ Q=(C i j/\Q (.tr (.int (g i j))) μ):=rfl
theorem Ji(g:Int->Int->Bool)(i j:Int)(μ:Mu)(Q:R->Mu->Prop):Jc g (.int i) (.int j) μ Q=Q (.tr (.bl (g i j))) μ:=rfl
theorem kn(r1 r2:R)(μ:Mu)(Q:R->Mu->Prop):Y.kn r1 r2 μ Q=n4 (DJ (cont μ r1) (cont μ r2)) fun r=>Q r μ:=by
 unfold Y.kn DJ
 cases cont μ r1 with
 |none=>rfl
 |some t=>cases cont μ r2 with
  |none=>cases t<;>rfl
  |some u=>cases t<;>cases u<;>first|rfl|exact propext ⟨fun h=>⟨trivial,h⟩,fun h=>h.2⟩
theorem qu(r1 r2:R)(μ:Mu)(Q:R->Mu->Prop):Y.qu r1 r2 μ Q=n4 (IB (cont μ r1) (cont μ r2)) fun r=>Q r μ:=by
 unfold Y.qu IB;have e:∀(xs:List T) (i:Int),(match bw xs i with|some t=>Q (.tr t) μ|none=>False)=n4 (oT (bw xs i)) fun r=>Q r μ:=fun xs i=>by
  cases bw xs i with
  |none=>rfl
  |some t=>exact propext ⟨fun h=>⟨trivial,h⟩,fun h=>h.2⟩
 cases cont μ r1 with
 |none=>rfl
 |some t=>cases cont μ r2 with
  |none=>cases t<;>rfl
  |some u =>
   cases t<;>cases u<;>first|rfl|exact e _ _|skip
   rename_i z i;show (z.length<=sizeLine/\(match bw z.cps.toList i with|some c=>Q (.tr (.str ⟨#[c]⟩)) μ|none=>False))=n4 (match bw z.cps.toList i with|some c=>some (z.length<=sizeLine,.tr (.str ⟨#[c]⟩))|none=>none) fun r=>Q r μ
   cases bw z.cps.toList i with
   |none=>exact propext ⟨fun h=>h.2,fun h=>h.elim⟩
   |some c=>rfl
theorem nU(neg:Bool)(t:T)(μ:Mu)(Q:R->Mu->Prop):Y.nU neg t .aC μ Q=Q (.tr (.bl (match t with|.aC=>!neg|_=>neg))) μ:=rfl
theorem Fc(neg:Bool)(i j:Int)(μ:Mu)(Q:R->Mu->Prop):Y.Ei neg (.int i) (.int j) μ Q=Q (.tr (.bl (if neg then !decide (i=j) else decide (i=j)))) μ:=rfl
theorem Jh(neg:Bool)(i j:Str)(μ:Mu)(Q:R->Mu->Prop):Y.Ei neg (.str i) (.str j) μ Q=Q (.tr (.bl (if neg then !decide (i=j) else decide (i=j)))) μ:=rfl
theorem yD(f:T->Mu->(R->Mu->Prop)->Prop)(r:R)(μ:Mu)(Q:R->Mu->Prop):Y.yD f [r] μ Q=(match cont μ r with|some t=>f t μ Q|none=>False):=rfl
theorem oj(t:T)(μ:Mu)(Q:R->Mu->Prop):Y.oj t μ Q=n4 (GL t) fun r=>Q r μ:=by
 cases t<;>first|rfl|exact propext ⟨fun h=>⟨trivial,h⟩,fun h=>h.2⟩
theorem iz(r:R)(μ:Mu)(Q:R->Mu->Prop):Y.iz [r] μ Q=n4 (qP (cont μ r)) fun r=>Q r μ:=by
 show (match cont μ r with|some (.lst xs)=>Q (.tr (.tup xs)) μ|some (.tup xs)=>Q (.tr (.tup xs)) μ|_=>False)=_
 unfold qP
 cases cont μ r with
 |none=>rfl
 |some t=>cases t<;>first|rfl|exact propext ⟨fun h=>⟨trivial,h⟩,fun h=>h.2⟩
theorem nE(t:T)(μ:Mu)(Q:R->Mu->Prop):Y.nE t μ Q=n4 (B4 t) fun r=>Q r μ:=by
 cases t<;>first|rfl|exact propext ⟨fun h=>⟨trivial,h⟩,fun h=>h.2⟩|exact propext ⟨fun h=>⟨⟨h.1,h.2.1,h.2.2.1,h.2.2.2.1,h.2.2.2.2.1⟩,h.2.2.2.2.2⟩,fun h=>⟨h.1.1,h.1.2.1,h.1.2.2.1,h.1.2.2.2.1,h.1.2.2.2.2,h.2⟩⟩
theorem zW(j:Int)(μ:Mu)(Q:R->Mu->Prop):Y.qr [.tr (.int j)] μ Q=Q (.tr (.eJ 0 j)) μ:=rfl
theorem Dw(g:Int->Int->Int)(i j:Int)(μ:Mu)(Q:R->Mu->Prop):Y.Dw g [.tr (.int i),.tr (.int j)] μ Q=Q (.tr (.int (g i j))) μ:=rfl
theorem E_(k:Bool)(μ:Mu)(Q:R->Mu->Prop):Y.rH [.tr (.bl k)] μ Q=Q (.tr (.int (if k=true then 1 else 0))) μ:=rfl
theorem pf(ue:UE)(c:String)(μ:Mu)(Q:R->Mu->Prop):Y.pf ue c μ Q=ue μ fun r μ'=>match cont μ' r with|some t=>(match Ai t c with|some b=>Q (.tr (.bl b)) μ'|none=>False)|none=>False:=rfl
theorem jC(ue:UE)(g:UG)(E:Ed)(μ:Mu):Y.jC ue g E μ=ue μ fun r μ'=>g r μ' E.nx:=rfl
theorem JQ(i:Nat)(t:T)(μ:Mu)(Q:Mu->Prop):Y.gN i (.tr t) μ Q=(uZ μ i/\Q (μ.set i (.tr t))):=rfl
theorem JT(i:Nat)(t:T)(μ:Mu)(Q:Mu->Prop):Y.gN i (.fr t) μ Q=(uZ μ i/\Q (μ.set i (.bx t))):=rfl
theorem uZ(μ:Mu)(i:Nat):Y.uZ μ i=nb μ[i]?:=rfl
theorem ER(t:T):nb (some (.tr t))=True:=rfl
theorem GD(t:T):nb (some (.bx t))=True:=rfl
theorem FP:nb (some .un)=True:=rfl
theorem EX(o:Option T):nb (some (sl o))=True:=by cases o<;>rfl
theorem gT(n:Nat)(gs:rO)(r:R)(μ:Mu)(Q:Mu->Prop):Y.gT n gs r μ Q=(match u6 (cont μ r.d) with|some ts=>ts.length=n/\gs ts μ Q|none=>False):=by
 unfold Y.gT u6
 cases cont μ r.d with
 |none=>rfl
 |some t=>cases t<;>rfl
theorem Hl(g:UG)(gs:rO)(t:T)(ts:List T)(μ:Mu)(Q:Mu->Prop):Y.Hl g gs (t::ts) μ Q=g (.tr t) μ fun μ'=>gs ts μ' Q:=rfl
theorem GZ(μ:Mu)(Q:Mu->Prop):Y.GZ [] μ Q=Q μ:=rfl
theorem gS(uo ui:UE)(t:T)(μ:Mu)(Q:Mu->Prop):Y.gS uo ui (.tr t) μ Q=uo μ fun ro μ1=>ui μ1 fun ri μ2=>(match ro,ri with
  |.br j,.tr (.int k)=>(match (μ2[j]?).bind Sl.box with
   |some (.lst ts)=>(match ie ts.length k with
    |some n=>Q (dH μ2 j (.lst (ts.set n t)))
    |none=>False)
   |_=>False)
  |_,_=>False):=rfl
theorem tW(ue:UE)(E:Ed)(μ:Mu):Y.tW ue E μ=ue μ E.rt:=rfl
theorem sA(ue:UE)(E:Ed)(μ:Mu):Y.sA ue E μ=ue μ fun _ μ'=>E.nx μ':=rfl
theorem tm(c:UT)(u w:US)(E:Ed)(μ:Mu):Y.tm c u w E μ=c μ fun b μ'=>if b=true then u E μ' else w E μ':=rfl
theorem BB(ue:UE)(μ:Mu)(Rt:List T->Option (Nat×List T)->Mu->Prop):Y.BB ue μ Rt=ue μ fun r μ'=>EW (yF r μ') fun ts g=>Rt ts g μ':=by
 unfold Y.BB yF;congr 1
 funext r μ'
 cases r with
 |tr t=>cases t<;>rfl
 |br j =>
  show (match cont μ' (.br j) with|some (.lst ts)=>Rt ts (some (j,ts)) μ'|_=>False)=EW (match cont μ' (.br j) with|some (.lst ts)=>some (ts,some (j,ts))|_=>none) fun ts g=>Rt ts g μ'
  cases cont μ' (.br j) with
  |none=>rfl
  |some t=>cases t<;>rfl
 |fr c=>cases c<;>rfl
theorem GY(us:UA)(μ:Mu)(Rt:List T->Option (Nat×List T)->Mu->Prop):Y.GY us μ Rt=us μ fun rs μ'=>match rs with
 |[.tr (.int j)]=>-(2^62)<=j/\j<2^62/\Rt ((List.range j.toNat).map fun k=>T.int (0+(k:Nat))) none μ'
 |_=>False:=rfl
theorem Hh(us:UA)(μ:Mu)(Rt:List T->Option (Nat×List T)->Mu->Prop):Y.Hh us μ Rt=us μ fun rs μ'=>match rs with |[.tr (.tup ts)]=>Rt (pairs ts) none μ'|_=>False:=rfl
theorem iZ(us:UA)(μ:Mu)(Rt:List T->Option (Nat×List T)->Mu->Prop):Y.iZ us μ Rt=us μ fun rs μ'=>match rs with
 |[.tr t1,.tr t2]=>(match nJ t1,nJ t2 with|some ts,some vs=>Rt (pq ts vs) none μ'|_,_=>False)
 |_=>False:=rfl
theorem vo(ui:UI)(g:UG)(body:US)(E:Ed)(μ:Mu):Y.vo ui g body E μ=ui μ fun items gd μ'=>match gd with
 |none=>fH g body E items μ'
 |some (j,_)=>(match μ'[j]? with
  |some (.bx c)=>fH g body E items (μ'.set j (.tr c))
  |_=>False):=rfl
theorem iL(own:T->Mu->Option Mu)(dr:Mu->Mu)(ui:UI)(ut:UT)(ue:UE)(μ:Mu)(Q:R->Mu->Prop):Y.iL own dr ui ut ue μ Q=ui μ fun items gd μ'=>qB gd own dr ut ue Q items [] μ':=rfl
theorem Hb(um:UM)(uo:UE)(us:UA)(μ:Mu)(Q:R->Mu->Prop):Y.Hb um uo us μ Q=uo μ fun ro μ1=>match ro with|.br j=>Y.Hr ((μ1[j]?).bind Sl.box) (us μ1 fun rs μ2=>um j rs μ2 Q)|_=>False:=rfl
theorem hJ(j:Nat)(t:T)(μ:Mu)(Q:R->Mu->Prop):Y.hJ j [.tr t] μ Q=(match (μ[j]?).bind Sl.box with|some (.lst ts)=>ts.length<sizeLine/\Q (.tr .aC) (dH μ j (.lst (ts++[t])))|_=>False):=rfl
theorem CK(md:List Bool)(tsp:dE)(us:UA)(μ:Mu)(Q:R->Mu->Prop):Y.CK md tsp us μ Q=us μ fun rs μ1=>match xB μ1 md rs with
 |some args=>(h_ md rs).Nodup/\(∀ j∈h_ md rs,j∉iC md rs)/\tsp args fun r outs=>(iC md rs=[]\/(gv r=true/\outs.all iH=true))/\Q r (putAll (h_ md rs) outs μ1)
 |none=>False:=rfl
theorem JO(ts:List T):nJ (.tup ts)=some ts:=rfl
noncomputable def HN:Option T->Nat->Option (List T×Option (Nat×List T))
 |some (.lst ts),j=>some (ts,some (j,ts))
 |_,_=>none
theorem HC(xs:List T):qP (some (.lst xs))=some (True,.tr (.tup xs)):=rfl
theorem Ip(xs:List T):B4 (.tup xs)=some (True,.fr (.lst xs)):=rfl
theorem IE(xs:List T):u6 (some (.tup xs))=some xs:=rfl
theorem IC(xs:List T):u6 (some (.lst xs))=some xs:=rfl
theorem Gg(ts:List T)(μ:Mu):yF (.tr (.lst ts)) μ=some (ts,none):=rfl
theorem GF(ts:List T)(μ:Mu):yF (.fr (.lst ts)) μ=some (ts,none):=rfl
theorem FU(ts:List T)(μ:Mu):yF (.tr (.tup ts)) μ=some (ts,none):=rfl
theorem Fi(ts:List T)(μ:Mu):yF (.tr (.ee ts)) μ=some (ts,none):=rfl
theorem FZ(j:Nat)(μ:Mu):yF (.br j) μ=HN (cont μ (.br j)) j:=by
 show (match cont μ (.br j) with|some (.lst ts)=>some (ts,some (j,ts))|_=>none)=_
 unfold HN
 cases cont μ (.br j) with
 |none=>rfl
 |some t=>cases t<;>rfl
theorem GA(ts:List T)(j:Nat):HN (some (.lst ts)) j=some (ts,some (j,ts)):=rfl
theorem Ij(μ:Mu)(t:T):cont μ (.tr t)=some t:=rfl
theorem IJ(μ:Mu)(i:Nat):cont μ (.br i)=(μ[i]?).bind Sl.box:=rfl
theorem I_(t:T):R.d (.tr t)=.tr t:=rfl
theorem Iq(t:T):R.d (.fr t)=.tr t:=rfl
theorem IF(i:Nat):R.d (.br i)=.br i:=rfl
theorem IY(b:Bool):xF (.tr (.bl b))=some b:=rfl
end A
theorem bz{g:UG}{body:US}{E:Ed}(I:List T->Mu->Prop){items:List T}(h0:I items μ)(hn:∀ μ,I [] μ->E.nx μ)
  (hs:∀ t ts μ (N:Mu->Prop),I (t::ts) μ->(∀ μ',I ts μ'->N μ')->g (.tr t) μ fun μ1=>body {E with nx:=N,ct:=N,bk:=E.nx} μ1):Y.fH g body E items μ:=by
 induction items generalizing μ with
 |nil=>exact hn μ h0
 |cons t ts ih=>exact hs t ts μ _ h0 fun μ' h=>ih h
theorem bU{gd:Option (Nat×List T)}{own:T->Mu->Option Mu}{ut:UT}{Q:R->Mu->Prop}(I:List T->List T->Mu->Prop){items acc:List T}(h0:I items acc μ)(hn:∀ acc μ,I [] acc μ->Y.Gk gd μ/\Q (.fr (.lst acc)) μ)
  (hs:∀ t r acc μ (N:List T->Mu->Prop),I (t::r) acc μ->(∀ acc' μ',I r acc' μ'->N acc' μ')->Y.Gk gd μ/\acc.length<sizeLine/\(match own t μ with
   |none=>False
   |some μ1=>ut μ1 fun b μ2=>if b=true then ue μ2 fun rr μ3=>(match rr.d with
     |.tr t'=>N (acc++[t']) (dr μ3)
     |_=>False) else N acc (dr μ2))):Y.qB gd own dr ut ue Q items acc μ:=by
 induction items generalizing μ acc with
 |nil=>exact hn acc μ h0
 |cons t ts ih=>exact hs t ts acc μ (fun a m=>Y.qB gd own dr ut ue Q ts a m) h0 fun a' μ' h=>ih h
noncomputable def lO(K:Pm):Sp:=fun vs H Q _=>∃(a:Addr) (ns:List Int),vs=[.ref a]/\cx K H a (ns.map V.int)/\ns.length<=63/\∀ H',Q (.bl true) H'
theorem dI:∀ ns:List Int,ay K H B (ns.map V.int) (ns.map T.int)
 |[]=>.nil
 |n::ns=>.cons (.int n) (dI ns)
theorem D8{ps:List Str}(h:d_ P w K mg base aU k fa fd ps (spT K [false] Dp)):d_ P w K mg base aU k fa fd ps (lO K):=by
 refine h.imp fun vs H Q E ⟨a,ns,e,hs,hl,q⟩=>?_;subst e;refine⟨fun _=>False,[.ee (ns.map T.int)],fun r outs=>r=.tr (.bl true),⟨.ee ?_ (dI ns),trivial⟩,fun b z=>z.elim,OO,⟨ns,rfl,hl,rfl⟩,fun v H' r outs hr _ res=>?_⟩
 ·rcases hs with hs|hs
  ·exact .inl ⟨fun z=>z,hs⟩
  ·exact .inr hs
 ·subst hr;have rv:=res.1;cases rv;exact q H'
namespace Y
theorem CH(hu:X.A.units<cLine):cK X (compareOp .NotEq) (An X.K true):=by
 intro pins s σ H x y v u Q I rx ry h;obtain⟨a,b,xs,ys,rfl,rfl,hq,fx,fy,q⟩:=h
 cases rx;cases ry
 have item:∀(its its2:List Value),Vals xs its->Vals ys its2->∀ j (h1:j<its.toArray.size) (h2:j<its2.toArray.size),SeqAt.EqAt X.A.in1 s its.toArray[j] its2.toArray[j] (match xs[j]?,ys[j]? with|some x,some y=>tJ x y|_,_=>true):=fun its its2 r1 r2 j h1 h2=>by
  have l1:=r1.length;have l2:=r2.length;rw[J_] at h1 h2;obtain⟨u1,e1,g1⟩:=r1.get (i:=j) (x:=xs[j]) (JV (by lia))
  obtain⟨u2,e2,g2⟩:=r2.get (i:=j) (x:=ys[j]) (JV (by lia))
  rw[JV (show j<xs.length by lia),JV (show j<ys.length by lia)]
  have z1:its.toArray[j]=u1:=by
   rw[JV h1] at e1;simpa using e1
  have z2:its2.toArray[j]=u2:=by
   rw[JV h2] at e2;simpa using e2
  rw[z1,z2];exact qH g1 g2 (Ln.mp fx _ (K3 _)) (Ln.mp fy _ (K3 _))
 rcases hq with ⟨ha,hb⟩|⟨ha,hb⟩
 ·obtain⟨its,r1,p1,_⟩:=I.list ha;obtain⟨its2,r2,p2,_⟩:=I.list hb;have l1:=r1.length;have l2:=r2.length;by_cases e:xs.length=ys.length
  ·refine SeqAt.RcNeAt.lists p1.isList p2.isList (by rw[J_,J_];lia) hu (item its its2 r1 r2) X.prog X.w X.xe _ ⟨.bl _,H,I,rfl,q _ ?_⟩
   rw[J_,<- l1,<- e,M7,Mh,Bool.true_and]
   try rfl
  ·refine SeqAt.RcNeAt.lists_lengths p1.isList p2.isList (by rw[J_,J_,bne_iff_ne];lia) hu X.prog X.w X.xe _ ⟨.bl true,H,I,rfl,?_⟩
   exact q false (by rw[Lp.mpr e,OK])
 ·obtain⟨its,r1,p1,_⟩:=I.tuple ha;obtain⟨its2,r2,p2,_⟩:=I.tuple hb;have l1:=r1.length;have l2:=r2.length;refine SeqAt.RcNeAt.tuples p1 p2 hu (item its its2 r1 r2) X.prog X.w X.xe _ ⟨.bl _,H,I,rfl,q _ ?_⟩;rw[J_,J_,<- l1,<- l2,Bool.and_comm]
  try rfl
noncomputable def Gn(K:Pm):R2:=fun x y H Q=>Js x y H Q\/An K true x y H Q
theorem fh(K:Pm)(hK:X.K=K)(hu:X.A.units<cLine):cK X (compareOp .NotEq) (Gn K):=by subst hK;exact Gu.or (CH hu)
noncomputable def EL:T->T->Mu->(R->Mu->Prop)->Prop:=fun t u μ Q=>match t,u with
 |.int i,.int j=>Q (.tr (.bl (!decide (i=j)))) μ
 |.str i,.str j=>Q (.tr (.bl (!decide (i=j)))) μ
 |.bl i,.bl j=>Q (.tr (.bl (!decide (i=j)))) μ
 |.lst xs,.lst ys=>xs.all aR=true/\ys.all aR=true/\Q (.tr (.bl (!kG xs ys))) μ
 |.tup xs,.tup ys=>xs.all aR=true/\ys.all aR=true/\Q (.tr (.bl (!kG xs ys))) μ
 |_,_=>False
theorem fm:ib K (Gn K) (ou EL):=f9 fun F ad B σ H μ Q Qt x y t u hK l v1 v2 q k=>by
 subst hK;unfold EL at q
 split at q
 ·cases v1;cases v2
  refine .inl ⟨rfl,?_⟩;rw[dV (f:=V.int) (fun a b h=>by injection h)]
  exact k _ H _ (Vr.flat l (.bl _)) Fr.refl q
 ·cases v1;cases v2
  refine .inl ⟨rfl,?_⟩;rw[dV (f:=V.str) (fun a b h=>by injection h)]
  exact k _ H _ (Vr.flat l (.bl _)) Fr.refl q
 ·cases v1;cases v2
  refine .inl ⟨rfl,?_⟩;rw[dV (f:=V.bl) (fun a b h=>by injection h)]
  exact k _ H _ (Vr.flat l (.bl _)) Fr.refl q
 ·cases v1 with
  |lst ha ra=>cases v2 with
   |lst hb rb=>exact .inr ⟨_,_,_,_,rfl,rfl,.inl ⟨cx.of ha,cx.of hb⟩,cp ra q.1,cp rb q.2.1,fun c hc=>by
     rw[<- mq ra rb q.1 q.2.1] at hc;subst hc;exact k _ H _ (Vr.flat l (.bl _)) Fr.refl q.2.2⟩
 ·cases v1 with
  |tup ha ra=>cases v2 with
   |tup hb rb=>exact .inr ⟨_,_,_,_,rfl,rfl,.inr ⟨cc.of ha,cc.of hb⟩,cp ra q.1,cp rb q.2.1,fun c hc=>by
     rw[<- mq ra rb q.1 q.2.1] at hc;subst hc;exact k _ H _ (Vr.flat l (.bl _)) Fr.refl q.2.2⟩
 ·exact q.elim
theorem dR:fillsNumberSlot (.type "tuple") "mul"=pure false:=
 PySem.fillsNumberSlot_seq (id:="tuple.__mul__") (r:=some (.builtin "tuple.__rmul__")) PySem.F.slot_tuple_mul.lookup (by decide +kernel) PySem.F.slot_tuple_rmul.lookup (by decide +kernel)
theorem gx:seqRepeat? (.type "tuple")=pure (some (.builtin "tuple.__mul__")):=by
 unfold seqRepeat?;rw[PySem.seqSlot_of (T:="tuple") (name:="__mul__") (id:="tuple.__mul__") PySem.F.slot_tuple_mul.lookup (by decide +kernel),PySem.seqSlot_of (T:="tuple") (name:="__rmul__") (id:="tuple.__rmul__") PySem.F.slot_tuple_rmul.lookup (by decide +kernel)];rfl
theorem jX(a:Int)(t:Tok)(l:Addr)(ob:Obj)(items:Array Value)(n:Nat)(hc:ob.cls=.type "tuple")(hd:ob.data=.seq items n):
  Meets (Builtin.«int.__rmul__» ⟨[.int a t,.ref l],[]⟩) (fun _ R s=>s.heap.get? l=some ob/\R (.ok (.ret Value.notImplemented)) s):=
 .of_wp fun prog w A R s h=>by
  obtain⟨hp,g,d,tk,os⟩:=s;obtain⟨hl,h⟩:=h;obtain⟨c,dd,da,sl⟩:=ob;simp only at hc hd;subst hc hd
  wp_walk
  exact⟨_,rfl,h⟩
theorem zm(l:Addr)(items:Array Value)(ob:Obj)(n:Nat)(k:Int)(t:Tok)(hc:ob.cls=.type "tuple")(hd:ob.data=.seq items n)(hne:items.isEmpty=false)(h1:1<k)(h2:k<=1000)(hsz:items.size<=1000):
  Meets (Builtin.«tuple.__mul__» ⟨[.ref l,.int k t],[]⟩) (fun _ R s=>s.heap.get? l=some ob/\R (.ok (.ret (.ref s.heap.objs.size))) {s with heap:=s.heap.push {cls:=.type "tuple",data:=.seq ((List.replicate k.toNat items).foldl (·++·) #[])}}):=
 .of_wp fun prog w A R s h=>by
  obtain⟨hp,g,d,tk,os⟩:=s;obtain⟨hl,h⟩:=h;obtain⟨c,dd,da,sl⟩:=ob;simp only at hc hd;subst hc hd;have e1:(decide (k < -(2^63)) || decide (k >= 2^63))=false:=by rw[Kv (by lia),Kv (by lia)];rfl
  have e2:(items.isEmpty || k == 1)=false:=by rw[hne,Lp.mpr (by lia)];rfl
  have e3:(decide (k<=0) || items.isEmpty)=false:=by rw[hne,Kv (by lia)];rfl
  wp_walk using ML hl;rw[JZ (by rw[e1];exact Ka)]
  have ht:IsTup (Shared.heap ⟨hp,g,d,tk,os⟩) l items:=⟨_,hl,rfl,n,rfl⟩;show wpAny _ _ (Builtin.Tuple.tupleItemsOf (.ref l) >>= _) _ _ _;refine JU (tupleItemsOf_ ht ?_);rw[JZ (by rw[e2];exact Ka)]
  show wpAny _ _ (if (decide (k<=0) || items.isEmpty)=true then _ else _) _ _ _
  rw[JZ (by rw[e3];exact Ka)]
  have hm:(items.size:Int)*k<=1000*1000:=Int.mul_le_mul (by lia) h2 (by lia) (by lia)
  show wpAny _ _ (if (items.size:Int)*k >(2^63-1) / 8 then _ else _) _ _ _
  rw[JZ (by lia)]
  show wpAny _ _ (if Builtin.Tuple.tupleTooMany ((items.size:Int)*k)=true then _ else _) _ _ _
  have e4:Builtin.Tuple.tupleTooMany ((items.size:Int)*k)=false:=Kv (by
   have:((sizeLine:Nat):Int) >= 1000000:=by decide
   lia)
  rw[JZ (by rw[e4];exact Ka)]
  have hl2:((List.replicate k.toNat items).foldl (·++·) #[]).size<=sizeLine:=by
   have fs:∀(m:Nat) (acc:Array Value),((List.replicate m items).foldl (·++·) acc).size=acc.size+m*items.size:=fun m=>by
    induction m with
    |zero=>intro acc;simp
    |succ m ih=>intro acc;rw[KG,List.foldl_cons,ih,NQ,MK];lia
   rw[fs];have h3:k.toNat*items.size<=1000*1000:=Nat.mul_le_mul (by lia) hsz
   have h4:(1000000:Nat)<=sizeLine:=by decide
   simp;lia
  exact JU (m:=Builtin.Tuple.tupleExact _) (Ll (Kb ⟨_,rfl,h⟩) hl2)
theorem tU(its:List Value):∀(m:Nat) (acc:List Value),(List.replicate m its.toArray).foldl (·++·) acc.toArray=(acc++(List.replicate m its).flatten).toArray:=fun m acc=>foldl_rep its m acc
noncomputable def Bs(K:Pm):R2:=fun x y H Q=>∃ a k xs,x=.ref a/\y=.int k/\cc K H a xs/\xs≠[]/\xs.length<=1000/\1<k/\k<=1000/\∀ p,H p=none->Q (.ref p) (upd H p (.tup (List.replicate k.toNat xs).flatten))
theorem Ae:cK X (binaryOp .Mult) (Bs X.K):=by
 intro pins s σ H x y v u Q I rx ry h;obtain⟨a,k,xs,rfl,rfl,hx,hne,hsz,h1,h2,q⟩:=h;cases rx;obtain⟨t,rfl⟩:=ry;obtain⟨its,r,p,hz⟩:=I.tuple hx;obtain⟨ob,ho,hc,n,hd⟩:=id p;have hlen:=r.length;have hemp:its.toArray.isEmpty=false:=by
  cases its with
  |nil=>cases r;exact absurd rfl hne
  |cons a b=>rfl
 refine LZ (T:="tuple") (U:="int") (by decide) ⟨_,ho,hc⟩ (fun s'=>Mx s' k t) dR PySem.F.fills_int_mul PySem.F.slot_int_rmul gx PySem.F.slot_int_index.lookup
  (L3 PySem.F.slot_int_rmul (Mx s k t) PySem.F.entry_int_rmul (PySem.F.args_int_rmul_2 _ _) (jX k t a ob its.toArray n hc hd)
   ⟨ho,rfl,⟨_,ho,hc⟩,L3 PySem.F.slot_tuple_mul ⟨_,ho,hc⟩ PySem.F.entry_tuple_mul (PySem.F.args_tuple_mul_2 _ _) (zm a its.toArray ob n k t hc hd hemp h1 h2 (by rw[J_];lia)) ⟨ho,?_⟩⟩)
 have e0:=tU its k.toNat [];rw[L9] at e0;have e0':(List.replicate k.toNat its.toArray).foldl (·++·) #[]=(List.replicate k.toNat its).flatten.toArray:=e0;rw[e0'];refine⟨.ref s.heap.objs.size,_,I.laid (t':=s.toks) (o:=.tup (List.replicate k.toNat xs).flatten) (fun b ob q=>JW _ q) (Kc _) ?_,rfl,q _ (I.aO.fresh (Kc _))⟩;refine⟨?_,_,r.rep k.toNat,dz.new _ _⟩;rw[len_rep];have h3:k.toNat*xs.length<=1000*1000:=Nat.mul_le_mul (by lia) hsz
 exact Kq h3 (by decide)
noncomputable def wJ(K:Pm):R2:=fun x y H Q=>Ci x y H Q\/Bs K x y H Q
theorem dB(K:Pm)(hK:X.K=K):cK X (binaryOp .Mult) (wJ K):=by subst hK;exact zS.or Ae
noncomputable def jB:U2:=fun r1 r2 μ Q=>match cont μ r1,cont μ r2 with
 |some (.int i),some (.int j)=>nX i j/\Q (.tr (.int (i*j))) μ
 |some (.lst xs),some (.int k)=>-(2^63)<=k/\k<2^63/\xs.length*k.toNat<=sizeLine/\Q (.fr (.lst (List.replicate k.toNat xs).flatten)) μ
 |some (.tup xs),some (.int k)=>(xs≠[]/\xs.length<=1000/\1<k/\k<=1000)/\Q (.tr (.tup (List.replicate k.toNat xs).flatten)) μ
 |_,_=>False
theorem cJ:ib K (wJ K) jB:=by
 intro F ad B σ H μ Q Qt x y r1 r2 hK l h1 h2 q k;unfold jB at q
 split at q
 ·rename_i i j e1 e2;exact .inl (vc F ad B σ H μ Q Qt x y r1 r2 hK l h1 h2 (by unfold rf;rw[e1,e2];exact q) k)
 ·rename_i xs j e1 e2;exact .inl (vc F ad B σ H μ Q Qt x y r1 r2 hK l h1 h2 (by unfold rf;rw[e1,e2];exact q) k)
 ·rename_i xs j e1 e2;have a:=h1.vw l e1;have b:=h2.vw l e2;subst hK;cases b
  cases a with
  |tup ha ra =>
   refine .inr ⟨_,_,_,rfl,rfl,cc.of ha,?_,by rw[ra.length];exact q.1.2.1,q.1.2.2.1,q.1.2.2.2,fun p hp=>k _ _ _ μ (Vr.t8 l (ra.rep _) hp) (Fr.same (bL.new hp)) (Kp.refl μ) q.2⟩
   rintro rfl;cases ra;exact q.1.1 rfl
 ·exact q.elim
end Y
namespace A
theorem DT(i j:Int)(μ:Mu)(Q:R->Mu->Prop):Y.jB (.tr (.int i)) (.tr (.int j)) μ Q=(nX i j/\Q (.tr (.int (i*j))) μ):=rfl
theorem De(xs:List T)(k:Int)(μ:Mu)(Q:R->Mu->Prop):Y.jB (.tr (.lst xs)) (.tr (.int k)) μ Q=(-(2^63)<=k/\k<2^63/\xs.length*k.toNat<=sizeLine/\Q (.fr (.lst (List.replicate k.toNat xs).flatten)) μ):=rfl
theorem EU(i j:Int)(μ:Mu)(Q:R->Mu->Prop):Y.EL (.int i) (.int j) μ Q=Q (.tr (.bl (!decide (i=j)))) μ:=rfl
theorem HI(xs ys:List T)(μ:Mu)(Q:R->Mu->Prop):Y.EL (.lst xs) (.lst ys) μ Q=(xs.all aR=true/\ys.all aR=true/\Q (.tr (.bl (!Y.kG xs ys))) μ):=rfl
theorem Ia(xs ys:List T)(μ:Mu)(Q:R->Mu->Prop):Y.EL (.tup xs) (.tup ys) μ Q=(xs.all aR=true/\ys.all aR=true/\Q (.tr (.bl (!Y.kG xs ys))) μ):=rfl
end A
open PySem PySem.Spec PyProof PyProof.Rows
namespace Y
theorem e_:∀{us:List Value} {ns:List Int},IntsAre us ns->Vals (ns.map V.int) us
 |_,_,.nil=>.nil
 |_,_,.cons n t h=>.cons ⟨t,rfl⟩ (e_ h)
theorem ju:∀{us:List Value} {ns:List Int},IntsAre us ns->us.length=ns.length
 |_,_,.nil=>rfl
 |_,_,.cons n t h=>by simp[ju h]
section
variable {prog:Program} {w:World} {A:Around} {E:Value->Shared->Prop} {s:Shared}
theorem oY{vs:List Value}{Q:List Value->Shared->Prop}(hl:IsTup s.heap l vs.toArray)(hsz:vs.length<=sizeLine)
  (h:Q vs {s with heap:=(s.heap.push (seqObj "list" #[] 0)).update s.heap.objs.size (Obj.mapSeq (·++vs.toArray))}):wpAny (model prog w) A (collect (.ref l)) Q E s:=by
 obtain⟨o,ho,hc,n,hd⟩:=id hl;unfold collect;refine JU (wpAny_runValue (Np entry_proto_collect' ?_));show wpAny _ _ (do again (.builtin "list.__iadd__" ⟨[<- newList [],.ref l],[]⟩)) _ _ s
 refine JU (MC (Kb ⟨Code.quiet_builtin _ (by decide +kernel),Np entry_list_iadd' ?_⟩))
 show wpAny _ _ (Builtin.List.listExtendWith (.ref s.heap.objs.size) (.ref l) (.ref s.heap.objs.size)) _ _ {s with heap:=s.heap.push (seqObj "list" #[] 0)}
 unfold Builtin.List.listExtendWith;have ho':(s.heap.push (seqObj "list" #[] 0)).get? l=some o:=JW _ ho;refine JU (Pb (T:="tuple") ⟨o,ho',hc⟩ ?_);have ht:(Value.type "tuple" == Value.type "tuple")=true:=by rfl
 rw[Ke (by rw[ht];simp)]
 refine JU (Nq ho' hd ?_);refine JU (Nq (xs:=#[]) (n:=0) (Km _ rfl) rfl ?_);rw[JZ (by simp)]
 refine JU (M_ (xs:=#[]) (n:=0) (Km _ rfl) rfl ?_ (KN _) (by show (#[]++vs.toArray).size<=sizeLine+1;simp only[NQ,J_,K8];lia))
 refine Kb ?_;show wpAny (model prog w) A (load s.heap.objs.size >>= _) Q E {s with heap:=(s.heap.push (seqObj "list" #[] 0)).update s.heap.objs.size (Obj.mapSeq (·++vs.toArray))}
 refine JU (wpAny_load (MG (Km _ rfl) _) ?_);show wpAny _ _ (pure ((#[]:Array Value)++vs.toArray).toList) Q E _;rw[show ((#[]:Array Value)++vs.toArray).toList=vs by simp]
 exact Kb h
theorem pZ{vs:List Value}(hl:IsTup s.heap l vs.toArray)(hI:IntsAre vs ns)(h64:vs.length<64)
  (h:∀(out:Array Value) (ns':List Int),IntsAre out.toList ns'->ns'.Perm ns->ns'.Pairwise (·<=·)->Q (.ref (s.heap.objs.size+1)) {s with heap:=sortedAll s.heap vs out}) :
  wpAny (model prog w) A (call (.builtin "sorted") [.ref l]) Q E s:=by
 have hz:vs.length<=sizeLine:=Kq (LM h64) (by decide)
 refine NV kind_sorted plain_sorted entry_sorted (args_sorted1 _) ?_;unfold Builtin.«sorted»;refine JU (m:=checkCount "sorted" 1 1 _) (Kb ?_);refine JU (oY hl hz ?_);refine JU (MC ?_ hz);have hs:((s.heap.push (seqObj "list" #[] 0)).update s.heap.objs.size (Obj.mapSeq (·++vs.toArray))).objs.size=s.heap.objs.size+1:=by rw[Og,size_push']
 have ho:(((s.heap.push (seqObj "list" #[] 0)).update s.heap.objs.size (Obj.mapSeq (·++vs.toArray))).push (seqObj "list" vs.toArray 0)).get? (s.heap.objs.size+1)=some (seqObj "list" vs.toArray 0):=by
  rw[<- hs];exact Km _ rfl
 show wpAny _ _ _ _ _ {s with heap:=((s.heap.push (seqObj "list" #[] 0)).update s.heap.objs.size (Obj.mapSeq (·++vs.toArray))).push (seqObj "list" vs.toArray 0)}
 rw[hs];refine JU (KP (Lh slot_list_sort ⟨_,ho,rfl⟩ entry_list_sort (list_sort_tree ho hI h64 fun out ns' a1 a2 a3=>⟨_,rfl,?_⟩) (args_list_sort _)));exact Kb ⟨_,rfl,h out ns' a1 a2 a3⟩
end
noncomputable def Bl(K:Pm):List V->Hp->VK->Prop:=fun xs H Q=>∃ p ns,xs=[.ref p]/\cc K H p (ns.map V.int)/\ns.length<64/\∀ ns':List Int,ns'.Perm ns->ns'.Pairwise (·<=·)->∀ l,H l=none->Q (.ref l) (upd H l (.lst (ns'.map V.int)))
theorem tX(K:Pm)(hK:X.K=K):bf X (.builtin "sorted") (Bl K):=by
 subst hK;intro pins s σ H xs us Q I r h;obtain⟨p,ns,rfl,hq,h64,q⟩:=h;obtain⟨u,rfl,ru⟩:=vals1 r;cases ru;obtain⟨its,rv,pl,hz⟩:=I.tuple hq;have hi:=intsAre_of rv;refine pZ pl hi (by rw[ju hi];exact h64) fun out ns' a1 a2 a3=>?_
 obtain⟨e,he⟩:=sortedAll_at s.heap its out;refine⟨.ref (s.heap.objs.size+1),_,I.laid (t':=s.toks) (fun b ob q=>sortedAll_old q) (Mc _) (show bt X.prog X.w _ _ _ (.lst (ns'.map V.int)) from⟨?_,out.toList,e,e_ a1,by simpa using he⟩),rfl,q ns' a2 a3 _ (I.aO.fresh (Mc _))⟩
 rw[JY,a2.length_eq];exact Kq (LM h64) (by decide)
theorem dI:∀ ns:List Int,ay K H B (ns.map V.int) (ns.map T.int)
 |[]=>.nil
 |n::ns=>.cons (.int _) (dI ns)
theorem eK:∀{ns:List Int} {vs:List V},ay K H B vs (ns.map T.int)->vs=ns.map V.int
 |[],_,.nil=>rfl
 |n::ns,_,.cons h r=>by cases h;rw[eK r];rfl
noncomputable def GC(i j:Int):Prop:=0<j/\j<4611686018427387904
theorem fS:cK X (binaryOp .FloorDiv) (rI GC fun i j=>.int (i / j)):=GR fun i j _ _ _ _ _ hc q=>by
 have h1:(0:Int)<j:=hc.1;have h2:j<4611686018427387904:=hc.2;exact floordiv_int (by lia) (by rw[Int.fdiv_eq_ediv_of_nonneg i (by lia)];exact q) (.inl (PyProof.noPylong_of_log2 (Pg ((OC (k:=62) (by lia)).mpr (by lia)) (by decide))))
theorem kP:∀ ns:List Str,ay K H B (ns.map V.str) (ns.map T.str)
 |[]=>.nil
 |n::ns=>.cons (.str _) (kP ns)
theorem fZ:∀{ns:List Str} {vs:List V},ay K H B vs (ns.map T.str)->vs=ns.map V.str
 |[],_,.nil=>rfl
 |n::ns,_,.cons h r=>by cases h;rw[fZ r];rfl
abbrev By:=Str->List R->Mu->(R->Mu->Prop)->Prop
noncomputable def G_(um:By)(uo:UE)(us:UA):UE:=fun μ Q=>uo μ fun ro μ1=>match ro with
 |.tr (.str z)=>us μ1 fun rs μ2=>um z rs μ2 Q
 |_=>False
noncomputable def Fv(K:Pm)(r:V->List V->Hp->VK->Prop)(um:By):Prop:=∀(F:Fx) (ad:Nat->Addr) (B:aX) (σ:St) (H:Hp) (μ:Mu) (Q:VK) (Qt:R->Mu->Prop) (z:Str) (xs:List V) (rs:List R),F.K=K->Rl F ad B σ H μ->Paired (Hv F ad B H μ) xs rs->um z rs μ Qt ->
 (∀ v H' r μ',Vr F ad B σ H' μ' v r->Fr B H (Bv B v r) H'->Kp μ μ'->Qt r μ'->Q v H')->r (.str z) xs H Q
theorem sm{o:Expr}{uo:UE}{pos:Pos}(K:Pm)(hK:X.K=K){id:String}{r:V->List V->Hp->VK->Prop}{um:By}(slot:Slot "str" name id)(hty:typeOf (.builtin id)=pure (.type "method_descriptor"))(hm:rJ X id r)(hr:Fv X.K r um)(ho:YE X o uo)(ha:YA X (e::es) us)
  (hbase:autoParam (attributeBase o name X.env (eval o X.env)=eval o X.env) ℜ0) (hline:autoParam ((apos.endLine == pos.line)=true) ℜ0) (h:autoParam ((e::es).all cS=true) ℜ0) (hl:autoParam ((e::es).length<30) ℜ1):YE X (.Call (.Attribute o name apos) (e::es) [] pos) (G_ um uo us):=by
 obtain⟨t,q,rr⟩:=ho;obtain⟨t',q',r'⟩:=ha;refine⟨_,Z.bm K hK PySem.F.plainAttrs_str slot hty hm q q' hbase hline h hl,fun F ad B σ H μ Q Qt hF l q k=>rr F ad B σ H μ _ _ hF l q fun v H1 r1 μ1 v1 f1 k1 q1=>?_⟩
 split at q1
 ·rename_i z;obtain⟨l1,rp⟩:=v1;cases rp;refine⟨rfl,?_⟩;refine r' F ad B σ H1 μ1 _ _ hF l1 q1 fun xs H2 rs μ2 l2 ps f2 k2 q2=>?_;exact hr F ad B σ H2 μ2 _ _ z xs rs hF l2 ps q2 fun v H3 r3 μ3 v3 f3 k3 q3=>k v H3 r3 μ3 v3 ((f1.d.trans f2).trans f3) ((k1.trans k2).trans k3) q3
 ·exact q1.elim
theorem xr(l:List Nat):∀(n a:Nat),((List.range n).map (fun k=>a+k)).filterMap (l[·]?)=(l.drop a).take n
 |0,_=>by simp
 |n+1,a=>by
  rw[Mz,Kt,List.filterMap_append,xr l n a,M5,L4]
  cases h:l[a+n]?<;>simp[h]
theorem pj(lo hi:Option Int)(n:Nat):Builtin.Str.strSliceIndices lo hi 1 n=(List.range (HT.bG n n hi-HT.bG n 0 lo)).map (fun k=>HT.bG n 0 lo+k):=by
 have ea:∀(v:Int),max 0 (min (if v<0 then v+(n:Int) else v) (n:Int))=(((if v<0 then (v+(n:Int)).toNat else min v.toNat n):Nat):Int):=by
  intro v;split<;>lia
 have e:Builtin.Str.strSliceIndices lo hi 1 n=sliceRange (HT.bG n 0 lo) (HT.bG n n hi) 1:=by
  cases lo with
  |none=>cases hi with
   |none=>rfl
   |some j=>show sliceRange 0 (max 0 (min (if j<0 then j+(n:Int) else j) (n:Int))) 1=_;rw[ea];rfl
  |some i=>cases hi with
   |none=>show sliceRange (max 0 (min (if i<0 then i+(n:Int) else i) (n:Int))) n 1=_;rw[ea];rfl
   |some j=>show sliceRange (max 0 (min (if i<0 then i+(n:Int) else i) (n:Int))) (max 0 (min (if j<0 then j+(n:Int) else j) (n:Int))) 1=_;rw[ea,ea];rfl
 rw[e];generalize HT.bG n 0 lo=a;generalize HT.bG n n hi=b;unfold sliceRange;simp only[show ((1:Int) > 0)=True from by simp,LS,Int.one_mul]
 have c:(if (a:Int)<(b:Int) then ((b:Int)-a+1-1) / 1 else 0).toNat=b-a:=by split<;>lia
 rw[c];refine Mo fun k _=>?_;lia
theorem pM(z:Str)(lo hi:Option Int):Txt.slice z lo hi=⟨((z.cps.toList.drop (HT.bG z.cps.toList.length 0 lo)).take (HT.bG z.cps.toList.length z.cps.toList.length hi-HT.bG z.cps.toList.length 0 lo)).toArray⟩:=by
 have hl:z.cps.toList.length=z.length:=KC;rw[hl];have hp:(Builtin.Str.strSliceIndices lo hi 1 z.length).filterMap (z.cps[·]?)=(z.cps.toList.drop (HT.bG z.length 0 lo)).take (HT.bG z.length z.length hi-HT.bG z.length 0 lo):=by
  rw[pj];have:=xr z.cps.toList (HT.bG z.length z.length hi-HT.bG z.length 0 lo) (HT.bG z.length 0 lo)
  simpa using this
 unfold Txt.slice;split
 ·rename_i h;rw[pj] at h;simp at h;have h2:=HT.qO z.length z.length (Kc _) hi;have h3:=HT.qO z.length 0 (KN _) lo;have a0:HT.bG z.length 0 lo=0:=by lia
  have b0:HT.bG z.length z.length hi=z.length:=by lia
  rw[a0,b0,MO,Oh,<- hl,Oi]
 ·rw[hp]
noncomputable def eS(z:Str)(lo hi:Option Int):Str:=⟨(cg z.cps.toList lo hi).toArray⟩
theorem tD(z:Str)(lo hi:Option Int):Txt.slice z lo hi=eS z lo hi:=pM z lo hi
noncomputable def G3:V->Option Int->Option Int->Hp->VK->Prop:=fun x lo hi H Q=>∃ z,x=.str z/\z.length<=sizeLine/\Q (.str (eS z lo hi)) H
theorem DP:u_ X G3:=by
 intro pins s σ H x v vl vu lo hi sl Q I rx hs pl pu h;obtain⟨z,rfl,hz,q⟩:=h;rw[<- tD] at q;obtain⟨t,rfl⟩:=rx;refine⟨"str",_,PySem.F.slot_str_getitem.lookup,typeIs_str _ _ _,?_⟩
 cases pl<;>cases pu
 ·exact Mw (l:=none) (u:=none) (st:=none) hs rfl (Nr ⟨Kq (Txt.slice_le z _ _) hz,fun t' k=>⟨.str _,H,I.tok _,⟨_,rfl⟩,q⟩⟩)
 ·exact Mw (l:=none) (u:=some (_,_)) (st:=none) hs rfl (Nr ⟨Kq (Txt.slice_le z _ _) hz,fun t' k=>⟨.str _,H,I.tok _,⟨_,rfl⟩,q⟩⟩)
 ·exact Mw (l:=some (_,_)) (u:=none) (st:=none) hs rfl (Nr ⟨Kq (Txt.slice_le z _ _) hz,fun t' k=>⟨.str _,H,I.tok _,⟨_,rfl⟩,q⟩⟩)
 ·exact Mw (l:=some (_,_)) (u:=some (_,_)) (st:=none) hs rfl (Nr ⟨Kq (Txt.slice_le z _ _) hz,fun t' k=>⟨.str _,H,I.tok _,⟨_,rfl⟩,q⟩⟩)
noncomputable def IH(K:Pm):V->Option Int->Option Int->Hp->VK->Prop:=fun x lo hi H Q=>Gx K x lo hi H Q\/G3 x lo hi H Q
theorem HX(K:Pm)(hK:X.K=K):u_ X (IH K):=(Ik K hK).or DP
noncomputable def Dt(a:Option T)(lo hi:Option Int):Option (Prop×R):=match a with
 |some (.lst xs)=>some (True,.fr (.lst (cg xs lo hi)))
 |some (.ee xs)=>some (True,.fr (.lst (cg xs lo hi)))
 |some (.tup xs)=>some (True,.tr (.tup (cg xs lo hi)))
 |some (.str z)=>some (z.length<=sizeLine,.tr (.str (eS z lo hi)))
 |_=>none
noncomputable def Cz(ue:UE)(ul uh:UO):UE:=fun μ Q=>ue μ fun r μ1=>ul μ1 fun lo μ2=>uh μ2 fun hi μ3=>n4 (Dt (cont μ3 r.d) lo hi) fun r=>Q r μ3
theorem Cm{p2 pos:Pos}{ul uh:UO}(K:Pm)(hK:X.K=K)(he:YE X e ue)(hl:YO X lo ul)(hu:YO X hi uh):YE X (.Subscript e (.Slice lo hi none p2) pos) (Cz ue ul uh):=by
 obtain⟨t,q,r⟩:=he;obtain⟨tl,ql,rl⟩:=hl;obtain⟨th,qh,rh⟩:=hu;refine⟨_,Z.slice (HX K hK) q ql qh,fun F ad B σ H μ Q Qt hF l q k=>r F ad B σ H μ _ _ hF l q fun v H1 r1 μ1 v1 f1 k1 q1=>rl F ad B σ H1 μ1 _ _ hF v1.rl q1 fun i H2 μ2 l2 f2 k2 q2=>rh F ad B σ H2 μ2 _ _ hF l2 q2 fun j H3 μ3 l3 f3 k3 q3=>?_⟩;have hF':F.K=K:=hF.trans hK;clear hF;subst hF';have hv:=v1.hv.fr (f2.trans f3) (k2.trans k3);have ff:=(f1.d.trans f2).trans f3;have kk:=(k1.trans k2).trans k3;generalize eo:cont μ3 r1.d=o at q3;unfold Dt n4 at q3
 cases o with
 |none=>exact q3.elim
 |some o=>cases o with
  |lst xs =>
   have w:=hv.vw l3 eo
   cases w with
   |lst ha ra=>exact .inl (.inl ⟨_,_,rfl,cx.of ha,fun p hp=>k _ _ _ μ3 (Vr.ip l3 (ay.cut ra i j) hp) (ff.trans (Fr.more hp)) kk q3.2⟩)
  |ee xs =>
   have w:=hv.vw l3 eo
   cases w with
   |ee ha ra=>exact .inl (.inl ⟨_,_,rfl,ha,fun p hp=>k _ _ _ μ3 (Vr.ip l3 (ay.cut ra i j) hp) (ff.trans (Fr.more hp)) kk q3.2⟩)
  |tup xs =>
   have w:=Hv.vZ l3 hv eo;have w':=w
   cases w with
   |tup na ha ra =>
    by_cases z:HT.bG xs.length 0 i=0/\HT.bG xs.length xs.length j=xs.length
    ·have e0:cg xs i j=xs:=by unfold cg;rw[z.1,z.2,Oh,MO,Oi]
     have q4:=q3.2;rw[e0] at q4;exact .inl (.inr (.inr ⟨_,_,rfl,cc.of ha,by rw[ra.length];exact z.1,by rw[ra.length];exact z.2,k _ H3 _ μ3 (Vr.flat l3 w') ff kk q4⟩))
    ·exact .inl (.inr (.inl ⟨_,_,rfl,cc.of ha,by rw[ra.length];exact z,fun p hp=>k _ _ _ μ3 (Vr.t8 l3 (ay.cut ra i j) hp) (ff.trans (Fr.same (bL.new hp))) kk q3.2⟩))
  |str z =>
   have w:=hv.vw l3 eo;cases w;exact .inr ⟨z,rfl,q3.1,k _ H3 _ μ3 (Vr.flat l3 (.str _)) ff kk q3.2⟩
  |aC=>exact q3.elim
  |bl b=>exact q3.elim
  |int n=>exact q3.elim
  |eJ a b=>exact q3.elim
  |n5 a b=>exact q3.elim
  |exc a b=>exact q3.elim
  |dZ xs=>exact q3.elim
noncomputable def kc:UM:=fun j rs μ Q=>match rs with
 |[.tr (.int i)]=>(match (μ[j]?).bind Sl.box with
  |some (.lst ts)=>-(2^63)<=i/\i<2^63/\∃ k t,seqIndex? i ts.length=some k/\ts[k]?=some t/\Q (.tr t) (dH μ j (.lst (ts.eraseIdx k)))
  |_=>False)
 |_=>False
theorem vg:RM K vV kc:=by
 intro F ad B σ H μ Q Qt j s c xs rs hF l e b ps q k;unfold kc at q
 split at q
 ·rename_i i
  cases ps with
  |cons h ps =>
   cases ps;rw[e] at q
   cases b8 h
   have q':(match s.box with|some (.lst ts)=>-(2^63)<=i/\i<2^63/\∃ k t,seqIndex? i ts.length=some k/\ts[k]?=some t/\Qt (.tr t) (dH μ j (.lst (ts.eraseIdx k)))|_=>False):=q
   rw[b] at q';rcases ((l.slot j s e).boxed b).2.2.1.is with ⟨ts,vs,rfl,hl,rv⟩|⟨_,_,_,rfl,_⟩
   case inr=>exact q'.elim
   simp only at q';obtain⟨h1,h2,n,t,hk,ht,q2⟩:=q';obtain⟨y,hy,ry⟩:=rv.get ht;have fs:Fr B H B (upd H (ad j) (.lst (vs.eraseIdx n))):=Fr.set ((l.slot j s e).boxed b).2.1;refine⟨_,_,i,n,y,rfl,rfl,hl,h1,h2,by rw[rv.length];exact hk,hy,?_⟩
   have l3:=l.put e b (rv.erase n);unfold dH at q2;rw[e] at q2;exact k _ _ (.tr t) _ (Vr.flat l3 (ry.fr fs)) fs (Kp.set e b (Sl.jg b)) q2
 ·exact q.elim
noncomputable def oD:By:=fun z rs μ Q=>match rs with
 |[r]=>(match cont μ r with
  |some (.lst xs)=>∃ ys:List Str,xs=ys.map T.str/\(ys.map (·.length)).sum+ys.length*z.length<=16777216/\Q (.tr (.str (Str.join z ys))) μ
  |_=>False)
 |_=>False
theorem oF(K:Pm)(hK:X.K=K):rJ X "str.join" (rJoin K):=by subst hK;exact zD
theorem rd:Fv K (rJoin K) oD:=by
 intro F ad B σ H μ Q Qt z xs rs hF l ps q k;subst hF;unfold oD at q
 split at q
 ·rename_i r
  cases ps with
  |cons h ps =>
   cases ps
   split at q
   ·rename_i ts e;obtain⟨ys,rfl,hz,q⟩:=q;have w:=h.vw l e
    cases w with
    |lst ha ra=>exact⟨z,_,ys,rfl,rfl,by rw[<- fZ ra];exact cx.of ha,hz,k _ H _ μ (Vr.flat l (.str _)) Fr.refl (Kp.refl μ) q⟩
   ·exact q.elim
 ·exact q.elim
noncomputable def Hk(i:Nat):UG:=fun r μ Q=>match r with
 |.tr t=>uZ μ i/\Q (μ.set i (.tr t))
 |.fr t=>uZ μ i/\Q (μ.set i (.tr t))
 |.br _=>False
theorem og:RG K (d5 i) (Hk i):=fun F ad B σ H μ v r B0 H0 Q Qt hK h f q k=>by
 cases r with
 |tr t=>exact k ad B _ H _ (h.1.C4 (lV q.1) h.2) f q.2
 |br i=>exact q.elim
 |fr c =>
  refine k ad B _ H _ (h.rl.C4 (lV q.1) h.hv) (f.trans (Fr.less fun b z=>?_)) q.2;obtain⟨_,a,rfl,_⟩:=h;exact Or.inr z
section
variable {X:Cx} {e elt tg iter:Expr} {ifs:List Expr} {ue:UE} {ut:UT} {ui:UI} {pos pos' p2:Pos} {x:Str} {osc scope:Scope} {ON own N:List Str}
theorem FO(hN:X.N.Nodup)(hi:X.N[i]?=some x)(hx:Loc X.env.scope x)(he:YE X e ue)(hs:autoParam (Z.Er e=true) ℜ0)(hf:autoParam (X.fn x=true\/X.env.scope.names.lookup x=some .local) ℜ2):
  YS X (.Assign [.Name x pos'] e pos) (jC ue (Hk i)):=by
 obtain⟨t,q,r⟩:=he;exact⟨_,Z.set hN hi hx q hs hf,kh r og⟩
theorem qj(hN:X.N.Nodup)(hj:X.N[j]?=some x)(hx:Loc X.env.scope x)(S:cm osc ON scope own N)(hosc:X.env.scope=osc)(hON:X.N=ON)(hc:X.calm=true)(ho:own.length=1)(hi:YI X tg iter ui)
  (hg:∀ C s H fp,QG (aJ X scope N C s H fp) tg (d5 0)) (ht:∀ C s H fp,Bh (aJ X scope N C s H fp) ifs ut) (he:∀ C s H fp,YE (aJ X scope N C s H fp) elt ue)
  (hsw:autoParam (swapsWith (.ListComp elt [⟨tg,iter,ifs,0⟩] scope p2) (some (.Name x pos')) pos.line X.env=pure true) ℜ0)
  (hf:autoParam (X.fn x=true\/X.env.scope.names.lookup x=some .local) ℜ2) (hs:autoParam (∀ x,foldedSetIterable iter X.env x=pure x) ℜ3) :
  YS X (.Assign [.Name x pos'] (.ListComp elt [⟨tg,iter,ifs,0⟩] scope p2) pos) (jC (iL vm F_ ui ut ue) (Hk j)):=by
 obtain⟨t,q,r⟩:=hi;have h:=Z.setC (tc:=s_ X.K ut) (te:=uW X.K ue) hN hj hx S hosc hON hc q hg (fun C s H fp=>(ht C s H fp).AA) (fun C s H fp=>(he C s H fp).AA) hsw hf hs;rw[ho] at h;exact⟨_,h,kh (jf ni r r9 rX) og⟩
end
end Y
namespace A
theorem G_(um:Y.By)(uo:UE)(us:UA)(μ:Mu)(Q:R->Mu->Prop):Y.G_ um uo us μ Q=uo μ fun ro μ1=>match ro with|.tr (.str z)=>us μ1 fun rs μ2=>um z rs μ2 Q|_=>False:=rfl
theorem oD(z:Str)(r:R)(μ:Mu)(Q:R->Mu->Prop):Y.oD z [r] μ Q=(match cont μ r with
  |some (.lst xs)=>∃ ys:List Str,xs=ys.map T.str/\(ys.map (·.length)).sum+ys.length*z.length<=16777216/\Q (.tr (.str (Str.join z ys))) μ
  |_=>False):=rfl
theorem kc(j:Nat)(i:Int)(μ:Mu)(Q:R->Mu->Prop):Y.kc j [.tr (.int i)] μ Q=(match (μ[j]?).bind Sl.box with
  |some (.lst ts)=>-(2^63)<=i/\i<2^63/\∃ k t,seqIndex? i ts.length=some k/\ts[k]?=some t/\Q (.tr t) (dH μ j (.lst (ts.eraseIdx k)))
  |_=>False):=rfl
theorem Jd(i:Nat)(t:T)(μ:Mu)(Q:Mu->Prop):Y.Hk i (.fr t) μ Q=(Y.uZ μ i/\Q (μ.set i (.tr t))):=rfl
end A
namespace Y
theorem xI(l:Addr)(items:Array Value)(ob:Obj)(n:Nat)(k:Int)(t:Tok)(hc:ob.cls=.type "tuple")(hd:ob.data=.seq items n)(h1:k=1):
  Meets (Builtin.«tuple.__mul__» ⟨[.ref l,.int k t],[]⟩) (fun _ R s=>s.heap.get? l=some ob/\R (.ok (.ret (.ref l))) s):=
 .of_wp fun prog w A R s h=>by
  obtain⟨hp,g,d,tk,os⟩:=s;obtain⟨hl,h⟩:=h;obtain⟨c,dd,da,sl⟩:=ob;simp only at hc hd;subst hc hd;have e1:(decide (k < -(2^63)) || decide (k >= 2^63))=false:=by rw[Kv (by lia),Kv (by lia)];rfl
  have e2:(items.isEmpty || k == 1)=true:=by rw[OV.mpr h1,Bool.or_true]
  wp_walk using ML hl;exact⟨_,rfl,h⟩
theorem y8(l:Addr)(items:Array Value)(ob:Obj)(n:Nat)(k:Int)(t:Tok)(hc:ob.cls=.type "tuple")(hd:ob.data=.seq items n)(hne:items.isEmpty=false)(h1:k<=0)(h2:-(2^63)<=k):
  Meets (Builtin.«tuple.__mul__» ⟨[.ref l,.int k t],[]⟩) (fun _ R s=>s.heap.get? l=some ob/\R (.ok (.ret (.ref s.heap.objs.size))) {s with heap:=s.heap.push {cls:=.type "tuple",data:=.seq #[]}}):=
 .of_wp fun prog w A R s h=>by
  obtain⟨hp,g,d,tk,os⟩:=s;obtain⟨hl,h⟩:=h;obtain⟨c,dd,da,sl⟩:=ob;simp only at hc hd;subst hc hd;have e1:(decide (k < -(2^63)) || decide (k >= 2^63))=false:=by rw[Kv (by lia),Kv (by lia)];rfl
  have e2:(items.isEmpty || k == 1)=false:=by rw[hne,Lp.mpr (by lia)];rfl
  have e3:(decide (k<=0) || items.isEmpty)=true:=by rw[KY h1];rfl
  wp_walk using ML hl;rw[JZ (by rw[e1];exact Ka)]
  have ht:IsTup (Shared.heap ⟨hp,g,d,tk,os⟩) l items:=⟨_,hl,rfl,n,rfl⟩;show wpAny _ _ (Builtin.Tuple.tupleItemsOf (.ref l) >>= _) _ _ _;refine JU (tupleItemsOf_ ht ?_);rw[JZ (by rw[e2];exact Ka)]
  show wpAny _ _ (if (decide (k<=0) || items.isEmpty)=true then _ else _) _ _ _
  rw[Ke e3];exact JU (m:=Builtin.Tuple.tupleExact _) (Ll (Kb ⟨_,rfl,h⟩) (show (#[]:Array Value).size<=sizeLine by decide))
noncomputable def AZ(K:Pm):R2:=fun x y H Q=>∃ a k xs,x=.ref a/\y=.int k/\cc K H a xs/\xs≠[]/\k<=1/\-(2^63)<=k/\(k=1->Q (.ref a) H)/\(k<=0->∀ p,H p=none->Q (.ref p) (upd H p (.tup [])))
theorem zF:cK X (binaryOp .Mult) (AZ X.K):=by
 intro pins s σ H x y v u Q I rx ry h;obtain⟨a,k,xs,rfl,rfl,hx,hne,h1,h2,q1,q0⟩:=h;cases rx;obtain⟨t,rfl⟩:=ry;obtain⟨its,r,p,hz⟩:=I.tuple hx;obtain⟨ob,ho,hc,n,hd⟩:=id p;have hlen:=r.length;have hemp:its.toArray.isEmpty=false:=by
  cases its with
  |nil=>cases r;exact absurd rfl hne
  |cons a b=>rfl
 by_cases c:k=1
 ·exact LZ (T:="tuple") (U:="int") (by decide) ⟨_,ho,hc⟩ (fun s'=>Mx s' k t) dR PySem.F.fills_int_mul PySem.F.slot_int_rmul gx PySem.F.slot_int_index.lookup
   (L3 PySem.F.slot_int_rmul (Mx s k t) PySem.F.entry_int_rmul (PySem.F.args_int_rmul_2 _ _) (jX k t a ob its.toArray n hc hd)
    ⟨ho,rfl,⟨_,ho,hc⟩,L3 PySem.F.slot_tuple_mul ⟨_,ho,hc⟩ PySem.F.entry_tuple_mul (PySem.F.args_tuple_mul_2 _ _) (xI a its.toArray ob n k t hc hd c) ⟨ho,⟨.ref a,H,I,rfl,q1 c⟩⟩⟩)
 ·refine LZ (T:="tuple") (U:="int") (by decide) ⟨_,ho,hc⟩ (fun s'=>Mx s' k t) dR PySem.F.fills_int_mul PySem.F.slot_int_rmul gx PySem.F.slot_int_index.lookup
   (L3 PySem.F.slot_int_rmul (Mx s k t) PySem.F.entry_int_rmul (PySem.F.args_int_rmul_2 _ _) (jX k t a ob its.toArray n hc hd)
    ⟨ho,rfl,⟨_,ho,hc⟩,L3 PySem.F.slot_tuple_mul ⟨_,ho,hc⟩ PySem.F.entry_tuple_mul (PySem.F.args_tuple_mul_2 _ _) (y8 a its.toArray ob n k t hc hd hemp (by lia) h2) ⟨ho,?_⟩⟩)
  refine⟨.ref s.heap.objs.size,_,I.laid (t':=s.toks) (o:=.tup []) (fun b ob q=>JW _ q) (Kc _) ?_,rfl,q0 (by lia) _ (I.aO.fresh (Kc _))⟩
  exact⟨KN _,[],.nil,dz.new _ _⟩
noncomputable def BC(K:Pm):R2:=fun x y H Q=>wJ K x y H Q\/AZ K x y H Q
theorem mK(K:Pm)(hK:X.K=K):cK X (binaryOp .Mult) (BC K):=by subst hK;exact (dB X.K rfl).or zF
noncomputable def xo:U2:=fun r1 r2 μ Q=>match cont μ r1,cont μ r2 with
 |some (.int i),some (.int j)=>nX i j/\Q (.tr (.int (i*j))) μ
 |some (.lst xs),some (.int k)=>-(2^63)<=k/\k<2^63/\xs.length*k.toNat<=sizeLine/\Q (.fr (.lst (List.replicate k.toNat xs).flatten)) μ
 |some (.tup xs),some (.int k)=>(xs≠[]/\xs.length<=1000/\-(2^63)<=k/\k<=1000)/\Q (.tr (.tup (List.replicate k.toNat xs).flatten)) μ
 |_,_=>False
theorem m5:ib K (BC K) xo:=by
 intro F ad B σ H μ Q Qt x y r1 r2 hK l h1 h2 q k;unfold xo at q
 split at q
 ·rename_i i j e1 e2;exact .inl (cJ F ad B σ H μ Q Qt x y r1 r2 hK l h1 h2 (by unfold jB;rw[e1,e2];exact q) k)
 ·rename_i xs j e1 e2;exact .inl (cJ F ad B σ H μ Q Qt x y r1 r2 hK l h1 h2 (by unfold jB;rw[e1,e2];exact q) k)
 ·rename_i xs j e1 e2;by_cases c:1<j
  ·exact .inl (cJ F ad B σ H μ Q Qt x y r1 r2 hK l h1 h2 (by unfold jB;rw[e1,e2];exact⟨⟨q.1.1,q.1.2.1,c,q.1.2.2.2⟩,q.2⟩) k)
  ·have a:=Hv.vZ l h1 e1;have b:=h2.vw l e2;subst hK;cases b;have a':=a
   cases a with
   |tup na ha ra =>
    refine .inr ⟨_,_,_,rfl,rfl,cc.of ha,?_,by lia,q.1.2.2.1,fun e=>?_,fun e p hp=>?_⟩
    ·rintro rfl;cases ra;exact q.1.1 rfl
    ·subst e;have q2:=q.2;rw[show (1:Int).toNat=1 from rfl] at q2;simp only[List.replicate,Lk,Oj,Kw] at q2;exact k _ H _ μ (Vr.flat l a') Fr.refl (Kp.refl μ) q2
    ·have q2:=q.2;rw[show j.toNat=0 by lia] at q2
     exact k _ _ _ μ (Vr.t8 l .nil hp) (Fr.same (bL.new hp)) (Kp.refl μ) q2
 ·exact q.elim
end Y
namespace A
theorem BV(xs:List T)(k:Int)(μ:Mu)(Q:R->Mu->Prop):Y.xo (.tr (.tup xs)) (.tr (.int k)) μ Q=((xs≠[]/\xs.length<=1000/\-(2^63)<=k/\k<=1000)/\Q (.tr (.tup (List.replicate k.toNat xs).flatten)) μ):=rfl
end A
noncomputable def Fl(h:Heap)(e:Addr)(cls:Value)(d:Option Addr):Option Addr->Prop
 |none=>∃ oe vs,h.get? e=some oe/\oe.cls=cls/\oe.dict=d/\oe.data=.fields vs/\vs[1]?=some Value.none
 |some T=>∃ oe vs oT ts,h.get? e=some oe/\oe.cls=cls/\oe.dict=d/\oe.data=.fields vs/\vs[1]?=some (.ref T)/\T≠e/\h.get? T=some oT/\oT.data=.fields ts/\ts[3]?=some Value.none
theorem Fl.is{e:Addr}{d:Option Addr}(f:Fl h e cls d To):kF e cls d h:=by
 cases To with
 |none=>obtain⟨oe,vs,h1,h2,h3,h4,_⟩:=f;exact⟨oe,vs,h1,h2,h3,h4⟩
 |some T=>obtain⟨oe,vs,_,_,h1,h2,h3,h4,_⟩:=f;exact⟨oe,vs,h1,h2,h3,h4⟩
theorem kF.ok{e:Addr}{d:Option Addr}(x:kF e cls d h):bt P w H h e (.ext (kF e cls d)):=
 ⟨x,let ⟨o,_,h1,_⟩:=x;⟨o,h1⟩,fun h1 h2 ⟨o,vs,a,b,c,d⟩ k=>⟨o,vs,k o a,b,c,d⟩⟩
theorem kF.one{e:Addr}{cls':Value}{d d':Option Addr}(x:kF e cls d h)(y:kF e cls' d' h):cls=cls'/\d=d':=by
 obtain⟨o,_,h1,h2,h3,_⟩:=x;obtain⟨o',_,g1,g2,g3,_⟩:=y;rw[h1] at g1;cases g1;exact⟨h2.symm.trans g2,h3.symm.trans g3⟩
structure Mv (h h':Heap) (e:Addr) (To:Option Addr) (fs:List Addr) (T':Addr):Prop where
 keep:∀ b o,b≠e->(∀ T,To=some T->b≠T)->b∉fs->h.get? b=some o->h'.get? b=some o
 slot:∀ b o,b∈fs->h.get? b=some o->∃ sl,h'.get? b=some {o with slots:=sl}
 new:(h.get? T'=none\/To=some T')/\T'∉fs
section
variable {h:Heap} {e:Addr} {cls:Value} {d:Option Addr} {base:Heap} {l:List Env}
theorem Fl.B5{T:Addr}(f:Fl h e cls d (some T))(hl:h.FunFrames base l):T∉iX l:=fun m=>by
 obtain⟨_,o,ho,hd⟩:=hl.mem m;obtain⟨_,_,oT,ts,_,_,_,_,_,_,hT,hdT,_⟩:=f;rw[hT] at ho;cases ho;exact hd ts hdT
theorem wH{o:Obj}{vs:Array Value}(q:o.data=.fields vs)(g:Array Value->Array Value):o.mapFields g={o with data:=.fields (g vs)}:=by
 obtain⟨c,dd,dt,sl⟩:=o;cases q;rfl
end
section
variable {M:Model} {A:Around} {E:Value->Shared->Prop} {s:Shared} {env:Env} {outer:List Env} {L e:Addr} {cls:Value} {d:Option Addr} {base:Heap}
theorem lU{o:Obj}{vs:Array Value}{x:Value}{Q:Unit->Shared->Prop}(ho:s.heap.get? a=some o)(hd:o.data=.fields vs)(hi:i<vs.size)
  (hq:∀ h':Heap,(∀ b,b≠a->h'.get? b=s.heap.get? b)->h'.get? a=some {o with data:=.fields (vs.setIfInBounds i x)}->Q () {s with heap:=h'}):wpAny M A (setField (.ref a) i x) Q E s:=by
 have hm:=wH hd (·.setIfInBounds i x);refine MN ho hd hi (hq _ (fun b n=>M1 _ _ (Ne.symm n)) ?_);have:=M6 (Obj.mapFields (·.setIfInBounds i x)) ho (Nf (My hd _));rw[hm] at this;exact this
theorem lM{T:Addr}{fl:Value}{oe oT:Obj}{vs ts:Array Value}{Q:Unit->Shared->Prop}(he:s.heap.get? e=some oe)(hd:oe.data=.fields vs)(h1:vs[1]?=some (.ref T))(hne:T≠e)(hT:s.heap.get? T=some oT)(hdT:oT.data=.fields ts)(h3:ts[3]?=some fl)
  (hq:∀ h':Heap,(∀ b,b≠T->h'.get? b=s.heap.get? b)->h'.get? T=some {oT with data:=.fields (ts.setIfInBounds 3 .none)}->Q () {s with heap:=h'}):wpAny M A (setFlight (.ref e) none) Q E s:=by
 unfold setFlight;refine JU (Li he hd h1 ?_);rw[Ke (by simp)]
 exact lU hT hdT (KJ.mp h3).1 hq
theorem sg{oe:Obj}{vs:Array Value}{head:Value}{hn:Bool}{Q:Unit->Shared->Prop}(hfr:A.frames=some (env::outer))(hf:env.frame=some L)(hl:s.heap.FunFrames base (env::outer))(he:s.heap.get? e=some oe)(hd:oe.data=.fields vs)(hsz:1<vs.size)
  (hq:∀(h':Heap) (T':Addr) (oT:Obj) (ts:Array Value),(∀ b o,b≠e->b∉iX (env::outer)->s.heap.get? b=some o->h'.get? b=some o)->(∀ b o,b∈iX (env::outer)->s.heap.get? b=some o->∃ sl,h'.get? b=some {o with slots:=sl}) ->
   s.heap.get? T'=none->h'.get? e=some {oe with data:=.fields (vs.setIfInBounds 1 (.ref T'))}->h'.get? T'=some oT->oT.data=.fields ts->ts[3]?=some (rawInt L)->T'≠e->T'∉iX (env::outer)->Q () {s with heap:=h'}) :
  wpAny M A (frameOf env >>= fun a=>entryPlaceOf L hn >>= fun pl=>EntryCells.newEntry head a .none (rawInt L) .none pl >>= fun b=>setField (.ref e) 1 b) Q E s:=by
 have nfe:e∉iX (env::outer):=fun m=>by
  obtain⟨_,o,ho,hnf⟩:=hl.mem m;rw[he] at ho;cases ho;exact hnf vs hd
 refine JU (wpAny_frameOf_fun hfr hl hf fun h1 hs=>?_);obtain⟨hs1,hs2,hs3⟩:=hs;refine JU (wpAny_entryPlaceOf fun pl hpl=>?_);unfold EntryCells.newEntry newFields;refine JU (Ll ?_ (hpl.sizeOk5 _ _ _ _ _));have e1:h1.get? e=some oe:=(hs2 e nfe).trans he;have hsize:∀ b o,h1.get? b=some o->b≠h1.objs.size:=fun b o q=>K1 (Kn q);refine lU (JW _ e1) hd hsz fun h2 k1 k2=>?_;have nfT:h1.objs.size∉iX (env::outer):=fun m=>by
  obtain⟨_,o,ho,_⟩:=hl.mem m;obtain⟨sl,q⟩:=hs3 _ o ho;exact hsize _ _ q rfl
 refine hq h2 h1.objs.size _ _ (fun b o n1 n2 q=>?_) (fun b o m q=>?_) ?_ k2 ((k1 _ (Ne.symm (hsize _ _ e1))).trans (Km h1 rfl)) rfl ?_ (Ne.symm (hsize _ _ e1)) nfT
 ·rw[k1 b n1];exact JW _ ((hs2 b n2).trans q)
 ·obtain⟨sl,q1⟩:=hs3 b o q;exact⟨sl,(k1 b fun z=>nfe (by rw[<- z];exact m)).trans (JW _ q1)⟩
 ·cases q:s.heap.get? h1.objs.size with
  |none=>rfl
  |some o =>
   obtain⟨sl,q1⟩:=hs3 _ o q;exact absurd rfl (hsize _ _ q1)
 ·rcases hpl with rfl|⟨_,_,_,_,_,_,_,rfl⟩<;>simp
theorem wg{Q:Unit->Shared->Prop}(hfr:A.frames=some (env::outer))(hf:env.frame=some L)(hl:s.heap.FunFrames base (env::outer))(f:Fl s.heap e cls d To)
  (hq:∀ h' T',Mv s.heap h' e To (iX (env::outer)) T'->Fl h' e cls d (some T')->Q () {s with heap:=h'}):wpAny M A (noteFrame (.ref e) env) (fun _ s2=>wpAny M A (setFlight (.ref e) none) Q E s2) E s:=by
 unfold noteFrame;simp only[hf]
 cases To with
 |none =>
  obtain⟨oe,vs,g1,g2,g3,g4,g5⟩:=id f;have hsz:=(KJ.mp g5).1;refine JU (Li g1 g4 g5 ?_);rw[JZ (by decide)]
  refine sg hfr hf hl g1 g4 hsz fun h1 T' oT ts k1 k2 k3 k4 k5 k6 k7 k8 k9=>?_;refine lM (s:={s with heap:=h1}) k4 rfl (by simp[hsz]) k8 k5 k6 k7 fun h2 j1 j2=>?_
  have nT:∀ b o,s.heap.get? b=some o->b≠T':=fun b o q z=>by rw[z,k3] at q;cases q
  refine hq h2 T' ⟨fun b o n1 _ n3 q=>?_,fun b o m q=>?_,.inl k3,k9⟩ ⟨_,_,_,_,(j1 e (Ne.symm k8)).trans k4,g2,g3,rfl,by simp[hsz],k8,j2,rfl,?_⟩
  ·exact (j1 b (nT b o q)).trans (k1 b o n1 n3 q)
  ·obtain⟨sl,q1⟩:=k2 b o m q;exact⟨sl,(j1 b (nT b o q)).trans q1⟩
  ·have:=(KJ.mp k7).1;simp[this]
 |some T =>
  obtain⟨oe,vs,oT,ts,g1,g2,g3,g4,g5,g6,g7,g8,g9⟩:=id f;have hsz:=(KJ.mp g5).1;have nfT:=f.B5 hl;refine JU (Li g1 g4 g5 ?_);rw[Ke (by simp)]
  refine JU (Li g7 g8 g9 ?_);rw[JZ (by simp[rawInt])]
  refine JU (lU g7 g8 (KJ.mp g9).1 fun h0 i1 i2=>?_);have hl0:h0.FunFrames base (env::outer):=hl.of_keeps fun b o q hn=>⟨o,(i1 b fun z=>by rw[z,g7] at q;cases q;exact hn ts g8).trans q,rfl⟩
  refine sg (s:={s with heap:=h0}) hfr hf hl0 ((i1 e (Ne.symm g6)).trans g1) g4 hsz fun h1 T' oT' ts' k1 k2 k3 k4 k5 k6 k7 k8 k9=>?_
  refine lM (s:={s with heap:=h1}) k4 rfl (by simp[hsz]) k8 k5 k6 k7 fun h2 j1 j2=>?_
  have nTT:T'≠T:=fun z=>by
   have k3':h0.get? T'=none:=k3;rw[z,i2] at k3';cases k3'
  have nT:∀ b o,s.heap.get? b=some o->b≠T':=fun b o q z=>by
   have k3':h0.get? T'=none:=k3;rw[<- z] at k3';by_cases z2:b=T
   ·exact nTT (z.symm.trans z2)
   ·rw[i1 b z2,q] at k3';cases k3'
  refine hq h2 T' ⟨fun b o n1 n2 n3 q=>?_,fun b o m q=>?_,.inl ?_,k9⟩ ⟨_,_,_,_,(j1 e (Ne.symm k8)).trans k4,g2,g3,rfl,by simp[hsz],k8,j2,rfl,?_⟩
  ·exact (j1 b (nT b o q)).trans (k1 b o n1 n3 ((i1 b (n2 T rfl)).trans q))
  ·have nbT:b≠T:=fun z=>nfT (by rw[<- z];exact m)
   obtain⟨sl,q1⟩:=k2 b o m ((i1 b nbT).trans q);exact⟨sl,(j1 b (nT b o q)).trans q1⟩
  ·exact (i1 T' nTT).symm.trans k3
  ·have:=(KJ.mp k7).1;simp[this]
theorem tM{Q:Unit->Shared->Prop}(hfr:A.frames=some (env::outer))(hf:env.frame=some L)(hl:s.heap.FunFrames base (env::outer))(f:Fl s.heap e cls d To)
  (hq:∀ h' T',Mv s.heap h' e To (iX (env::outer)) T'->Fl h' e cls d (some T')->Q () {s with heap:=h'}):wpAny M A (leaving env (.ref e)) Q E s:=by
 unfold leaving;exact JU (wg hfr hf hl f hq)
end
theorem fV.vn(x:fV P w H h)(k:∀ b u,h.get? b=some u->h'.get? b=some u)(hn:H a=none)(new:bt P w (upd H a o) h' a o):fV P w (upd H a o) h':=fun b u e=>by
 by_cases z:b=a
 ·subst z;rw[az] at e;cases e;exact new
 ·rw[aj z] at e;exact (x b u e).jN (fun c v _ q=>k c v q) (fun c q=>by rw[aj (aB q hn)];exact q) (fun c xs q=>by rw[aj (aB q hn)];exact q) fun c _ _ q=>by rw[aj (aB q hn)];exact q
theorem Un.vn{fs ex:List Addr}(k:∀ b u,h.get? b=some u->h'.get? b=some u)(h0:h.get? a=none)(hn:H a=none):Un fs ex H (upd H a o) h h' where
 keep:=fun b u q _ _ _=>k b u q
 slot:=fun b u q _ _ _=>⟨u.slots,k b u q⟩
 free:=fun b u q n _=>by rw[aj (fun z=>by rw[z,h0] at q;cases q)];exact n
 there:=fun b u q _=>⟨u,k b u q⟩
 kr:=fun b xs q=>by rw[aj (aB q hn)];exact q
 jn:=fun b u xs q=>by rw[aj (aB q hn)];exact q
 iQ:=fun b ps q=>⟨#[],by rw[aj (aB q hn),q];simp⟩
theorem fV.none_of(x:fV P w H h)(e:h.get? a=none):H a=none:=by
 cases q:H a with
 |none=>rfl
 |some u =>
  have:=x a u q;obtain⟨o,ho⟩:∃ o,h.get? a=some o:=by
   clear q
   induction u with
   |lst xs=>obtain⟨_,_,_,_,z⟩:=this;exact⟨_,z⟩
   |tup xs=>obtain⟨_,_,_,o,z,_⟩:=this;exact⟨_,z⟩
   |dK kvs=>obtain⟨_,_,_,_,o,_,_,z,_⟩:=this;exact⟨_,z⟩
   |dT kvs=>obtain⟨_,_,_,_,o,_,_,z,_⟩:=this;exact⟨_,z⟩
   |set S n=>obtain⟨o,_,_,_,z,_⟩:=this;exact⟨_,z⟩
   |ins C dx fs=>obtain⟨_,_,_,z,_⟩:=this;exact⟨_,z⟩
   |own x=>exact this
   |xd fs=>obtain⟨_,⟨o,_,_,z,_⟩,_⟩:=this;exact⟨_,z⟩
   |met f x=>exact⟨_,this⟩
   |eJ lo hi=>obtain⟨_,_,_,z⟩:=this;exact⟨_,z⟩
   |ia o u ih=>exact⟨_,this.1⟩
   |va ps=>obtain⟨_,z,_⟩:=this;exact⟨_,z⟩
   |ext φ=>exact this.2.1
  rw[e] at ho;cases ho
theorem fV.moved{e T':Addr}{d:Option Addr}{fs:List Addr}(x:fV P w H h)(mv:Mv h h' e To fs T')(f':kF e cls d h')(he:H e=some (.ext (kF e cls d)))(hT:∀ T,To=some T->H T=none)(hf:∀ b∈fs,H b=none):fV P w H h':=fun b u q=>by
 by_cases z:b=e
 ·subst z;rw[he] at q;cases q;exact f'.ok
 ·refine (x b u q).jN (fun c v hc r=>?_) (fun _ q=>q) (fun _ _ q=>q) fun _ _ _ q=>q;have tr:∃ o,H c=some o:=by
   rcases hc with rfl|hc
   ·exact⟨u,q⟩
   ·exact⟨_,hc⟩
  obtain⟨o,tr⟩:=tr;refine mv.keep c v (fun z2=>?_) (fun T hT' z2=>?_) (fun m=>?_) r
  ·rcases hc with rfl|hc
   ·exact z z2
   ·rw[z2,he] at hc;cases hc
  ·rw[z2,hT T hT'] at tr;cases tr
  ·rw[hf c m] at tr;cases tr
section
variable {X:Cx} {pins:List (Addr×Obj)} {σ:St} {H H':Hp} {s:Shared} {h':Heap}
theorem Inv.EK{ch:List Addr}(I:Inv X pins σ H s)
  (hch:∀ b∈ch,X.s₀.heap.get? b=none/\b≠X.env.locals/\(∀ x c,X.env.cells.lookup x=some c->c≠b)/\∀ p∈X.pn++pins,p.1≠b)
  (keep:∀ b o,b≠X.env.locals->b∉X.fs->b∉ch->s.heap.get? b=some o->H b=none->h'.get? b=some o)
  (slot:∀ b o,b≠X.env.locals->b∈X.fs->b∉ch->s.heap.get? b=some o->H b=none->∃ sl,h'.get? b=some {o with slots:=sl})
  (there:∀ b o,b∉ch->s.heap.get? b=some o->∃ o',h'.get? b=some o')
  (ns:∀ m,s.heap.Ns X.env.locals m->h'.Ns X.env.locals m) (aO:fV X.prog X.w H h') :
  Inv X pins σ H {s with heap:=h'}:=by
 have neL:∀ b o,X.s₀.heap.get? b=some o->b≠X.env.locals:=fun b o e=>K1 (Kz (Kn e) I.ok.above);have neC:∀ b o,X.s₀.heap.get? b=some o->b∉ch:=fun b o e hb=>by rw[(hch b hb).1] at e;cases e
 have cellK:∀ x c,X.env.cells.lookup x=some c->∀ v,s.heap.IsCell c v->h'.IsCell c v:=fun x c e v ⟨o,ho,hd⟩=>by
  have nch:c∉ch:=fun z=>(hch c z).2.2.1 x c e rfl;by_cases hc:c∈X.fs
  ·obtain⟨sl,q⟩:=slot c o (I.Am x c e) hc nch ho (I.dY x c e);exact⟨_,q,hd⟩
  ·exact⟨o,keep c o (I.Am x c e) hc nch ho (I.dY x c e),hd⟩
 refine⟨I.ok,I.os,I.bare,⟨fun b o e n hb hx=>?_,fun b o e n hb hx=>?_,I.base.free,fun b o e hx=>?_,I.base.kr,I.base.jn,I.base.iQ⟩,?_,fun x c e=>?_,I.free,I.dY,fun p hp=>?_,aO,I.len⟩
 ·exact keep b o (neL b o e) hb (neC b o e) (I.base.keep b o e n hb hx) (I.base.free b o e n hx)
 ·obtain⟨sl,e1⟩:=I.base.slot b o e n hb hx;obtain⟨sl',e2⟩:=slot b _ (neL b o e) hb (neC b o e) e1 (I.base.free b o e n hx);exact⟨sl',e2⟩
 ·obtain⟨o',e1⟩:=I.base.there b o e hx;exact there b o' (neC b o e) e1
 ·obtain⟨m,hn,hl⟩:=I.loc;refine⟨m,ns m hn,fun i x v e1 e2 e3=>?_⟩;obtain⟨u,r,l⟩:=hl i x v e1 e2 e3;refine⟨u,r,?_⟩;rcases l with l|⟨k,c,e,z⟩
  ·exact .inl l
  ·exact .inr ⟨k,c,e,cellK x c e _ z⟩
 ·obtain⟨v,z⟩:=I.cell x c e;exact⟨v,cellK x c e v z⟩
 ·obtain⟨e,n,ne,nf,d⟩:=I.pin p hp;have nch:p.1∉ch:=fun z=>(hch p.1 z).2.2.2 p hp rfl;exact⟨keep p.1 p.2 ne nf nch e n,n,ne,nf,d⟩
structure Nw (X:Cx) (pins:List (Addr×Obj)) (H:Hp) (e:Addr) (cls:Value) (d To:Option Addr):Prop where
 tr:H e=some (.ext (kF e cls d))
 e0:X.s₀.heap.get? e=none
 d0:∀ a,d=some a->X.s₀.heap.get? a=none
 t0:∀ T,To=some T->H T=none/\X.s₀.heap.get? T=none/\∀ p∈X.pn++pins,p.1≠T
theorem Inv.moved{e T':Addr}{d:Option Addr}(I:Inv X pins σ H s)(hex:X.ex=[])(f:Fl s.heap e cls d To)(nw:Nw X pins H e cls d To)(mv:Mv s.heap h' e To (iX X.stack) T')(f':Fl h' e cls d (some T')):
  Inv X pins σ H {s with heap:=h'}/\Nw X pins H e cls d (some T'):=by
 have hfr:=I.jd;have teT:∀ T o,To=some T->s.heap.get? T=some o->T∉iX X.stack:=fun T o hT _=>by subst hT;exact f.B5 I.stack
 have hne:∀ b o,s.heap.get? b=some o->H b=none->b≠e:=fun b o _ n z=>by rw[z,nw.tr] at n;cases n
 refine⟨I.EK (ch:=To.toList) (fun b hb=>?_) (fun b o hL hb hc q n=>?_) (fun b o _ hb hc q n=>?_) (fun b o hc q=>?_) (fun m hm=>?_) (I.aO.moved mv f'.is nw.tr (fun T hT=>(nw.t0 T hT).1) hfr),nw.tr,nw.e0,nw.d0,fun T hT=>?_⟩
 ·cases To with
  |none=>cases hb
  |some T =>
   have:b=T:=by simpa using hb
   subst this;obtain⟨h1,h2,h3⟩:=nw.t0 b rfl;obtain⟨_,_,oT,ts,_,_,_,_,_,_,hT,hdT,_⟩:=f;refine⟨h2,fun z=>?_,fun x c hc z=>?_,h3⟩
   ·obtain⟨m,⟨o,es,ep,ho,hd,_⟩,_⟩:=I.loc;rw[<- z,hT] at ho;cases ho;rw[hdT] at hd;cases hd
   ·obtain⟨v,o,ho,hd⟩:=I.cell x c hc;rw[z,hT] at ho;cases ho;rw[hdT] at hd;cases hd
 ·refine mv.keep b o (hne b o q n) (fun T hT z=>hc (by rw[hT,z];simp)) (fun m=>?_) q
  exact (Ki.mp (I.jL b m)).elim hL hb
 ·by_cases m:b∈iX X.stack
  ·exact mv.slot b o m q
  ·exact⟨o.slots,mv.keep b o (hne b o q n) (fun T hT z=>hc (by rw[hT,z];simp)) m q⟩
 ·by_cases z:b=e
  ·obtain⟨o',_,q',_⟩:=f'.is;exact⟨o',by rw[z];exact q'⟩
  ·by_cases m:b∈iX X.stack
   ·obtain⟨sl,q2⟩:=mv.slot b o m q;exact⟨_,q2⟩
   ·exact⟨o,mv.keep b o z (fun T hT z=>hc (by rw[hT,z];simp)) m q⟩
 ·obtain⟨o,es,ep,ho,r⟩:=hm;have n:=I.free;by_cases mm:X.env.locals∈iX X.stack
  ·obtain⟨sl,q2⟩:=mv.slot _ o mm ho;exact⟨_,es,ep,q2,r⟩
  ·refine⟨o,es,ep,mv.keep _ o (hne _ o ho n) (fun T hT z=>?_) mm ho,r⟩;subst hT;obtain⟨_,_,oT,ts,_,_,_,_,_,_,hT,hdT,_⟩:=f;rw[z,hT] at ho;cases ho;obtain⟨hd,_⟩:=r;rw[hdT] at hd;cases hd
 ·cases hT;rcases mv.new.1 with q|q
  ·refine⟨I.aO.none_of q,?_,fun p hp z=>?_⟩
   ·cases q2:X.s₀.heap.get? T' with
    |none=>rfl
    |some o =>
     obtain⟨o',q3⟩:=I.base.there T' o q2 (by rw[hex];simp)
     rw[q] at q3;cases q3
   ·rw[<- z,(I.pin p hp).1] at q;cases q
  ·exact nw.t0 T' q
noncomputable def uk(X:Cx)(cls:Value)(d:Option Addr)(e:Addr)(σ:St)(H:Hp):Prop:=∀(pins:List (Addr×Obj)) (s:Shared) (To:Option Addr),Inv X pins σ H s->Fl s.heap e cls d To->Nw X pins H e cls d To->X.xe (.ref e) s
noncomputable def uN(P:Program)(w:World):kL:=fun outer H s E x s'=>∃(e T:Addr) (cls:Value) (d:Option Addr) (H':Hp),x=.ref e/\s'.os=s.os/\AllBare s'.gens/\Un (iX outer) [] H H' s.heap s'.heap/\fV P w H' s'.heap/\Fl s'.heap e cls d (some T)/\s.heap.get? e=none/\(∀ a,d=some a->s.heap.get? a=none)/\s.heap.get? T=none/\H' e=some (.ext (kF e cls d))/\H' T=none/\E cls (some e) H'
end
theorem vh{base:Heap}{cd:Value}{outer:List Env}{s0:Shared}{H0:Hp}{E:XK}{d:Option Addr}{e:Addr}(hE:E cls (some e) H):
  uk (gK (uN P w) P w K mg base N qual scope f cd A outer s0 H0 E) cls d e σ H:=by
 intro pins s To I fl nw;refine tM (base:=base) I.ok.frames rfl I.stack fl fun h' T' mv f'=>?_;obtain⟨I2,nw2⟩:=I.moved rfl fl nw mv f';exact⟨e,T',cls,d,H,rfl,I.os,I.bare,I2.base,I2.aO,f',nw.e0,nw.d0,(nw2.t0 T' rfl).2.1,nw.tr,(nw2.t0 T' rfl).1,hE⟩
section
variable {X:Cx}
noncomputable def Fs(X:Cx)(σ:St)(H:Hp):XK:=fun cls de H'=>∃(e:Addr) (d:Option Addr),de=some e/\H' e=some (.ext (kF e cls d))/\(H e=none->(∀ a,d=some a->H a=none)->uk X cls d e σ H')
noncomputable def BQ(X:Cx)(sp:Sp)(t:TA):TE:=fun σ H Q=>t σ H fun vs H1=>sp vs H1 Q (Fs X σ H1)
theorem D6{ps:List Str}{p pos:Pos}{t:TA}(F:ae X.prog X.w X.K X.mg X.base (uN X.prog X.w) k x ps sp)(hr:b7 k X.A)(hg:Gl X x)(hex:X.ex=[])(ha:PA X (e::es) t)(h1:autoParam (cS e=true) ℜ0)(h2:autoParam (es.all cS=true) ℜ0)(hdb:autoParam ((x ==("__debug__":Str))=false) ℜ1):
  PE X (.Call (.Name x p) (e::es) [] pos) (BQ X sp t):=by
 intro pins s σ H Q I h;obtain⟨f,fd,hm,hk,hb,G⟩:=F.ex;refine LN (h7 I hg hm ?_ hdb);refine PySem.W.callWith_K (h₀:=X.base) I.ok.mod.A6 hk (bS (ha pos pins s σ H _ I h) fun us s1 ⟨vs,H1,I1,r,q⟩=>⟨I1.h8,?_⟩) (dq h1) (plain_any h2);have hl:us.length=ps.length:=by rw[<- r.length];exact G.len _ _ _ _ q
 have hb2:=hb s1 us I1.h8 (by rw[Kw];exact hl)
 rw[Kw] at hb2;refine wpAny_call (Ob (G.run X.A X.stack s1 H1 ⟨us,[]⟩ us vs Q (Fs X σ H1) hr I1.FL hb2 r q) fun r s' hq=>?_)
 cases r with
 |error e =>
  obtain⟨ea,T,cls,d,H',rfl,ho,hbare,un,aO,fl,n1,n3,n2,tr,nT,ea',d',hea,tr',hd⟩:=hq;cases hea;obtain⟨_,rfl⟩:=fl.is.one (show kF ea cls d' s'.heap from (aO _ _ tr').1);have I2:=I1.Ba (ch:=[]) ho un aO hbare (fun b z=>absurd z (by simp))
  have n0:∀ b,s1.heap.get? b=none->X.s₀.heap.get? b=none:=fun b z=>by
   cases q2:X.s₀.heap.get? b with
   |none=>rfl
   |some o =>
    obtain⟨o',q3⟩:=I1.base.there b o q2 (by rw[hex];simp)
    rw[z] at q3;cases q3
  exact hd (I1.aO.none_of n1) (fun a z=>I1.aO.none_of (n3 a z)) pins s' (some T) I2 fl ⟨tr,n0 _ n1,fun a z=>n0 _ (n3 a z),fun T' hT=>by
   cases hT;exact⟨nT,n0 _ n2,fun p hp z=>by rw[<- z,(I1.pin p hp).1] at n2;cases n2⟩⟩
 |ok fl =>
  cases fl with
  |ret u=>exact I1.after hq
  |next=>exact False.elim hq
  |brk=>exact False.elim hq
  |cont=>exact False.elim hq
structure pI (K:Pm) (C:Addr):Prop where
 q:PySem.W.excIn K C [.type "ValueError",.type "Exception",.type "BaseException",.type "object"] "ValueError.__new__"=true
theorem pI.obj{C:Addr}(c:pI K C):∃ bm N nm qn bs hd sn sub ab col dd k0 k1 k2 k3 k5,K.lookup C=some (excClassObj nm qn C N bs bm hd sn sub ab col dd k0 k1 k2 k3 k5 "ValueError.__new__") /\
  (∀ h:Heap,K.In h->OwnTail h [.type "ValueError",.type "Exception",.type "BaseException",.type "object"] bm)/\(∃ oN,K.lookup N=some oN)/\∀ h:Heap,K.In h->∃ mN,h.Ns N mN/\mN "__init__"=none:=by
 have q:=c.q;unfold PySem.W.excIn at q
 split at q
 ·rename_i dd cd sl ho
  split at q
  ·rename_i C2 bm k0 k1 k2 k3 nw k5 hm hs;simp only[beq_iff_eq,Bool.not_eq_true',Bool.and_eq_true] at q;obtain⟨⟨⟨⟨⟨z1,z2⟩,z3⟩,z4⟩,z5⟩,z6⟩:=q;subst z1;subst z2;obtain⟨nm,bs,mr,ns,qn,hd,sn,sub,ab,col,dl⟩:=cd;dsimp only at hm z3 z5 z6 ho;subst hm;subst z3;obtain⟨l⟩:=sl;have hs':l=[k0,k1,k2,k3,some (.builtin "ValueError.__new__"),k5]:=hs;subst hs';refine⟨bm,ns,nm,qn,bs,hd,sn,sub,ab,col,dd,k0,k1,k2,k3,k5,ho,fun h A6=>PySem.W.tail_of_in A6 z4,?_,fun h A6=>⟨_,.of_isNs (PySem.W.isNs_of_in A6 z5),PySem.W.nsMap_none_of_in A6 z5 z6⟩⟩;unfold PySem.W.nsOkIn at z5
   split at z5
   ·rename_i hN;exact⟨_,hN⟩
   ·cases z5
  ·cases q
 ·cases q
noncomputable def DY(X:Cx)(C:Addr)(t:TA):TS:=fun D σ H=>t σ H fun vs H1=>vs.length<=sizeLine/\∀ e,H1 e=none->uk X (.ref C) none e σ (upd H1 e (.ext (kF e (.ref C) none)))
theorem wB{C:Addr}{np pos:Pos}{t:TA}(hg:Gl X x)(hm:X.mg x=some (.ref C))(hk:pI X.K C)(hc:X.calm=true)(hex:X.ex=[])(ha:PA X (e::es) t)(h1:autoParam (cS e=true) ℜ0)(h2:autoParam (es.all cS=true) ℜ0)(hdb:autoParam ((x ==("__debug__":Str))=false) ℜ1):
  PS X (.Raise (some (.Call (.Name x np) (e::es) [] cpos)) none pos) (DY X C t):=by
 intro pins s σ H D I h;obtain⟨bm,N,nm,qn,bs,hd,sn,sub,ab,col,dd,k0,k1,k2,k3,k5,lk,tl,⟨oN,lN⟩,hns⟩:=hk.obj;obtain⟨mN,hN,hni⟩:=hns s.heap I.h8;have FB:=PySem.F.excBase_ValueError;have hstar:starEach (e::es) X.env=(false,eval e X.env)::starEach es X.env:=dq h1;refine wpAny_Raise_call_subU (C:=C) (nm:=nm) (q:=qn) (N:=N) (bs:=bs) (bm:=bm) (hdct:=hd) (sn:=sn) (sub:=sub) (ab:=ab) (col:=col) (dd:=dd) (k0:=k0) (k1:=k1) (k2:=k2) (k3:=k3) (k5:=k5) FB FB.hasB FB (mN:=mN) ((tl s.heap I.h8).hasType FB.hasBase) (I.ok.hd hc) ?_ hni (h7 I hg hm ⟨rfl,?_⟩ hdb)
 ·rw[hstar];show (false || (backTo cpos (starEach es X.env)).any (·.1))=false;rw[plain_any h2];rfl
 ·have hp:=ha cpos pins s σ H _ I h;rw[hstar] at hp ⊢;refine Calls.evalArgs_plain (Lg hp (fun us s2 ⟨vs,H1,I1,r,hl,q⟩=>?_) fun _ _ y=>y);refine⟨rfl,by rw[<- r.length];exact hl,I1.h8 _ _ lk,?_,tl _ I1.h8,fun h' ea hm2=>?_⟩
  ·obtain⟨o,es',ep,ho,rr⟩:=hN;have z1:=I.h8 _ _ lN;rw[ho] at z1;cases z1;exact⟨_,es',ep,I1.h8 _ _ lN,rr⟩
  ·have hne:=I1.aO.none_of hm2.new;obtain⟨tt,g1,g2,g3⟩:=hm2.there;have fl:Fl h' ea (.ref C) none none:=⟨_,_,g1,rfl,rfl,rfl,rfl⟩;have I2:Inv X pins σ (upd H1 ea (.ext (kF ea (.ref C) none))) {s2 with heap:=h'}:=I1.un (t':=s2.toks) (Un.vn hm2.keeps hm2.new hne) (I1.aO.vn hm2.keeps hne fl.is.ok)
   refine q ea hne pins _ none I2 fl ⟨az,?_,(fun a z=>by cases z),fun T z=>by cases z⟩
   cases q2:X.s₀.heap.get? ea with
   |none=>rfl
   |some o =>
    obtain⟨o',q3⟩:=I1.base.there ea o q2 (by rw[hex];simp)
    rw[hm2.new] at q3;cases q3
end
noncomputable def XH(H:Hp)(e:Addr)(x:T)(cls:Value)(d:Option Addr):Prop:=H e=some (.ext (kF e cls d))/\match x with
 |.exc c none=>c=cls/\d=none
 |.exc c (some (n,i))=>c=cls/\∃ a,d=some a/\H a=some (.xd [(n,.int i)])
 |_=>False
abbrev Xw:=T->Mu->Prop
abbrev Hj:=Value->Option Addr->Addr->St->Hp->Prop
abbrev UX:=Mu->(R->Mu->Prop)->Xw->Prop
abbrev qI:=Ed->Xw->Mu->Prop
noncomputable def xM(F:Fx)(B:aX)(H:Hp)(Dx:Hj)(Xt:Xw):Prop:=∀(ad:Nat->Addr) (B':aX) (σ':St) (H':Hp) (μ':Mu) (x:T) (cls:Value) (d:Option Addr) (e:Addr),Rl F ad B' σ' H' μ'->Fr B H B' H'->XH H' e x cls d->¬ B' e->(∀ a,d=some a->¬ B' a)->Xt x μ'->Dx cls d e σ' H'
theorem xM.step{Dx:Hj}{Xt:Xw}(h:xM F B H Dx Xt)(f:Fr B H B1 H1):xM F B1 H1 Dx Xt:=fun ad B' σ' H' μ' x cls d e l f' tr n1 n2 q=>h ad B' σ' H' μ' x cls d e l (f.trans f') tr n1 n2 q
noncomputable def RX(K:Pm)(Dx:Hj)(te:TE)(ux:UX):Prop:=∀(F:Fx) (ad:Nat->Addr) (B:aX) (σ:St) (H:Hp) (μ:Mu) (Q:VK) (Qt:R->Mu->Prop) (Xt:Xw),F.K=K->Rl F ad B σ H μ->ux μ Qt Xt ->
 (∀ v H' r μ',Vr F ad B σ H' μ' v r->Fr B H (Bv B v r) H'->Kp μ μ'->Qt r μ'->Q v H')->xM F B H Dx Xt->te σ H Q
noncomputable def Jx(K:Pm)(Dx:Hj)(ts:TS)(us:qI):Prop:=∀(F:Fx) (D:Ends) (E:Ed) (Xt:Xw) (ad:Nat->Addr) (B:aX) (σ:St) (H:Hp) (μ:Mu),F.K=K->Rl F ad B σ H μ->us E Xt μ->tT F B H D E->xM F B H Dx Xt->ts D σ H
structure YX (X:Cx) (e:Expr) (u:UX):Prop where
 ex:∃ t,QE X e t/\RX X.K (uk X) t u
structure BP (X:Cx) (st:Stmt) (u:qI):Prop where
 ex:∃ t,QS X st t/\Jx X.K (uk X) t u
structure Aq (X:Cx) (sts:List Stmt) (u:qI):Prop where
 ex:∃ t,QB X sts t/\Jx X.K (uk X) t u
namespace Y
section
variable {X:Cx} {a b c e o tg:Expr} {es rest:List Expr} {ua ub uc ue uo:UE} {uA uB:UT} {us:UA} {pos pos' p p2 p3:Pos} {x:Str} {st:Stmt} {sts xs ys:List Stmt} {u w:US} {ux:UX} {uxs wxs:qI}
theorem xP(h:YS X st u):BP X st (fun E _ μ=>u E μ):=by
 obtain⟨t,q,r⟩:=h;exact⟨t,q,fun F D E Xt ad B σ H μ hF l q h _=>r F D E ad B σ H μ hF l q h⟩
noncomputable def EM(u w:qI):qI:=fun E Xt μ=>u {E with nx:=w E Xt} Xt μ
theorem kX(h:BP X st uxs):Aq X [st] uxs:=by obtain⟨t,q,r⟩:=h;exact⟨t,Z.aA q,r⟩
theorem AN:Aq X [] (fun E _ μ=>E.nx μ):=⟨_,Z.bN,fun F D E Xt ad B σ H μ hK l q h _=>h.nx ad B σ H μ l Fr.refl q⟩
theorem dX(h:BP X st uxs)(h2:Aq X sts wxs):Aq X (st::sts) (EM uxs wxs):=by
 obtain⟨t,q,r⟩:=h;obtain⟨t',q',r'⟩:=h2;exact⟨_,Z.af q q',fun F D E Xt ad B σ H μ hK l q h hX=>r F {D with nx:=t' D} {E with nx:=wxs E Xt} Xt ad B σ H μ hK l q
  ⟨fun ad1 B1 σ1 H1 μ1 l1 f1 q1=>r' F D E Xt ad1 B1 σ1 H1 μ1 hK l1 q1 (h.step f1) (hX.step f1),h.rt,h.bk,h.ct⟩ hX⟩
noncomputable def yX(ux:UX):qI:=fun E Xt μ=>ux μ E.rt Xt
theorem HQ(he:YX X e ux):BP X (.Return (some e) pos) (yX ux):=by
 obtain⟨t,q,r⟩:=he;exact⟨_,Z.ret q,fun F D E Xt ad B σ H μ hK l q h hX=>r F ad B σ H μ _ _ Xt hK l q (fun v H' rr μ' v1 _ _ q1=>h.rt ad B σ H' μ' v rr v1 q1) hX⟩
noncomputable def Ho(c:UT)(u w:qI):qI:=fun E Xt μ=>c μ fun b μ'=>if b=true then u E Xt μ' else w E Xt μ'
theorem Fe(hc:YT X c uA)(ha:Aq X xs uxs)(hb:Aq X ys wxs):BP X (.If c xs ys pos) (Ho uA uxs wxs):=by
 obtain⟨t,q,r⟩:=hc;obtain⟨t1,q1,r1⟩:=ha;obtain⟨t2,q2,r2⟩:=hb;refine⟨_,Z.eL q q1 q2,fun F D E Xt ad B σ H μ hK l q h hX=>r F ad B σ H μ _ _ hK l q fun b H' μ' l' f k1 qq=>?_⟩
 cases b with
 |true=>exact r1 F D E Xt ad B σ H' μ' hK l' (by simpa using qq) (h.step f) (hX.step f)
 |false=>exact r2 F D E Xt ad B σ H' μ' hK l' (by simpa using qq) (h.step f) (hX.step f)
noncomputable def GU(u:U2)(ux:UX)(ub:UE):UX:=fun μ Q Xt=>ux μ (fun r1 μ1=>ub μ1 fun r2 μ2=>u r1.d r2.d μ2 Q) Xt
theorem JD{r:R2}{u:U2}(hr:uY X r)(h:ib X.K r u)(ha:YX X a ux)(hb:YE X b ub)(hs:autoParam (Z.sim b=true) ℜ0):YX X (.Subscript a b pos) (GU u ux ub):=by
 obtain⟨t,q,ra⟩:=ha;obtain⟨t',q',rb⟩:=hb;refine⟨_,Z.ix hr q q' hs,fun F ad B σ H μ Q Qt Xt hK l q k hX=>ra F ad B σ H μ _ _ Xt hK l q (fun v1 H1 r1 μ1 w1 f1 k1 q1=>?_) hX⟩;refine rb F ad B σ H1 μ1 _ _ hK w1.rl q1 fun v2 H2 r2 μ2 w2 f2 k2 q2=>?_;refine h F ad B σ H2 μ2 _ _ v1 v2 r1.d r2.d hK w2.rl (w1.hv.fr f2.d k2) w2.hv q2 fun v H3 r3 μ3 w3 f3 k3 q3=>?_;exact k v H3 r3 μ3 w3 ((f1.d.trans f2.d).trans f3) ((k1.trans k2).trans k3) q3
end
end Y
abbrev yG:=List T->(R->List T->Prop)->(T->Prop)->Prop
noncomputable def zN(K:Pm)(md:List Bool)(tsp:yG):Sp:=fun vs H Q E=>∃ Et:T->Prop,spT K md (fun args Qt=>tsp args Qt Et) vs H Q E/\∀ x cls d e H',Et x->(∀ b o,H b=some o->b∉km md vs->H' b=some o)->XH H' e x cls d->E cls (some e) H'
theorem nY:∀{md:List Bool} {vs:List V},md.all (fun b=>!b)=true->km md vs=[]
 |[],_,_=>rfl
 |true::_,_,h=>by simp at h
 |false::md,[],_=>rfl
 |false::md,v::vs,h=>nY (md:=md) (vs:=vs) (by simpa using h)
namespace Y
theorem AB{md:List Bool}{E:XK}{Q:VK}{Qt:R->Mu->Prop}{rs:List R}(hF:F.K=K)(l1:Rl F ad B σ H1 μ1)(ps:Paired (Hv F ad B H1 μ1) vs rs)(ea:xB μ1 md rs=some args)
  (nd:(h_ md rs).Nodup) (dj:∀ j∈h_ md rs,j∉iC md rs) (q1:tsp args fun r outs=>(iC md rs=[]\/(gv r=true/\outs.all iH=true))/\Qt r (putAll (h_ md rs) outs μ1))
  (k:∀ v H' r μ',Vr F ad B σ H' μ' v r->Fr B H1 (Bv B v r) H'->Kp μ1 μ'->Qt r μ'->Q v H'):spT K md tsp vs H1 Q E:=by
 have hro:=jM (md:=md) ps;obtain⟨ag,eb,hb⟩:=AM l1 (iC md rs) ps ea (fun j h=>h) dj hro;rw[hF] at ag;have inj:∀{js:List Nat},js.Nodup->(∀ j∈js,∃(s:Sl) (c:T),μ1[j]?=some s/\s.box=some c)->(js.map ad).Nodup:=fun {js}=>by
  induction js with
  |nil=>exact fun _ _=>OO
  |cons j js ih =>
   intro nd hb;rw[KQ] at nd;rw[KD,KQ];refine⟨fun hm=>?_,ih nd.2 fun i hi=>hb i (Kh _ hi)⟩;obtain⟨i,hi,z⟩:=KA.mp hm;obtain⟨s1,c1,e1,b1⟩:=hb j Kk;obtain⟨s2,c2,e2,b2⟩:=hb i (Kh _ hi);exact nd.1 (l1.inj i j s2 s1 c2 c1 e2 e1 b2 b1 z ▸ hi)
 refine⟨_,args,_,ag,fun b z=>l1.gj b z.1,by rw[eb];exact inj nd hb,q1,fun v H2 r outs hq keep res=>?_⟩
 rw[eb] at keep res;obtain⟨hfl,hq⟩:=hq;have nro:∀{b:Addr},iC md rs=[]->B b->B b/\∀ j∈iC md rs,b≠ad j:=fun {b} z h=>⟨h,fun j hj=>by rw[z] at hj;cases hj⟩
 cases r with
 |br i=>exact res.elim
 |tr t =>
  obtain⟨rv,po⟩:=res;have rv':Rep F.K H2 B v t:=by
   rw[hF];rcases hfl with z|z
   ·exact rv.fr (Fr.less fun b h=>nro z h)
   ·exact rv.flat z.1
  have po':Paired (Bx F.K H2 B) ((h_ md rs).map ad) outs:=by
   rw[hF];rcases hfl with z|z
   ·exact Paired.mG po fun a c h=>h.of rfl (Fr.less fun b h=>nro z h)
   ·exact Paired.nM po z.2
  obtain⟨l2,k2,f2⟩:=l1.call hb nd keep (fun _ z=>z) (fun _ _ _ z=>z) (fun b z n=>absurd z n) po';exact k v H2 (.tr t) _ ⟨l2,rv'⟩ f2 k2 hq
 |fr c =>
  obtain⟨a,rfl,ha0,nBa,x,po⟩:=res;have nBa':¬ B a:=l1.kB ha0;have sub:iC md rs=[]->∀ b,more B a b->more (fun b=>B b/\∀ j∈iC md rs,b≠ad j) a b:=fun z b h=>h.imp id fun h=>nro z h;have x':Bx F.K H2 (more B a) a c:=by
   rw[hF];rcases hfl with z|z
   ·exact x.of rfl (Fr.less (sub z))
   ·exact x.flat z.1
  have po':Paired (Bx F.K H2 (more B a)) ((h_ md rs).map ad) outs:=by
   rw[hF];rcases hfl with z|z
   ·exact Paired.mG po fun a' c h=>h.of rfl (Fr.less (sub z))
   ·exact Paired.nM po z.2
  have po2:Paired (Bx F.K H2 B) ((h_ md rs).map ad) outs:=Paired.mG po' fun a' c h=>h.of rfl (Fr.less fun _ z=>.inr z);obtain⟨l2,k2,f2⟩:=l1.call hb nd keep (fun _ z=>z) (fun _ _ _ z=>z) (fun b z n=>absurd z n) po2;obtain⟨l3,_,f3⟩:=l1.call (B2:=more B a) hb nd keep (fun _ z=>.inr z) (fun b o e n z=>z.elim (fun z=>by rw[z,ha0] at e;cases e) n) (fun b z n=>z.elim (fun z=>by rw[z];exact x'.gj) fun z=>absurd z n) po'
  exact k _ H2 (.fr c) _ ⟨l2,a,rfl,nBa',l1.Ay ha0,l3,x'⟩ f3 k2 hq
noncomputable def GX(md:List Bool)(tsp:yG)(us:UA):UX:=fun μ Q Xt=>us μ fun rs μ1=>match xB μ1 md rs with
 |some args=>(h_ md rs).Nodup/\(∀ j∈h_ md rs,j∉iC md rs)/\tsp args (fun r outs=>(iC md rs=[]\/(gv r=true/\outs.all iH=true))/\Q r (putAll (h_ md rs) outs μ1)) (fun x=>Xt x μ1)
 |none=>False
theorem JK{pos p:Pos}{ps:List Str}{tsp:yG}(K:Pm)(hK:X.K=K)(F:ae X.prog X.w X.K X.mg X.base (uN X.prog X.w) k x ps (zN K md tsp))(hr:b7 k X.A)(hg:Gl X x)(hex:X.ex=[])(ha:YA X (e::es) us)(h1:autoParam (cS e=true) ℜ0)(h2:autoParam (es.all cS=true) ℜ0)(hdb:autoParam ((x ==("__debug__":Str))=false) ℜ1)(hmd:autoParam (md.all (fun b=>!b)=true) ℜ0):
  YX X (.Call (.Name x p) (e::es) [] pos) (GX md tsp us):=by
 obtain⟨t,q,r⟩:=ha;subst hK;refine⟨_,⟨D6 F hr hg hex q.h h1 h2 hdb⟩,fun F ad B σ H μ Q Qt Xt hF l q k hX=>?_⟩;refine r F ad B σ H μ _ _ hF l q fun vs H1 rs μ1 l1 ps f1 k1 q1=>?_
 split at q1
 ·rename_i args ea;obtain⟨nd,dj,q1⟩:=q1;refine⟨fun x=>Xt x μ1,AB (tsp:=fun args Qt=>tsp args Qt fun x=>Xt x μ1) hF l1 ps ea nd dj q1 fun v H' r μ' w f k2 q2=>k v H' r μ' w (f1.trans f) (k1.trans k2) q2,fun x cls d e H' he keep tr=>⟨e,d,rfl,tr.1,fun ne nd=>?_⟩⟩;have sm:bL H1 H':=fun b o z=>keep b o z (by rw[nY hmd];simp)
  exact hX ad B σ H' μ1 x cls d e (l1.same sm) (f1.trans (Fr.same sm)) tr (l1.kB ne) (fun a z=>l1.kB (nd a z)) he
 ·exact q1.elim
noncomputable def my(C:Addr)(us:UA):qI:=fun _ Xt μ=>us μ fun rs μ'=>rs.length<=10/\Xt (.exc (.ref C) none) μ'
theorem wc{C:Addr}{np pos:Pos}(hg:Gl X x)(hm:X.mg x=some (.ref C))(hk:pI X.K C)(hc:X.calm=true)(hex:X.ex=[])(ha:YA X (e::es) us)(h1:autoParam (cS e=true) ℜ0)(h2:autoParam (es.all cS=true) ℜ0)(hdb:autoParam ((x ==("__debug__":Str))=false) ℜ1):
  BP X (.Raise (some (.Call (.Name x np) (e::es) [] cpos)) none pos) (my C us):=by
 obtain⟨t,q,r⟩:=ha;refine⟨_,⟨wB hg hm hk hc hex q.h h1 h2 hdb⟩,fun F D E Xt ad B σ H μ hF l q h hX=>?_⟩;refine r F ad B σ H μ _ _ hF l q fun vs H1 rs μ1 l1 ps f1 k1 q1=>⟨by rw[ps.length];exact Kq q1.1 (by decide),fun ea hn=>?_⟩
 have sm:bL H1 (upd H1 ea (.ext (kF ea (.ref C) none))):=bL.new hn;exact hX ad B σ _ μ1 (.exc (.ref C) none) (.ref C) none ea (l1.same sm) (f1.trans (Fr.same sm)) ⟨az,rfl,rfl⟩ (l1.kB hn) (fun a z=>by cases z) q1.2
noncomputable def Cb(c:UT)(body:qI):qI:=fun E Xt μ=>∃ I:Nat->Mu->Prop,(∃ m,I m μ)/\∀ m μ,I m μ->c μ fun b μ'=>if b=true then body {E with nx:=fun μ2=>∃ m',m'<m/\I m' μ2,ct:=fun μ2=>∃ m',m'<m/\I m' μ2,bk:=E.nx} Xt μ' else E.nx μ'
theorem Ak{c:Expr}{xs:List Stmt}{uA:UT}{u:qI}{pos:Pos}(hp:PassesOwn (model X.prog X.w) X.A X.env X.xe)(hc:YT X c uA)(hb:Aq X xs u):BP X (.While c xs [] pos) (Cb uA u):=by
 obtain⟨tc,qc,rc⟩:=hc;obtain⟨t,q,r⟩:=hb;refine⟨_,Z.ki hp qc q,fun F D E Xt ad B σ H μ hF l q h hX=>?_⟩;obtain⟨I,⟨m0,i0⟩,turn⟩:=q;refine⟨fun m σ' H'=>∃ ad' B' μ',Rl F ad' B' σ' H' μ'/\Fr B H B' H'/\I m μ',⟨m0,ad,B,μ,l,Fr.refl,i0⟩,?_⟩;rintro m σ1 H1 ⟨ad1,B1,μ1,l1,f1,i1⟩;refine rc F ad1 B1 σ1 H1 μ1 _ _ hF l1 (turn m μ1 i1) fun b H2 μ2 l2 f2 k2 q2=>?_
 cases b with
 |true =>
  rw[Ke rfl] at q2 ⊢;refine⟨fun σ' H'=>∃ m',m'<m/\∃ ad' B' μ',Rl F ad' B' σ' H' μ'/\Fr B H B' H'/\I m' μ',fun σ' H' h=>h,?_⟩;have hn:∀ ad' B' σ' H' μ',Rl F ad' B' σ' H' μ'->Fr B1 H2 B' H'->(∃ m',m'<m/\I m' μ')->∃ m',m'<m/\∃ ad' B' μ',Rl F ad' B' σ' H' μ'/\Fr B H B' H'/\I m' μ':=fun ad' B' σ' H' μ' l' f' ⟨m',hm,i'⟩=>⟨m',hm,ad',B',μ',l',(f1.trans f2).trans f',i'⟩;exact r F _ _ Xt ad1 B1 σ1 H2 μ2 hF l2 q2 ⟨hn,h.rt,fun ad' B' σ' H' μ' l' f' q'=>h.nx ad' B' σ' H' μ' l' ((f1.trans f2).trans f') q',hn⟩ (hX.step (f1.trans f2))
 |false =>
  rw[JZ Ka] at q2 ⊢;exact h.nx ad1 B1 σ1 H2 μ2 l2 (f1.trans f2) q2
end Y
noncomputable def vx(K:Pm)(mg:Str->Option Value)(x:Str)(f:Addr)(cdv:Value):Prop:=mg x=some (.ref f)/\∃(o:Obj) (fd:FuncData),K.lookup f=some o/\o.data=.func fd/\fd.code=cdv
theorem HasFn.Gr{N ps:List Str}{tsp:yG}(F:HasFn K mg x st ps)(S:ao N ps (aa st))(md:List Bool)(hmd:md.all (fun b=>!b)=true)(hm:md.length=ps.length)(hN:md.length<=N.length)
  (hbody:∀(args:List T) (Qt:R->List T->Prop) (Et:T->Prop),args.length=ps.length->tsp args Qt Et->∀(f:Addr) (cdv:Value) (A:Around) (outer:List Env) (s:Shared) (H:Hp) (E:XK),b7 k (A.deeper (envOfC x (aa st) s.heap.objs.size f cdv))->vx K mg x f cdv ->
   ∃ us,Aq (gK (uN P w) P w K mg base N x (aa st) f cdv A outer s H E) (bA st) us/\us (m6 md Qt) (fun x _=>Et x) (startM md args N.length)):ae P w K mg base (uN P w) (k+1) x ps (zN K md tsp):=by
 obtain⟨f,fd,F1,bnd,m⟩:=F.ex;obtain⟨oc,od,kV,doc,pm,an,cdv,ct,osl,rfl,lk,hcd⟩:=F1.ex;refine⟨f,_,m,F1.kp,bnd,AY (CX:=uN P w) lk hcd S (fun vs H Q E h=>?_) (fun A outer s H vs Q E hr h=>?_)⟩
 ·obtain⟨Et,⟨B,args,Qt,ag,_⟩,_⟩:=h;rw[ag.len.1,hm]
 ·obtain⟨Et,⟨B,args,Qt,ag,bh,nd,ht,fin⟩,hE⟩:=h;obtain⟨us,⟨t,q,r⟩,hu⟩:=hbody args Qt Et (by rw[ag.len.2,hm]) ht f cdv A outer s H E hr ⟨m,_,_,lk,rfl,rfl⟩
  refine⟨t,q.h,?_⟩;have l0:=kj (N:=N) ag bh nd hN;have outs:∀ ad' B' σ' H' μ' (B2:aX),Rl (kq K H md vs B bh) ad' B' σ' H' μ'->(∀ b,B2 b->B' b)->Paired (Bx K H' B2) (km md vs) (bV md 0 μ'):=fun ad' B' σ' H' μ' B2 l hB=>by
   refine m3 (ag.len.1) fun n e=>?_;obtain⟨v,t',e1,e2,q⟩:=ag.get e;rw[Ke rfl] at q;obtain⟨a,rfl,_⟩:=q;obtain⟨⟨c,hc⟩,ha⟩:=l.par n a (mL e e1);have sl:=l.slot n _ hc;refine⟨a,c,e1,by rw[LO];exact hc,?_⟩
   rw[<- ha];exact (sl.2.2.2).of rfl (Fr.less hB)
  have keep:∀ ad' B' σ' H' μ',Rl (kq K H md vs B bh) ad' B' σ' H' μ'->∀ b o,H b=some o->b∉km md vs->H' b=some o:=fun ad' B' σ' H' μ' l b o e n=>l.old b o e fun i z=>n (fX (gF z).1 (gF z).2);refine r (kq K H md vs B bh) _ _ (fun x _=>Et x) (nr vs) B (start N vs) H _ rfl l0 hu ⟨fun ad' B' σ' H' μ' l _ q=>?_,fun ad' B' σ' H' μ' v rr h q=>?_,fun _ _ _ _ _ _ _ z=>z.elim,fun _ _ _ _ _ _ _ z=>z.elim⟩ (fun ad' B' σ' H' μ' x cls d e l _ tr _ _ z=>vh (hE x cls d e H' z (keep _ _ _ _ _ l) tr))
  ·exact fin .aC H' (.tr .aC) _ q (keep _ _ _ _ _ l) ⟨.aC,outs _ _ _ _ _ _ l l.bc⟩
  ·cases rr with
   |tr t=>exact fin v H' (.tr t) _ q (keep _ _ _ _ _ h.1) ⟨(show Rep K H' B' v t from h.2).fr (Fr.less h.1.bc),outs _ _ _ _ _ _ h.1 h.1.bc⟩
   |fr c =>
    obtain⟨l,a,rfl,n,h0,l2,x⟩:=h;have sub:∀ b,more B a b->more B' a b:=fun b z=>z.imp id (l.bc b);exact fin _ H' (.fr c) _ q (keep _ _ _ _ _ l) ⟨a,rfl,h0,fun z=>n (l.bc a z),x.of rfl (Fr.less sub),outs _ _ _ _ _ _ l2 sub⟩
   |br i =>
    have q':(match μ'[i]? with|some (.bx c)=>Qt (.fr c) (bV md 0 μ')|_=>False):=q
    obtain⟨l,rfl,s',c',e1,e2⟩:=h
    split at q'
    ·rename_i c ec;have sl:=l.slot i _ ec;have sub:∀ b,more B (ad' i) b->B' b:=fun b z=>z.elim (fun z=>by rw[z];exact sl.2.1) (l.bc b)
     refine fin _ H' (.fr c) _ q' (keep _ _ _ _ _ l) ⟨ad' i,rfl,sl.2.2.1,fun z=>?_,(sl.2.2.2.2).of rfl (Fr.less sub),outs _ _ _ _ _ _ l sub⟩;obtain⟨o,e⟩:=bh _ z;have:H (ad' i)=none:=sl.2.2.1;rw[this] at e;cases e
    ·exact q'.elim
theorem HasFn.Jv{ps:List Str}{tsp:yG}(F:HasFn K mg x st ps)(S:ao N ps (aa st))(md:List Bool)(hmd:md.all (fun b=>!b)=true)(hm:md.length=ps.length)(hN:md.length<=N.length)
  (hbody:∀(args:List T) (Qt:R->List T->Prop) (Et:T->Prop),args.length=ps.length->tsp args Qt Et->∀(f:Addr) (cdv:Value) (A:Around) (outer:List Env) (s:Shared) (H:Hp) (E:XK),b7 k (A.deeper (envOfC x (aa st) s.heap.objs.size f cdv)) ->
   ∃ us,Aq (gK (uN P w) P w K mg base N x (aa st) f cdv A outer s H E) (bA st) us/\us (m6 md Qt) (fun x _=>Et x) (startM md args N.length)):ae P w K mg base (uN P w) (k+1) x ps (zN K md tsp):=
 F.Gr S md hmd hm hN fun args Qt Et hl h f cdv A outer s H E hr _=>hbody args Qt Et hl h f cdv A outer s H E hr
abbrev UJ:=Mu->(Mu->Prop)->Prop
structure YJ (X:Cx) (vs:List Expr) (u:UJ):Prop where
 run:∀(F:Fx) (ad:Nat->Addr) (B:aX) (σ:St) (H:Hp) (μ:Mu) (Qt:Mu->Prop) (pins:List (Addr×Obj)) (s:Shared) (acc:Str) (k:Nat) (R:Str->Shared->Prop),F.K=X.K->Rl F ad B σ H μ->u μ Qt->Inv X pins σ H s->acc.length<=2000*k->k+vs.length<=20 ->
  (∀ H' μ' s' (out:Str),Rl F ad B σ H' μ'->Fr B H B H'->Kp μ μ'->Qt μ'->Inv X pins σ H' s'->out.length<=40000->R out s')->Joins (model X.prog X.w) X.A X.xe (evalEach vs X.env) acc R s
theorem fO(a b:Str):(a++b).length=a.length+b.length:=NQ
theorem fc(h:n<=40000):n<=sizeLine:=Kq h (by decide)
namespace Y
section
variable {X:Cx} {e:Expr} {vs:List Expr} {ue:UE} {u:UJ} {pos p:Pos}
theorem E5:YJ X [] (fun μ Q=>Q μ):=⟨fun F ad B σ H μ Qt pins s acc k R hF l q I ha hk h=>h H μ s acc l Fr.refl (Kp.refl μ) q I (by simp at hk;lia)⟩
theorem CM{c:Str}{j:Nat}(h:YJ X vs u)(hc:autoParam (c.length<=2000) ℜ1)(he:autoParam (evalEach (.Constant (.str c) j p::vs) X.env=eval (.Constant (.str c) j p) X.env::evalEach vs X.env) ℜ0):YJ X (.Constant (.str c) j p::vs) u:=by
 refine⟨fun F ad B σ H μ Qt pins s acc k R hF l q I ha hk hR=>?_⟩;rw[he];refine bS ((Z.str (X:=X) (i:=c) (j:=j) (pos:=p)).h pins s σ H (fun v H1=>v=.str c/\H1=H) I ⟨rfl,rfl⟩) fun v s1 ⟨v',H1,I1,r1,e1,e2⟩=>?_;subst e1;subst e2;obtain⟨t,rfl⟩:=r1;have hl:(acc++c).length<=2000*(k+1):=by rw[fO];lia
 rw[Kj] at hk;exact⟨c,t,rfl,fc (by lia),h.run F ad B σ H1 μ Qt pins s1 (acc++c) (k+1) R hF l q I1 hl (by lia) hR⟩
noncomputable def Hs(ue:UE)(u:UJ):UJ:=fun μ Q=>ue μ fun r μ'=>match r with
 |.tr (.int i)=>i.natAbs<2^1900/\u μ' Q
 |_=>False
theorem IA(he:YE X e ue)(h:YJ X vs u)(hev:autoParam (evalEach (.FormattedValue e (-1) none p::vs) X.env=eval (.FormattedValue e (-1) none p) X.env::evalEach vs X.env) ℜ0):YJ X (.FormattedValue e (-1) none p::vs) (Hs ue u):=by
 obtain⟨t,qe,r⟩:=he;refine⟨fun F ad B σ H μ Qt pins s acc k R hF l q I ha hk hR=>?_⟩;rw[hev];refine wpAny_FormattedValue_plain ?_;refine bS (qe.h pins s σ H (fun v H1=>∃ r1 μ1,Vr F ad B σ H1 μ1 v r1/\Fr B H (Bv B v r1) H1/\Kp μ μ1/\(match r1 with
  |.tr (.int i)=>i.natAbs<2^1900/\u μ1 Qt
  |_=>False)) I (r F ad B σ H μ _ _ hF l q fun v H1 r1 μ1 w f k1 q1=>⟨r1,μ1,w,f,k1,q1⟩)) fun v s1 ⟨v',H1,I1,rv,r1,μ1,w,f,k1,q1⟩=>?_
 split at q1
 ·rename_i i;obtain⟨l1,rp⟩:=w;cases rp;obtain⟨t',rfl⟩:=rv;obtain⟨hi,q1⟩:=q1;have hlog:i.natAbs.log2<1920:=by
   by_cases z:i.natAbs=0
   ·rw[z];decide
   ·exact (OC z).mpr (Kz hi (Ma (by decide) (by decide)))
  have hlen:(Str.ofString (toString i)).length<=1921:=by
   have:=int_text_length_le (k:=1920) (by decide) hlog
   rw[PySem.ofString_length];exact this
  refine wpAny_formatField_int hlog ⟨_,_,rfl,?_,?_⟩
  ·rw[fO];exact fc (by rw[Kj] at hk;lia)
  ·rw[Kj] at hk;exact h.run F ad B σ H1 μ1 Qt pins _ (acc++Str.ofString (toString i)) (k+1) R hF l1 q1 (I1.tok _) (by rw[fO];lia) (by lia) fun H' μ' s' out l' f' k'=>hR H' μ' s' out l' (f.trans f') (k1.trans k')
 ·exact q1.elim
noncomputable def Hu(u:UJ):UE:=fun μ Q=>u μ fun μ'=>∀ z:Str,z.length<=40000->Q (.tr (.str z)) μ'
theorem Gi{v1 v2:Expr}{rest:List Expr}(h:YJ X (v1::v2::rest) u)(hn:autoParam ((v1::v2::rest).length<=20) ℜ1):YE X (.JoinedStr (v1::v2::rest) pos) (Hu u):=by
 refine⟨fun σ H Q=>∀ pins s,Inv X pins σ H s->wpAny (model X.prog X.w) X.A (eval (.JoinedStr (v1::v2::rest) pos) X.env) (EP X pins σ Q) X.xe s,⟨fun pins s σ H Q I h=>h pins s I⟩,?_⟩;intro F ad B σ H μ Q Qt hF l q k pins s I;refine wpAny_JoinedStr (h.run F ad B σ H μ _ pins s Str.empty 0 _ hF l q I (by decide) (by rw[LO];exact hn) fun H' μ' s' out l' f' k' q' I' ho=>⟨fc ho,?_⟩)
 exact⟨.str out,H',I'.tok _,⟨_,rfl⟩,k _ H' (.tr (.str out)) μ' ⟨l',.str out⟩ f' k' (q' out ho)⟩
end
end Y
namespace A
theorem Hs(ue:UE)(u:UJ)(μ:Mu)(Q:Mu->Prop):Y.Hs ue u μ Q=ue μ fun r μ'=>match r with
 |.tr (.int i)=>i.natAbs<2^1900/\u μ' Q
 |_=>False:=rfl
theorem Hu(u:UJ)(μ:Mu)(Q:R->Mu->Prop):Y.Hu u μ Q=u μ fun μ'=>∀ z:Str,z.length<=40000->Q (.tr (.str z)) μ':=rfl
theorem yX(ux:UX)(E:Ed)(Xt:Xw)(μ:Mu):Y.yX ux E Xt μ=ux μ E.rt Xt:=rfl
theorem Ho(c:UT)(u w:qI)(E:Ed)(Xt:Xw)(μ:Mu):Y.Ho c u w E Xt μ=c μ fun b μ'=>if b=true then u E Xt μ' else w E Xt μ':=rfl
theorem GU(u:U2)(ux:UX)(ub:UE)(μ:Mu)(Q:R->Mu->Prop)(Xt:Xw):Y.GU u ux ub μ Q Xt=ux μ (fun r1 μ1=>ub μ1 fun r2 μ2=>u r1.d r2.d μ2 Q) Xt:=rfl
theorem GX(md:List Bool)(tsp:yG)(us:UA)(μ:Mu)(Q:R->Mu->Prop)(Xt:Xw):Y.GX md tsp us μ Q Xt=us μ fun rs μ1=>match xB μ1 md rs with
 |some args=>(h_ md rs).Nodup/\(∀ j∈h_ md rs,j∉iC md rs)/\tsp args (fun r outs=>(iC md rs=[]\/(gv r=true/\outs.all iH=true))/\Q r (putAll (h_ md rs) outs μ1)) (fun cls=>Xt cls μ1)
 |none=>False:=rfl
theorem my(C:Addr)(us:UA)(E:Ed)(Xt:Xw)(μ:Mu):Y.my C us E Xt μ=us μ fun rs μ'=>rs.length<=10/\Xt (.exc (.ref C) none) μ':=rfl
end A
theorem ka{u w:qI}{E:Ed}{Xt:Xw}(h:∀ N,N=w E Xt->u {E with nx:=N} Xt μ):Y.EM u w E Xt μ:=h _ rfl
namespace Y
noncomputable def eF(t:T)(xs:List T):Bool:=xs.any fun y=>Hd y t
theorem sF{x:V}{t:T}(h:Rep K H B x t)(f:aR t=true):∀{ys:List V} {us:List T},ay K H B ys us->us.all aR=true->dU x=true/\ys.all dU=true/\GO x ys=eF t us
 |_,_,.nil,_=>by
  refine⟨?_,rfl,rfl⟩
  cases h<;>first|rfl|cases f
 |_,_,.cons h2 r,f2=>by
  rw[Lf,KI] at f2;obtain⟨a1,a2,a3⟩:=sF h f r f2.2;obtain⟨b1,b2,b3⟩:=Bq h2 h f2.1 f;refine⟨a1,by rw[Lf,b1,a2];rfl,?_⟩
  unfold GO eF at a3 ⊢;rw[NI,NI,b3,a3]
noncomputable def CB(K:Pm)(neg:Bool):R2:=fun x y H Q=>II K neg x y H Q\/∃ i j,x=.str i/\y=.str j/\Q (.bl (if neg then !(!(Builtin.Str.occurrences j i 0 j.length 1).isEmpty) else !(Builtin.Str.occurrences j i 0 j.length 1).isEmpty)) H
theorem j8(K:Pm)(hK:X.K=K):cK X (compareOp .In) (CB K false):=by subst hK;exact tS.or tE
theorem zB(K:Pm)(hK:X.K=K):cK X (compareOp .NotIn) (CB K true):=by subst hK;exact mx.or mP
noncomputable def E4(i j:Str):Bool:=!(Builtin.Str.occurrences j i 0 j.length 1).isEmpty
noncomputable def FH(neg:Bool):T->T->Mu->(R->Mu->Prop)->Prop:=fun t u μ Q=>match u with
 |.tup xs=>aR t=true/\xs.all aR=true/\Q (.tr (.bl (if neg then !eF t xs else eF t xs))) μ
 |.lst xs=>aR t=true/\xs.all aR=true/\Q (.tr (.bl (if neg then !eF t xs else eF t xs))) μ
 |.dZ xs=>aR t=true/\xs.all aR=true/\Q (.tr (.bl (if neg then !eF t xs else eF t xs))) μ
 |.str j=>(match t with|.str i=>Q (.tr (.bl (if neg then !E4 i j else E4 i j))) μ|_=>False)
 |_=>False
theorem Vw.gv{v:V}{t:T}(h:Vw K H B v t)(f:aR t=true):Rep K H B v t:=by
 cases h with
 |aC=>exact .aC
 |bl b=>exact .bl b
 |int i=>exact .int i
 |str x=>exact .str x
 |tup=>cases f
 |dZ=>cases f
 |lst=>cases f
 |ee=>cases f
 |eJ=>cases f
 |n5=>cases f
 |exc=>cases f
 |Ar=>cases f
theorem lP{neg:Bool}:ib K (CB K neg) (ou (FH neg)):=f9 fun F ad B σ H μ Q Qt x y t u hK l v1 v2 q k=>by
 subst hK;unfold FH at q
 split at q
 ·obtain⟨f1,f2,q⟩:=q
  cases v2 with
  |tup ha ra =>
   obtain⟨a1,a2,a3⟩:=sF (Vw.gv v1 f1) f1 ra f2;exact .inl ⟨_,_,rfl,.inr (cc.of ha),a1,a2,by rw[a3];exact k _ H _ (Vr.flat l (.bl _)) Fr.refl q⟩
 ·obtain⟨f1,f2,q⟩:=q
  cases v2 with
  |lst ha ra =>
   obtain⟨a1,a2,a3⟩:=sF (Vw.gv v1 f1) f1 ra f2;exact .inl ⟨_,_,rfl,.inl (cx.of ha),a1,a2,by rw[a3];exact k _ H _ (Vr.flat l (.bl _)) Fr.refl q⟩
 ·obtain⟨f1,f2,q⟩:=q
  cases v2 with
  |dZ ha ra =>
   obtain⟨a1,a2,a3⟩:=sF (Vw.gv v1 f1) f1 ra f2;exact .inl ⟨_,_,rfl,.inr (.inr ha),a1,a2,by rw[a3];exact k _ H _ (Vr.flat l (.bl _)) Fr.refl q⟩
 ·split at q
  ·cases v1;cases v2
   exact .inr ⟨_,_,rfl,rfl,k _ H _ (Vr.flat l (.bl _)) Fr.refl q⟩
  ·exact q.elim
 ·exact q.elim
end Y
namespace A
theorem HS(neg:Bool)(t:T)(xs:List T)(μ:Mu)(Q:R->Mu->Prop):Y.FH neg t (.tup xs) μ Q=(aR t=true/\xs.all aR=true/\Q (.tr (.bl (if neg then !Y.eF t xs else Y.eF t xs))) μ):=rfl
theorem HU(neg:Bool)(t:T)(xs:List T)(μ:Mu)(Q:R->Mu->Prop):Y.FH neg t (.dZ xs) μ Q=(aR t=true/\xs.all aR=true/\Q (.tr (.bl (if neg then !Y.eF t xs else Y.eF t xs))) μ):=rfl
theorem Il(neg:Bool)(i j:Str)(μ:Mu)(Q:R->Mu->Prop):Y.FH neg (.str i) (.str j) μ Q=Q (.tr (.bl (if neg then !Y.E4 i j else Y.E4 i j))) μ:=rfl
end A
theorem jJ{k:Str}{t t':Tok}{prog:Program}{w:World}{A:Around}{E:Value->Shared->Prop}{Q:Option Fin×Unit->Shared->Prop}(hit:items[j]?=some (.str k t'))(hno:∀ m,m<j->∃ y ty,items[m]?=some (.str y ty)/\y≠k):∀(m i c:Nat) (s:Shared),i+m=j->m<c->Q (some (.done (.ret (.int (j:Nat) s.toks))),()) {s with toks:=s.toks+1} ->
  wpAny (model prog w) A (forIn (List.range' i c) ((none,()):Option Fin×Unit) fun i __s=>match items[i]? with
      |some y=>do
       let __do_lift <- eqBool y (Value.str k t)
       if __do_lift=true then do
         let __do_lift <- retInt (i:Nat)
         pure (ForInStep.done (some __do_lift,()))
        else pure (ForInStep.yield (none,()))
      |x=>pure (ForInStep.yield (none,()))) Q E s:=by
 intro m
 induction m with
 |zero =>
  intro i c s e hc h
  cases c with
  |zero=>exact absurd hc (O4 _)
  |succ c =>
   obtain rfl:i=j:=e;rw[Lj,MF];simp only[hit];refine JU (JU (Oa ?_));rw[KY rfl]
   wp_walk
   exact h
 |succ m ih =>
  intro i c s e hc h
  cases c with
  |zero=>exact absurd hc (O4 _)
  |succ c =>
   obtain⟨y,ty,hy,ne⟩:=hno i (by lia)
   rw[Lj,MF];simp only[hy];refine JU (JU (Oa ?_));rw[Kv ne];exact Kb (ih (i+1) c s (by lia) (by lia) h)
theorem tQ{n:Nat}{dd:Option Addr}{sl:Array (Option Value)}{k:Str}{t t':Tok}(hit:items[j]?=some (.str k t'))(hno:∀ m,m<j->∃ y ty,items[m]?=some (.str y ty)/\y≠k):
  Meets (Builtin.«tuple.index» ⟨[.ref p,.str k t],[]⟩) (fun A R s=>s.heap.get? p=some {cls:=.type "tuple",dict:=dd,data:=.seq items n,slots:=sl}/\R (.ok (.ret (.int (j:Nat) s.toks))) {s with toks:=s.toks+1}):=by
 intro prog w A R s h;obtain⟨hp,g,d,tk,os⟩:=s;obtain⟨ho,h⟩:=h;unfold Builtin.«tuple.index»;simp only[Std.Legacy.Range.forIn_eq_forIn_range'];wp_walk using Nm ho;have hj:j<items.size:=by
  rcases KR j items.size with z|z
  ·exact z
  ·rw[NN.mpr z] at hit;cases hit
 refine jJ hit hno j 0 _ _ (LO _) ?_ ?_
 ·simp[Std.Legacy.Range.size];exact hj
 ·exact Kb h
noncomputable def IS(K:Pm):V->List V->Hp->VK->Prop:=fun x vs H Q=>∃(a:Addr) (ws:List Str) (k:Str) (j:Nat),x=.ref a/\cc K H a (ws.map V.str)/\vs=[.str k]/\ws[j]?=some k/\(∀ m,m<j->ws[m]?≠some k)/\Q (.int (j:Nat)) H
theorem gX:∀{ws:List Str} {its:List Value},Vals (ws.map V.str) its->∀(m:Nat) (y:Str),ws[m]?=some y->∃ t,its[m]?=some (.str y t):=fun r m y e=>by
 obtain⟨u,h1,h2⟩:=r.get (i:=m) (x:=V.str y) (by rw[Kg,e];rfl)
 obtain⟨t,rfl⟩:=(show RelV (.str y) u from h2);exact⟨t,h1⟩
theorem Dc:rJ X "tuple.index" (IS X.K):=by
 intro pins s σ H x xs v us Q I rx rs h;obtain⟨a,ws,k,j,rfl,hq,rfl,hj,hno,q⟩:=h;obtain rfl:v=Value.ref a:=rx;obtain⟨u,rfl,t,rfl⟩:=vals1 rs;obtain⟨its,r,pl,hz⟩:=I.tuple hq;obtain⟨⟨oc,od,oda,osl⟩,ho,hc,n,hd⟩:=id pl;obtain rfl:oc=.type "tuple":=hc;obtain rfl:oda=.seq its.toArray n:=hd;obtain⟨t',hit⟩:=gX r j k hj;refine L3 PySem.F.slot_tuple_index ⟨_,ho,rfl⟩ PySem.F.entry_tuple_index (PySem.F.args_tuple_index_2 _ _) (tQ (j:=j) (t':=t') (by rw[Lm];exact hit) fun m hm=>?_) ⟨ho,⟨.int (j:Nat),H,I.tok _,⟨_,rfl⟩,q⟩⟩
 have hl:m<ws.length:=Pg hm (Kf.mp hj).1;have e:=JV hl;obtain⟨ty,hy⟩:=gX r m _ e;exact⟨_,ty,by rw[Lm];exact hy,fun z=>hno m hm (by rw[e,z])⟩
open Builtin Builtin.Str
namespace Y
noncomputable def wW:UC:=fun rs μ Q=>match rs with
 |[.tr (.int i)]=>i.natAbs.log2<1920/\Q (.tr (.str (toString i))) μ
 |[.tr (.str z)]=>Q (.tr (.str z)) μ
 |_=>False
theorem CJ:RC K Ff wW:=by
 intro F ad B σ H μ Q Qt xs rs hK l p q k;unfold wW at q
 split at q
 ·cases p with
  |cons h1 p=>cases p;cases b8 h1;exact⟨q.1,k _ H _ μ (Vr.flat l (.str _)) Fr.refl (Kp.refl μ) q.2⟩
 ·cases p with
  |cons h1 p=>cases p;cases b8 h1;exact k _ H _ μ (Vr.flat l (.str _)) Fr.refl (Kp.refl μ) q
 ·exact q.elim
end Y
noncomputable def ES(z:Str):It:=⟨fun i _=>i<z.cps.size,fun i H x H'=>H'=H/\∃ c,z.cps[i]?=some c/\x=.str ⟨#[c]⟩,fun i _=>z.cps.size<=i⟩
theorem uq(z:Str)(t:Tok)(it:Addr):Turn P w K tg (ES z) [it] it (fun i h=>h.IsStrIter it "str_ascii_iterator" z t i) where
 mem:=by simp
 obj:=fun i h st b hb=>by
  have e:b=it:=by simpa using hb
  subst e;obtain⟨o,e,c,d⟩:=st;exact⟨o,e,fun v z=>by rw[d] at z;cases z⟩
 keep:=fun i h h' st k=>let ⟨o,e,r⟩:=st;⟨o,k it (by simp) o e,r⟩
 item:=by
  intro X hP hw hK hc i pins s σ H E I hf st hg;subst hP hw hK;obtain⟨f0,f1,f2,f3,f4,f5⟩:=hf it (by simp)
  have hi:i<z.cps.size:=hg;refine wpAny_pyNext_ascii_item st (c:=z.cps[i]) (by simp[hi]) fun h' st' sb=>?_
  have I1:Inv X pins σ H {s with heap:=h',toks:=s.toks+1}:=I.turned (t':=s.toks+1) (fun b o hb e=>(sb.2 b hb).trans e) f0 f1 f3 f4 f5
  obtain⟨o,e,c,d⟩:=id st';exact⟨_,rfl,nS (s:={s with heap:=h',toks:=s.toks+1}) e c d (by decide) ⟨.str ⟨#[z.cps[i]]⟩,H,I1,⟨_,rfl⟩,⟨rfl,_,by simp[hi],rfl⟩,st',fun b hb=>(hf b hb).1⟩⟩
 done:=by
  intro X hP hw hK hc i pins s σ H E I hf st hg;subst hP hw hK;obtain⟨f0,f1,f2,f3,f4,f5⟩:=hf it (by simp)
  have hi:z.cps.size<=i:=hg;exact wpAny_pyNext_ascii_end (I.ok.hd hc) st (by simpa using hi) fun h' eb=>⟨rfl,I.turned (t':=s.toks) (fun b o hb e=>eb b o hb e) f0 f1 f3 f4 f5⟩
 self:=fun _ _ _ _ _ st h=>wpAny_pyIter_striter_ascii st h
theorem uP(z:Str)(t:Tok)(it:Addr):Turn P w K tg (ES z) [it] it (fun i h=>h.IsStrIter it "str_iterator" z t i) where
 mem:=by simp
 obj:=fun i h st b hb=>by
  have e:b=it:=by simpa using hb
  subst e;obtain⟨o,e,c,d⟩:=st;exact⟨o,e,fun v z=>by rw[d] at z;cases z⟩
 keep:=fun i h h' st k=>let ⟨o,e,r⟩:=st;⟨o,k it (by simp) o e,r⟩
 item:=by
  intro X hP hw hK hc i pins s σ H E I hf st hg;subst hP hw hK;obtain⟨f0,f1,f2,f3,f4,f5⟩:=hf it (by simp)
  have hi:i<z.cps.size:=hg;refine wpAny_pyNext_wide_item st (c:=z.cps[i]) (by simp[hi]) fun h' st' sb=>?_
  have I1:Inv X pins σ H {s with heap:=h',toks:=s.toks+1}:=I.turned (t':=s.toks+1) (fun b o hb e=>(sb.2 b hb).trans e) f0 f1 f3 f4 f5
  obtain⟨o,e,c,d⟩:=id st';exact⟨_,rfl,nS (s:={s with heap:=h',toks:=s.toks+1}) e c d (by decide) ⟨.str ⟨#[z.cps[i]]⟩,H,I1,⟨_,rfl⟩,⟨rfl,_,by simp[hi],rfl⟩,st',fun b hb=>(hf b hb).1⟩⟩
 done:=by
  intro X hP hw hK hc i pins s σ H E I hf st hg;subst hP hw hK;obtain⟨f0,f1,f2,f3,f4,f5⟩:=hf it (by simp)
  have hi:z.cps.size<=i:=hg;exact wpAny_pyNext_wide_end (I.ok.hd hc) st (by simpa using hi) fun h' eb=>⟨rfl,I.turned (t':=s.toks) (fun b o hb e=>eb b o hb e) f0 f1 f3 f4 f5⟩
 self:=fun _ _ _ _ _ st h=>wpAny_pyIter_striter_wide st h
noncomputable def Io(tl:TE):TI:=fun σ H R=>tl σ H fun x H1=>∃ z,x=V.str z/\R (ES z) H1
theorem Eb{l:Expr}{tl:TE}(hl:PE X l tl):PI X tg l (Io tl):=by
 intro pins s σ H R I h;refine bS (hl pins s σ H _ I h) fun v s1 ⟨x,H1,I1,r1,q1⟩=>?_;obtain⟨z,rfl,q⟩:=q1;obtain⟨t,rfl⟩:=r1;have fr:∀ b∈[s1.heap.objs.size],kf X pins H1 b:=fun b hb=>by
  have e:b=s1.heap.objs.size:=by simpa using hb
  subst e;exact I1.qm (Kc _) (I1.aO.fresh (Kc _))
 cases ha:z.cps.all (· < 128)
 ·refine wpAny_pyIter_wide ha ?_;exact⟨s1.heap.objs.size,[s1.heap.objs.size],_,_,H1,rfl,I1.kept (t':=s1.toks) fun b o e=>JW _ e,uP z t _,⟨_,Km _ rfl,rfl,rfl⟩,fr,q⟩
 ·refine wpAny_pyIter_ascii ha ?_;exact⟨s1.heap.objs.size,[s1.heap.objs.size],_,_,H1,rfl,I1.kept (t':=s1.toks) fun b o e=>JW _ e,uq z t _,⟨_,Km _ rfl,rfl,rfl⟩,fr,q⟩
noncomputable def iw(z:Str):List T:=z.cps.toList.map fun c=>T.str ⟨#[c]⟩
theorem Cr{z:Str}:iS K (ES z) (fun _ _=>True) (iw z):=
 ⟨fun H B i t hb _ e=>by
  unfold iw at e;rw[Kg] at e;have hi:i<z.cps.size:=by
   rcases KR i z.cps.size with q|q
   ·exact q
   ·rw[K0.mpr (by simpa using q)] at e;cases e
  refine⟨hi,fun x H2 y=>?_⟩;obtain⟨rfl,c,hc,rfl⟩:=y;rw[K5,hc] at e;cases e;exact⟨bL.refl _,.str _⟩,fun H B _=>by simp[ES,iw]⟩
namespace Y
noncomputable def zy(ue:UE):UI:=fun μ Rt=>ue μ fun r μ'=>match r with
 |.tr (.str z)=>Rt (iw z) none μ'
 |_=>False
theorem Jw(he:YE X e ue):YI X tg e (zy ue):=by
 obtain⟨t,q,r⟩:=he;refine⟨_,⟨Eb q.h⟩,fun F ad B σ H μ R Rt hF l q k=>r F ad B σ H μ _ _ hF l q fun v H' r1 μ' v1 f k1 q1=>?_⟩
 split at q1
 ·rename_i z;obtain⟨l1,rp⟩:=v1;cases rp;exact⟨z,rfl,k _ H' μ' _ none _ l1 f k1 Cr trivial (fun _ _ _ _ _ _=>trivial) (fun j ls z=>by cases z) q1⟩
 ·exact q1.elim
end Y
namespace A
theorem EN(i:Int)(μ:Mu)(Q:R->Mu->Prop):Y.wW [.tr (.int i)] μ Q=(i.natAbs.log2<1920/\Q (.tr (.str (toString i))) μ):=rfl
theorem zy(ue:UE)(μ:Mu)(Rt:List T->Option (Nat×List T)->Mu->Prop):Y.zy ue μ Rt=ue μ fun r μ'=>match r with
 |.tr (.str z)=>Rt (iw z) none μ'
 |_=>False:=rfl
end A
open PySem PySem.Spec PyProof PyProof.Rows
variable{K:Pm}{es:List Expr}{p:Pos}{X:Cx}
noncomputable def yW(K:Pm)(a:Addr):It:=
 ⟨fun i H=>∃ x,getL K a i H x,fun i H x H'=>∃ p y,(∀ xs,cx K H a xs->xs[i]?=some y)/\H p=none/\x=.ref p/\H'=upd H p (.tup [.int i,y]),Ib K a⟩
theorem qG{P:Program}{w:World}{tk:Nat}{tp:Pos}(a it e:Addr)(hne:e≠it):Turn P w K (.Tuple es tk tp) (yW K a) [e,it] e (fun i h=>(∃ old,IsEnum h e it i old)/\h.IsListIter it a i) where
 mem:=by simp
 obj:=fun i h st b hb=>by
  obtain⟨⟨old,he⟩,o,eo,c,d⟩:=st;rcases Ki.mp hb with z|z
  ·subst z;exact⟨_,he,fun v z=>by cases z⟩
  ·have z:b=it:=by simpa using z
   subst z;exact⟨o,eo,fun v z=>by rw[d] at z;cases z⟩
 keep:=fun i h h' st k=>by
  obtain⟨⟨old,he⟩,o,eo,r⟩:=st;exact⟨⟨old,k e (by simp) _ he⟩,o,k it (by simp) o eo,r⟩
 item:=by
  intro X hP hw hK hc i pins s σ H E I hf st hg;subst hP hw hK;obtain⟨x,xs,hq,hx⟩:=hg;obtain⟨⟨old,he⟩,hit⟩:=st;obtain⟨its,rv,p,hz⟩:=I.list hq;obtain⟨u,hu,ru⟩:=rv.get hx;obtain⟨g0,g1,g2,g3,g4,g5⟩:=hf e (by simp)
  obtain⟨f0,f1,f2,f3,f4,f5⟩:=hf it (by simp)
  have ht:s.heap.IsList a its.toArray:=p.isList;have ha:a≠it:=by
   rintro rfl;obtain⟨o,e1,c1,_⟩:=hit;obtain⟨o',e2,c2,_⟩:=ht;rw[e1] at e2;cases e2;rw[c1] at c2;exact absurd (Value.type.inj c2) (by decide)
  have hea:e≠a:=by
   rintro rfl;obtain⟨o',e2,c2,_⟩:=ht;have e1:s.heap.get? e=some _:=he;rw[e1] at e2;cases e2;exact absurd (Value.type.inj c2) (by decide)
  have hi:i<its.toArray.size:=by
   have:=(Kf.mp hu).1
   simpa using this
  refine Ox (Draws.list (A:=X.A.in1) (I.ok.hd hc) it a ha its.toArray) he ⟨hit,ht⟩ hi hne (by simp[hne,hea]) fun x' h' tk' hP ho hs' hT hsz hk=>?_
  have ex:x'=u:=by
   have hP':its.toArray[i]?=some x':=hP;rw[Lm,hu] at hP';exact (Option.some.inj hP').symm
  subst ex;refine⟨.ref s.heap.objs.size,rfl,NJ ho fun h2 he2 hs2=>?_⟩;have fr:H s.heap.objs.size=none:=I.aO.fresh (Kc _);have hle:e≠s.heap.objs.size:=K1 (Kn he);have hT2:h2.get? s.heap.objs.size=some {cls:=.type "tuple",data:=.seq #[.int i tk',x']}:=(hs2.2 _ (Ne.symm hle)).trans hT;have I2:Inv X pins σ (upd H s.heap.objs.size (.tup [.int i,x])) {s with heap:=h2,toks:=tk'+1}:=by
   refine I.nv (fp:=[e,it]) hf (Kc _) (fun b o hb eb=>?_) ⟨by show 2<=sizeLine;decide,[.int i tk',x'],.cons ⟨_,rfl⟩ (.cons ru .nil),⟨_,hT2,rfl,_,rfl,rfl⟩⟩
   have n1:b≠e:=fun z=>hb (by simp[z])
   have n2:b≠it:=fun z=>hb (by simp[z])
   exact (hs2.2 b n1).trans (hk b o n1 n2 eb)
  refine⟨.ref s.heap.objs.size,_,I2,rfl,⟨s.heap.objs.size,x,fun ys hy=>by rw[I.ke hy hq];exact hx,fr,rfl,rfl⟩,⟨⟨x',?_⟩,?_⟩,fun b hb=>?_⟩
  ·have e:(((i+1:Nat)):Int)=(i:Int)+1:=by lia
   rw[e];exact he2
  ·obtain⟨o,e1,r⟩:=hs'.1;exact⟨o,(hs2.2 it (Ne.symm hne)).trans e1,r⟩
  ·have n:b≠s.heap.objs.size:=by
    rcases Ki.mp hb with z|z
    ·subst z;exact hle
    ·have z:b=it:=by simpa using z
     subst z;obtain⟨o,e1,_⟩:=hit;exact K1 (Kn e1)
   rw[aj n];exact (hf b hb).1
 done:=by
  intro X hP hw hK hc i pins s σ H E I hf st hg;subst hP hw hK;obtain⟨xs,hq,hx⟩:=hg;obtain⟨⟨old,he⟩,hit⟩:=st;obtain⟨its,rv,p,hz⟩:=I.list hq;have ht:s.heap.IsList a its.toArray:=p.isList;have ha:a≠it:=by
   rintro rfl;obtain⟨o,e1,c1,_⟩:=hit;obtain⟨o',e2,c2,_⟩:=ht;rw[e1] at e2;cases e2;rw[c1] at c2;exact absurd (Value.type.inj c2) (by decide)
  have hl:=rv.length;have hsz:its.toArray.size=i:=by simp;lia
  refine OB (Draws.list (A:=X.A.in1) (I.ok.hd hc) it a ha its.toArray) he (by rw[hsz];exact⟨hit,ht⟩) fun h' eb=>⟨rfl,?_⟩
  exact I.turns (t':=s.toks) hf fun b o hb e1=>eb b o (fun z=>hb (by simp[z])) e1
 self:=fun A i s Q E st h=>by
  obtain⟨⟨old,he⟩,_⟩:=st;exact MR he h
section
variable {X:Cx} {es:List Expr} {tk:Nat} {tp:Pos}
noncomputable def B_(K:Pm)(ta:TA):TI:=fun σ H R=>ta σ H fun vs H1=>∃ a,vs=[.ref a]/\(∃ xs,cx K H1 a xs)/\R (yW K a) H1
theorem wM{e:Expr}{ta:TA}{pos:Pos}(hg:Gl X "enumerate")(hm:X.mg "enumerate"=none)(ha:PA X [e] ta)(h1:autoParam (cS e=true) ℜ0)(hv:autoParam (bootBuiltins "enumerate"=some (.type "enumerate")) ℜ6):
  PI X (.Tuple es tk tp) (.Call (.Name "enumerate" p) [e] [] pos) (B_ X.K ta):=by
 intro pins s σ H R I h;refine Call_ (fQ I hg hm hv (Ly (bS (ha pos pins s σ H _ I h) fun us s1 ⟨vs,H1,I1,r1,q1⟩=>?_) (dq h1) rfl));obtain⟨a,e,⟨xs,hq⟩,q⟩:=q1;subst e;obtain⟨u,rfl,ru⟩:=vals1 r1;cases ru;obtain⟨its,rv,pt,hz⟩:=I1.list hq;refine call_enumerate_list pt.isList fun h' he hit hsz hk=>?_;refine MR he ?_;have I2:Inv X pins σ H1 {s1 with heap:=h'}:=I1.kept (t':=s1.toks) hk
 refine⟨s1.heap.objs.size+1,[s1.heap.objs.size+1,s1.heap.objs.size],_,_,H1,rfl,I2,qG a s1.heap.objs.size (s1.heap.objs.size+1) (Mf (Oe _)),⟨⟨_,he⟩,hit⟩,fun b hb=>?_,q⟩;have hb':s1.heap.objs.size<=b:=by
  rcases Ki.mp hb with z|z
  ·rw[z];exact Mc _
  ·have z:b=s1.heap.objs.size:=by simpa using z
   rw[z];exact Kc _
 exact I1.qm hb' (I1.aO.fresh hb')
end
theorem zl{a:Addr}{ts:List T}:iS K (yW K a) (fun H B=>∃ vs,cx K H a vs/\ay K H B vs ts) (pairs ts):=by
 refine⟨fun H B i t hb ⟨vs,h,r⟩ e=>?_,fun H B ⟨vs,h,r⟩=>⟨vs,h,by rw[r.length];simp[pairs]⟩⟩
 unfold pairs at e;rw[Kg] at e;have hi:i<ts.length:=by
  rcases KR i ts.length with z|z
  ·exact z
  ·rw[K0.mpr (by simpa using z)] at e;cases e
 rw[L0 hi] at e;have e':T.tup [.int (i:Nat),(ts[i]?).getD .aC]=t:=Option.some.inj e;have et:ts[i]?=some ts[i]:=JV hi;obtain⟨v,e1,rv⟩:=r.get et;refine⟨⟨v,vs,h,e1⟩,fun x H2 y=>?_⟩;obtain⟨p,y,hy,hp,rfl,rfl⟩:=y;have:=hy vs h;rw[e1] at this;cases this;subst e';rw[et];refine⟨bL.new hp,.tup (fun z=>?_) az (.cons (.int _) (.cons (rv.fr (Fr.same (bL.new hp))) .nil))⟩;obtain⟨o,q⟩:=hb p z;rw[hp] at q;cases q
namespace Y
noncomputable def Al(us:UA):UI:=fun μ Rt=>us μ fun rs μ'=>match rs with
 |[.tr (.lst ts)]=>Rt (pairs ts) none μ'
 |_=>False
theorem BA{e:Expr}{us:UA}{pos:Pos}(K:Pm)(hK:X.K=K){k:Nat}{tp:Pos}(hg:Gl X "enumerate")(hm:X.mg "enumerate"=none)(ha:YA X [e] us)(h1:autoParam (cS e=true) ℜ0):YI X (.Tuple es k tp) (.Call (.Name "enumerate" p) [e] [] pos) (Al us):=by
 obtain⟨t,q,r⟩:=ha;subst hK;refine⟨_,⟨wM hg hm q.h h1⟩,fun F ad B σ H μ R Rt hF l q k=>r F ad B σ H μ _ _ hF l q fun vs H' rs μ' l1 ps f k1 q1=>?_⟩
 split at q1
 ·rename_i ts
  cases ps with
  |cons h1 ps =>
   cases ps;have rp:=b8 h1
   cases rp with
   |@lst a vs _ n h rr =>
    have sr:∀ H B,Rep F.K H B (.ref a) (.lst ts)->∃ vs,cx X.K H a vs/\ay X.K H B vs ts:=fun H B h=>by
     rw[hF] at h
     cases h with|lst n h r=>exact⟨_,cx.of h,r⟩
    exact⟨a,rfl,⟨vs,cx.of h⟩,k (yW X.K a) H' μ' (pairs ts) none (fun H B=>Rep F.K H B (.ref a) (.lst ts)) l1 f k1 (zl.imp sr) (.lst n h rr) (fun B1 H1 B2 H2 f h=>h.fr f) (fun j ls z=>by cases z) q1⟩
 ·exact q1.elim
end Y
namespace A
theorem Al(us:UA)(μ:Mu)(Rt:List T->Option (Nat×List T)->Mu->Prop):Y.Al us μ Rt=us μ fun rs μ'=>match rs with
 |[.tr (.lst ts)]=>Rt (pairs ts) none μ'
 |_=>False:=rfl
end A
noncomputable def w_(K:Pm)(ws:List Str)(v:Value):Prop:=∃ p,v=.ref p/\Hf K p (ws.map V.str)
structure ml (K:Pm) (a:Addr) (D:List (Str×List Str)):Prop where
 low:(a == sysModules)=false
 ex:∃ o es ep,K.lookup a=some o/\o.ExactDict/\o.data=.dict es ep/\KTD.Rows (w_ K) es.toList D
section
variable {prog:Program} {w:World} {A:Around} {E:Value->Shared->Prop} {s:Shared} {K:Pm} {a:Addr} {D:List (Str×List Str)} {k:Str} {tk:Tok}
theorem ml.typeIs(T:ml K a D)(X:K.In s.heap):s.TypeIs (.ref a) "dict":=let ⟨o,_,_,ho,hc,_⟩:=T.ex;⟨o,X _ _ ho,hc.1⟩
theorem xD{Q:Option Value->Shared->Prop}(T:ml K a D)(X:K.In s.heap)(h1:∀ d v,KTD.datumAt k D=some d->w_ K d v->Q (some v) {s with toks:=s.toks+1})(h2:KTD.datumAt k D=none->Q none {s with toks:=s.toks+1}):
  wpAny (model prog w) A (dictGet a (.str k tk)) Q E s:=by
 obtain⟨o,es,ep,ho,hc,hd,hr⟩:=T.ex;have ho:=X _ _ ho;unfold dictGet
 try with_reducible refine KP ?_
 refine JU (wpAny_pyHash_str (JU (KTD.kt_dictFind_strs (s:={s with toks:=s.toks+1}) ho hd (by obtain⟨l⟩:=es;simpa using hr.exact) ?_)))
 have hq:Q (findBy (fun k v=>v.isStr k) es k) {s with toks:=s.toks+1}:=by
  have hf:findBy (fun k v=>v.isStr k) es k=(es.toList.find? fun e=>e.key.isStr k).map (·.val):=by
   obtain⟨l⟩:=es;simp[findBy]
  rw[hf]
  cases hat:KTD.datumAt k D with
  |some d=>obtain⟨v,hv,hfl⟩:=hr.find_some hat;rw[hv];exact h1 d v hat hfl
  |none=>rw[hr.find_none hat];exact h2 hat
 rw[findBy_of_findIdx?] at hq
 cases hi:es.findIdx? fun e=>e.key.isStr k with
 |none=>rw[hi] at hq;exact Kb hq
 |some i=>rw[hi] at hq;exact JU (MT (s:={s with toks:=s.toks+1}) ho hd (Kb hq))
end
namespace Y
theorem Hn{pos:Pos}{x:Str}{k:Nat}{ps:List Str}{md:List Bool}{tsp:dE}{E:XK}(K:Pm)(hK:X.K=K)(F:ae X.prog X.w X.K X.mg X.base aU k x ps (spT K md tsp))(hr:b7 k X.A)(hg:Gl X x)(hx:Passes aU X E)(hdb:autoParam ((x ==("__debug__":Str))=false) ℜ1):
  YE X (.Call (.Name x p) [] [] pos) (CK md tsp pN):=by
 subst hK;exact⟨_,Z.Hn F hr hg hx hdb,AK (fun F ad B σ H μ Q Qt hK l q k=>k [] H [] μ l .nil Fr.refl (Kp.refl μ) q)⟩
end Y
noncomputable def gJ{α:Type}(xs:List α)(i:Nat)(y:α):List α:=xs.take i++y::xs.drop i
noncomputable def su:V->List V->Hp->VK->Prop:=fun x vs H Q=>∃ l xs i y,x=.ref l/\vs=[.int i,y]/\H l=some (.lst xs)/\0<=i/\i<2^63/\xs.length<sizeLine/\Q .aC (upd H l (.lst (gJ xs (min i.toNat xs.length) y)))
theorem uI:GS X "list.insert" su:=by
 intro pins s σ H x vs v us Q I rx rv h;obtain⟨l,xs,i,y,rfl,rfl,hH,h0,h1,hz,q⟩:=h;cases rx;obtain⟨u,w',rfl,⟨t,rfl⟩,rw'⟩:=vals2 rv;obtain⟨z,its,n,r,hl,e⟩:=I.qz hH;have hfit:¬ (!Builtin.List.listFitsIndex i)=true:=by
  have:=OM (k:=i) (by lia) h1
  rw[this];exact Ka
 refine L3 F.slot_list_insert ⟨_,e,rfl⟩ F.entry_list_insert (F.args_list_insert_3 _ _ _) (AutoSeq1.list_insert_list_int_val_1 l its.toArray n i t w' hfit (by rw[J_];lia)) ⟨e,?_⟩
 have el:its.length=xs.length:=hl.symm;refine⟨.aC,_,I.C6 (its':=gJ its (min i.toNat its.length) w') hH e ?_ ?_ ?_,rfl,q⟩
 ·show (have k:=if i<0 then _ else min i.toNat its.toArray.size;(its.toArray.extract 0 k).push w'++its.toArray.extract k)=_
  rw[JZ (by lia)]
  apply Array.toList_inj.mp;unfold gJ;simp[List.extract_eq_take_drop,LL]
 ·rw[el];unfold gJ;exact (r.take _).append (.cons rw' (r.drop _))
 ·unfold gJ;rw[JX,Kj,KO,Mg];lia
namespace Y
noncomputable def gR:UM:=fun j rs μ Q=>match rs with
 |[.tr (.int i),.tr t]=>(match (μ[j]?).bind Sl.box with
  |some (.lst ts)=>0<=i/\i<2^63/\ts.length<sizeLine/\Q (.tr .aC) (dH μ j (.lst (gJ ts (min i.toNat ts.length) t)))
  |_=>False)
 |_=>False
theorem ud:RM K su gR:=by
 intro F ad B σ H μ Q Qt j s c xs rs hF l e b ps q k;unfold gR at q
 split at q
 ·rename_i i t
  cases ps with
  |cons h1 ps=>cases ps with
   |cons h2 ps =>
    cases ps
    cases b8 h1
    have rt:=b8 h2;rw[e] at q;have q':(match s.box with|some (.lst ts)=>0<=i/\i<2^63/\ts.length<sizeLine/\Qt (.tr .aC) (dH μ j (.lst (gJ ts (min i.toNat ts.length) t)))|_=>False):=q
    rw[b] at q';rcases ((l.slot j s e).boxed b).2.2.1.is with ⟨ts,vs,rfl,hl,rv⟩|⟨_,_,_,rfl,_⟩
    case inr=>exact q'.elim
    obtain⟨h0,h1,hz,q2⟩:=(show 0<=i/\i<2^63/\ts.length<sizeLine/\_ from q');refine⟨_,vs,i,_,rfl,rfl,hl,h0,h1,by rw[rv.length];exact hz,?_⟩
    have l3:=l.put e b (show ay F.K H B (gJ vs (min i.toNat vs.length) _) (gJ ts (min i.toNat ts.length) t) from by rw[rv.length];exact (rv.take _).append (.cons rt (rv.drop _)))
    unfold dH at q2;rw[e] at q2;exact k _ _ (.tr .aC) _ (Vr.flat l3 .aC) (Fr.set ((l.slot j s e).boxed b).2.1) (Kp.set e b (Sl.jg b)) q2
 ·exact q.elim
end Y
namespace A
theorem gR(j:Nat)(i:Int)(t:T)(μ:Mu)(Q:R->Mu->Prop):Y.gR j [.tr (.int i),.tr t] μ Q=(match (μ[j]?).bind Sl.box with
  |some (.lst ts)=>0<=i/\i<2^63/\ts.length<sizeLine/\Q (.tr .aC) (dH μ j (.lst (gJ ts (min i.toNat ts.length) t)))
  |_=>False):=rfl
end A
open Builtin Builtin.Str
open PySem PySem.Spec PyProof PyProof.Rows
variable{X:Cx}{K:Pm}
inductive Ou where
 |no
 |ok (r:R)
 |ck (c:Prop) (r:R)
noncomputable def n6(o:Ou)(Q:R->Prop):Prop:=match o with
 |.no=>False
 |.ok r=>Q r
 |.ck c r=>c/\Q r
noncomputable def t9(o:Option Sl)(i:Nat):Ou:=match o with
 |some (.tr t)=>.ok (.tr t)
 |some (.bx _)=>.ok (.br i)
 |some (.pb _)=>.ok (.br i)
 |_=>.no
noncomputable def u5(a b:Option T):Ou:=match a,b with
 |some (.int i),some (.int j)=>.ok (.tr (.int (i+j)))
 |some (.str i),some (.str j)=>.ck (i.length+j.length<=sizeLine) (.tr (.str (i++j)))
 |some (.lst xs),some (.lst ys)=>.ck (xs.length+ys.length<=sizeLine) (.fr (.lst (xs++ys)))
 |some (.tup xs),some (.tup ys)=>.ck (xs.length+ys.length<=sizeLine) (.tr (.tup (xs++ys)))
 |_,_=>.no
noncomputable def oQ(o:Option T):Ou:=match o with
 |some t=>.ok (.tr t)
 |none=>.no
noncomputable def BO(a b:Option T):Ou:=match a,b with
 |some (.lst xs),some (.int i)=>oQ (bw xs i)
 |some (.tup xs),some (.int i)=>oQ (bw xs i)
 |some (.dZ xs),some (.int i)=>oQ (bw xs i)
 |some (.str z),some (.int i)=>(match bw z.cps.toList i with|some c=>.ck (z.length<=sizeLine) (.tr (.str ⟨#[c]⟩))|none=>.no)
 |_,_=>.no
noncomputable def nQ(a:T):Ou:=match a with
 |.lst xs=>.ok (.tr (.int xs.length))
 |.tup xs=>.ok (.tr (.int xs.length))
 |.ee xs=>.ok (.tr (.int xs.length))
 |.dZ xs=>.ok (.tr (.int xs.length))
 |.str z=>.ck (z.length<=sizeLine) (.tr (.int z.length))
 |_=>.no
noncomputable def Cv(a:Option T)(lo hi:Option Int):Ou:=match a with
 |some (.lst xs)=>.ok (.fr (.lst (Y.cg xs lo hi)))
 |some (.ee xs)=>.ok (.fr (.lst (Y.cg xs lo hi)))
 |some (.tup xs)=>.ok (.tr (.tup (Y.cg xs lo hi)))
 |some (.str z)=>.ck (z.length<=sizeLine) (.tr (.str (Y.eS z lo hi)))
 |_=>.no
theorem jQ(p:Prop):(True/\p)=p:=propext ⟨fun h=>h.2,fun h=>⟨trivial,h⟩⟩
theorem Iw(o:Option Sl)(i:Nat)(Q:R->Prop):n4 (C9 o i) Q=n6 (t9 o i) Q:=by
 cases o with
 |none=>rfl
 |some s=>cases s<;>first|rfl|exact jQ _
theorem Iz(a b:Option T)(Q:R->Prop):n4 (DJ a b) Q=n6 (u5 a b) Q:=by
 cases a with
 |none=>rfl
 |some a=>cases b with
  |none=>cases a<;>rfl
  |some b=>cases a<;>cases b<;>first|rfl|exact jQ _
theorem bG(a b:Option T)(Q:R->Prop):n4 (IB a b) Q=n6 (BO a b) Q:=by
 cases a with
 |none=>rfl
 |some a=>cases b with
  |none=>cases a<;>rfl
  |some b =>
   cases a<;>cases b<;>first
    |rfl
    | (rename_i xs i;show n4 (oT (bw xs i)) Q=n6 (oQ (bw xs i)) Q;cases bw xs i with|none=>rfl|some t=>exact jQ _)
    | (rename_i z i;show n4 (match bw z.cps.toList i with|some c=>some (z.length<=sizeLine,.tr (.str ⟨#[c]⟩))|none=>none) Q=n6 (match bw z.cps.toList i with|some c=>.ck (z.length<=sizeLine) (.tr (.str ⟨#[c]⟩))|none=>.no) Q;cases bw z.cps.toList i<;>rfl)
theorem Jm(a:T)(Q:R->Prop):n4 (GL a) Q=n6 (nQ a) Q:=by cases a<;>first|rfl|exact jQ _
theorem JG(a:Option T)(lo hi:Option Int)(Q:R->Prop):n4 (Y.Dt a lo hi) Q=n6 (Cv a lo hi) Q:=by
 cases a with
 |none=>rfl
 |some a=>cases a<;>first|rfl|exact jQ _
namespace Y
noncomputable def eN(i:Nat):UE:=fun μ Q=>n6 (t9 μ[i]? i) fun r=>Q r μ
noncomputable def iI:U2:=fun r1 r2 μ Q=>n6 (u5 (cont μ r1) (cont μ r2)) fun r=>Q r μ
noncomputable def yh:U2:=fun r1 r2 μ Q=>n6 (BO (cont μ r1) (cont μ r2)) fun r=>Q r μ
noncomputable def xl(t:T)(μ:Mu)(Q:R->Mu->Prop):Prop:=n6 (nQ t) fun r=>Q r μ
noncomputable def uE(ue:UE)(ul uh:UO):UE:=fun μ Q=>ue μ fun r μ1=>ul μ1 fun lo μ2=>uh μ2 fun hi μ3=>n6 (Cv (cont μ3 r.d) lo hi) fun r=>Q r μ3
noncomputable def vt(ue:UE):UI:=fun μ Rt=>ue μ fun r μ'=>EW (yF r μ') fun ts g=>Rt ts g μ'
noncomputable def Ez(n:Nat)(gs:rO):UG:=fun r μ Q=>match u6 (cont μ r.d) with|some ts=>ts.length=n/\gs ts μ Q|none=>False
noncomputable def wI(ue:UE):UT:=fun μ Q=>ue μ fun r μ'=>match xF r with|some b=>Q b μ'|none=>False
theorem IG(i:Nat):mQ i=eN i:=funext fun μ=>funext fun Q=>(A.mQ i μ Q).trans (Iw _ _ _)
theorem HE:kn=iI:=funext fun r1=>funext fun r2=>funext fun μ=>funext fun Q=>(A.kn r1 r2 μ Q).trans (Iz _ _ _)
theorem JL:qu=yh:=funext fun r1=>funext fun r2=>funext fun μ=>funext fun Q=>(A.qu r1 r2 μ Q).trans (bG _ _ _)
theorem HR:oj=xl:=funext fun t=>funext fun μ=>funext fun Q=>(A.oj t μ Q).trans (Jm _ _)
theorem JM(ue:UE)(ul uh:UO):Cz ue ul uh=uE ue ul uh:=funext fun μ=>funext fun Q=>by
 unfold Cz uE;congr 1;funext r μ1;congr 1;funext lo μ2;congr 1;funext hi μ3;exact JG _ _ _ _
theorem JS(ue:UE):BB ue=vt ue:=funext fun μ=>funext fun Rt=>A.BB ue μ Rt
theorem eT(n:Nat)(gs:rO):gT n gs=Ez n gs:=funext fun r=>funext fun μ=>funext fun Q=>A.gT n gs r μ Q
theorem Jk(ue:UE):oE ue=wI ue:=funext fun μ=>funext fun Q=>A.oE ue μ Q
theorem vS{x:Str}{pos:Pos}(i:Nat)(hN:autoParam (X.N[i]?=some x) ℜ0)(hv:autoParam (D4 X.env.scope x) ℜ4)(hd:autoParam ((x ==("__debug__":Str))=false) ℜ1)
  (hcd:autoParam ((x ==("__classdict__":Str))=false) ℜ1):YE X (.Name x pos) (eN i):=IG i ▸ v i hN hv hd hcd
theorem av:ib K (we K) iI:=HE ▸ Ca
theorem ai:ib K (Hi K) yh:=JL ▸ GK
theorem bp:RC K (ym K) (yD xl):=HR ▸ BS
theorem dS{e:Expr}{ue:UE}{p2 pos:Pos}{lo hi:Option Expr}{ul uh:UO}(K:Pm)(hK:X.K=K)(he:YE X e ue)(hl:YO X lo ul)(hu:YO X hi uh):YE X (.Subscript e (.Slice lo hi none p2) pos) (uE ue ul uh):=JM ue ul uh ▸ Cm K hK he hl hu
theorem anyS{tg e:Expr}{ue:UE}(K:Pm)(hK:X.K=K)(he:YE X e ue):YI X tg e (vt ue):=JS ue ▸ any K hK he
theorem iO{es:List Expr}{pos:Pos}(K:Pm)(hK:X.K=K){k n:Nat}{gs:rO}(hc:X.calm=true)(h:Gz X es gs)(hn:autoParam ((assignEach es X.env).length=n) ℜ0)(hst:autoParam ((assignEach es X.env).findIdx? (·.1)=none) ℜ0):YG X (.Tuple es k pos) (Ez n gs):=eT n gs ▸ D_ K hK hc h hn hst
theorem iK{a:Expr}{ua:UE}(K:Pm)(hK:X.K=K)(ha:YE X a ua)(he:autoParam (Z.He a=true) ℜ0):YT X a (wI ua):=Jk ua ▸ CT K hK ha he
end Y
namespace A3
theorem Ah(t:T):oQ (some t)=.ok (.tr t):=rfl
theorem mQ(i:Nat)(μ:Mu)(Q:R->Mu->Prop):Y.eN i μ Q=n6 (t9 μ[i]? i) fun r=>Q r μ:=rfl
theorem kn(r1 r2:R)(μ:Mu)(Q:R->Mu->Prop):Y.iI r1 r2 μ Q=n6 (u5 (cont μ r1) (cont μ r2)) fun r=>Q r μ:=rfl
theorem J9(r1 r2:R)(μ:Mu)(Q:R->Mu->Prop):Y.yh r1 r2 μ Q=n6 (BO (cont μ r1) (cont μ r2)) fun r=>Q r μ:=rfl
theorem oj(t:T)(μ:Mu)(Q:R->Mu->Prop):Y.xl t μ Q=n6 (nQ t) fun r=>Q r μ:=rfl
theorem HV(ue:UE)(ul uh:UO)(μ:Mu)(Q:R->Mu->Prop):Y.uE ue ul uh μ Q=ue μ fun r μ1=>ul μ1 fun lo μ2=>uh μ2 fun hi μ3=>n6 (Cv (cont μ3 r.d) lo hi) fun r=>Q r μ3:=rfl
theorem BB(ue:UE)(μ:Mu)(Rt:List T->Option (Nat×List T)->Mu->Prop):Y.vt ue μ Rt=ue μ fun r μ'=>EW (yF r μ') fun ts g=>Rt ts g μ':=rfl
theorem gT(n:Nat)(gs:rO)(r:R)(μ:Mu)(Q:Mu->Prop):Y.Ez n gs r μ Q=(match u6 (cont μ r.d) with|some ts=>ts.length=n/\gs ts μ Q|none=>False):=rfl
theorem oE(ue:UE)(μ:Mu)(Q:Bool->Mu->Prop):Y.wI ue μ Q=ue μ fun r μ'=>match xF r with|some b=>Q b μ'|none=>False:=rfl
theorem HG(t:T)(i:Nat):t9 (some (.tr t)) i=.ok (.tr t):=rfl
theorem HP(t:T)(i:Nat):t9 (some (.bx t)) i=.ok (.br i):=rfl
theorem HJ(t:T)(i:Nat):t9 (some (.pb t)) i=.ok (.br i):=rfl
theorem Fo(i j:Int):u5 (some (.int i)) (some (.int j))=.ok (.tr (.int (i+j))):=rfl
theorem Gv(i j:Str):u5 (some (.str i)) (some (.str j))=.ck (i.length+j.length<=sizeLine) (.tr (.str (i++j))):=rfl
theorem add_l(xs ys:List T):u5 (some (.lst xs)) (some (.lst ys))=.ck (xs.length+ys.length<=sizeLine) (.fr (.lst (xs++ys))):=rfl
theorem ID(xs:List T)(i:Int):BO (some (.lst xs)) (some (.int i))=oQ (bw xs i):=rfl
theorem HA(xs:List T)(i:Int):BO (some (.tup xs)) (some (.int i))=oQ (bw xs i):=rfl
theorem HM(xs:List T)(i:Int):BO (some (.dZ xs)) (some (.int i))=oQ (bw xs i):=rfl
theorem HD(z:Str)(i:Int):BO (some (.str z)) (some (.int i))=(match bw z.cps.toList i with|some c=>.ck (z.length<=sizeLine) (.tr (.str ⟨#[c]⟩))|none=>.no):=rfl
theorem Gd(xs:List T):nQ (.lst xs)=.ok (.tr (.int xs.length)):=rfl
theorem FQ(xs:List T):nQ (.tup xs)=.ok (.tr (.int xs.length)):=rfl
theorem Gh(xs:List T):nQ (.ee xs)=.ok (.tr (.int xs.length)):=rfl
theorem GI(z:Str):nQ (.str z)=.ck (z.length<=sizeLine) (.tr (.int z.length)):=rfl
theorem IK(xs:List T)(lo hi:Option Int):Cv (some (.lst xs)) lo hi=.ok (.fr (.lst (Y.cg xs lo hi))):=rfl
theorem IT(xs:List T)(lo hi:Option Int):Cv (some (.ee xs)) lo hi=.ok (.fr (.lst (Y.cg xs lo hi))):=rfl
theorem Iv(xs:List T)(lo hi:Option Int):Cv (some (.tup xs)) lo hi=.ok (.tr (.tup (Y.cg xs lo hi))):=rfl
theorem IZ(z:Str)(lo hi:Option Int):Cv (some (.str z)) lo hi=.ck (z.length<=sizeLine) (.tr (.str (Y.eS z lo hi))):=rfl
end A3
open Builtin Builtin.Str
open PySem PySem.Spec PyProof PyProof.Rows
variable{Q:Value->Shared->Prop}{X:Cx}{body e o:Expr}{D:List (Str×List Str)}{ue:UE}{q x:Str}{p:Array Nat}{K:Pm}{a b c:List Nat}{e1 ep i j k m n:Nat}{y:Int×Int}{α:Type}{l prs:List (Int×Int)}{G:Nat×Array Nat->Shared->Prop}{s:Shared}{A:Around}{N:List Str}{σf:List (Option V)}{scope:Scope}{c' f kS:Addr}{cl:List (Str×Addr)}{params:Arguments}{ctv pm:Value}{H H1:Hp}{h h':Heap}{P:PySem.Fin->Shared->Prop}{us vs:List Value}{kz:List Int}{xs:List V}{apos kpos lpos:Pos}{mg:Str->Option Value}{w:World}{es:Array DictEntry}{prog:Program}
noncomputable def uT(ks:List Str)(us:List T):List T:=List.zipWith (fun k u=>T.tup [.str k,u]) ks us
section
variable {prog:Program} {w:World} {A:Around} {E:Value->Shared->Prop} {s:Shared} {K:Pm} {a:Addr} {D:List (Str×List Str)} {k:Str} {tk:Tok}
theorem tF{ws:List Str}(T:ml K a D)(X:K.In s.heap)(hk:KTD.datumAt k D=some ws)(h:∀ v,w_ K ws v->Q v {s with toks:=s.toks+1}):wpAny (model prog w) A (getItem (.ref a) (.str k tk)) Q E s:=by
 have hT:=T.typeIs X;unfold getItem
 try with_reducible refine KP ?_
 refine JU (wpAny_sequenceKey hT (by decide) ?_)
 refine JU (Le (name:=Str.ofString "__getitem__") hT PySem.F.slot_dict_getitem
  (Lh PySem.F.slot_dict_getitem hT PySem.F.entry_dict_getitem ?_ (args_dict_getitem _ _)))
 show wpAny _ _ (dictGet a (.str k tk) >>= _) _ _ s;refine JU (xD T X (fun d v e r=>?_) fun e=>?_)
 ·rw[hk] at e;cases e;exact Kb ⟨v,rfl,Kb (h v r)⟩
 ·rw[hk] at e;cases e
end
noncomputable def Ie(K:Pm)(D:List (Str×List Str))(te:TE):TE:=fun σ H Q=>te σ H fun y H1=>∃ k ws,y=.str k/\KTD.datumAt k D=some ws/\∀ p,Hf K p (ws.map V.str)->Q (.ref p) H1
theorem Ct{te:TE}{pos:Pos}{d:Addr}(ho:PE X o (tC (.ref d)))(hD:ml X.K d D)(he:PE X e te)(hs:Ds e):PE X (.Subscript o e pos) (Ie X.K D te):=by
 intro pins s σ H Q I h;refine zK PySem.F.slot_dict_getitem.lookup hs (bS (ho pins s σ H (fun v H'=>v=.ref d/\H'=H) I ⟨rfl,rfl⟩) fun u s1 ⟨x,H1,I1,rx,ex,eh⟩=>?_);subst ex eh;obtain rfl:u=Value.ref d:=rx;refine bS (he pins s1 σ H1 _ I1 h) fun iv s2 ⟨y,H2,I2,ry,k,ws,ek,e1,q⟩=>?_;subst ek;obtain⟨t,rfl⟩:=ry;refine⟨hD.typeIs I2.h8,tF hD I2.h8 e1 fun v r=>?_⟩;obtain⟨p,rfl,r⟩:=r;exact⟨.ref p,H2,I2.tok _,rfl,q p r⟩
namespace Y
noncomputable def AG(D:List (Str×List Str))(ue:UE):UE:=fun μ Q=>ue μ fun r μ'=>match r with
 |.tr (.str k)=>(match KTD.datumAt k D with
  |some ws=>Q (.tr (.dZ (ws.map T.str))) μ'
  |none=>False)
 |_=>False
theorem J5{pos p:Pos}(K:Pm)(hK:X.K=K)(hg:Gl X x)(hd:∃ d,X.mg x=some (.ref d)/\ml K d D)(he:YE X e ue)(hs:Ds e:=by exact fun _ _=>rfl)(hdb:autoParam ((x ==("__debug__":Str))=false) ℜ1):
  YE X (.Subscript (.Name x p) e pos) (AG D ue):=by
 obtain⟨t,q,r⟩:=he;obtain⟨d,hm,hd⟩:=hd;subst hK;refine⟨_,⟨Ct (mh hg hm rfl hdb) hd q.h hs⟩,fun F ad B σ H μ Q Qt hF l q k=>r F ad B σ H μ _ _ hF l q fun v H' r1 μ' v1 f k1 q1=>?_⟩
 split at q1
 ·rename_i z;obtain⟨l1,rp⟩:=v1;cases rp
  cases e1:KTD.datumAt z D with
  |none=>rw[e1] at q1;exact q1.elim
  |some ws =>
   rw[e1] at q1;exact⟨z,ws,rfl,e1,fun p kt=>k _ H' (.tr (.dZ (ws.map T.str))) μ' ⟨l1,.dZ (by rw[hF];exact kt) (kP ws)⟩ f.d k1 q1⟩
 ·exact q1.elim
end Y
namespace A
theorem AG(D:List (Str×List Str))(ue:UE)(μ:Mu)(Q:R->Mu->Prop):Y.AG D ue μ Q=ue μ fun r μ'=>match r with
 |.tr (.str k)=>(match KTD.datumAt k D with
  |some ws=>Q (.tr (.dZ (ws.map T.str))) μ'
  |none=>False)
 |_=>False:=rfl
end A
namespace Y
noncomputable def xc:V->List V->Hp->VK->Prop:=fun x vs H Q=>∃(z y:Str) (i:Nat) (rest:List Nat),x=.str z/\vs=[.str y]/\Builtin.Str.occurrences z y 0 z.length 1=i::rest/\Q (.int (i:Nat)) H
theorem xb:rJ X "str.index" xc:=by
 intro pins s σ H x xs v us Q I rx rs h;obtain⟨z,y,i,rest,rfl,rfl,ho,q⟩:=h;obtain⟨t,rfl⟩:=rx;obtain⟨u,rfl,k,rfl⟩:=vals1 rs;exact SC.index ho ⟨.int _,H,I.tok _,⟨_,rfl⟩,q⟩
noncomputable def jo:By:=fun z rs μ Q=>match rs with
 |[.tr (.str y)]=>∃(i:Nat) (rest:List Nat),Builtin.Str.occurrences z y 0 z.length 1=i::rest/\Q (.tr (.int (i:Nat))) μ
 |_=>False
theorem xE:Fv K xc jo:=by
 intro F ad B σ H μ Q Qt z xs rs hF l ps q k;unfold jo at q
 split at q
 ·cases ps with
  |cons h ps =>
   cases ps
   cases b8 h
   obtain⟨i,rest,ho,q⟩:=q;exact⟨z,_,i,rest,rfl,rfl,ho,k _ H _ μ (Vr.flat l (.int _)) Fr.refl (Kp.refl μ) q⟩
 ·exact q.elim
noncomputable def Fn:V->List V->Hp->VK->Prop:=fun x vs H Q=>∃(a:Addr) (ws:List Str) (k:Str) (j:Nat),x=.ref a/\H a=some (.lst (ws.map V.str))/\vs=[.str k]/\ws[j]?=some k/\(∀ m,m<j->ws[m]?≠some k)/\Q (.int (j:Nat)) H
theorem rD:GS X "list.index" Fn:=by
 intro pins s σ H x xs v us Q I rx rs h;obtain⟨a,ws,k,j,rfl,hH,rfl,hj,hno,q⟩:=h;cases rx;obtain⟨u,rfl,t,rfl⟩:=vals1 rs;obtain⟨z,its,n,r,hl,e⟩:=I.qz hH;obtain⟨t',hit⟩:=gX r j k hj;have hjl:j<ws.length:=(Kf.mp hj).1;rw[JY] at z hl;have hji:j<its.toArray.size:=by rw[J_];lia
 have sz:(sizeLine:Int)<2^63-1:=by decide
 have hje:its.toArray[j]=.str k t':=by
  have:its.toArray[j]?=some (.str k t'):=by rw[Lm];exact hit
  exact (KJ.mp this).2
 have hall:∀(m:Nat) (hm:m<its.toArray.size),∃ y ty,its.toArray[m]=.str y ty/\ws[m]?=some y:=fun m hm=>by
  have hm':m<ws.length:=by rw[J_] at hm;lia
  have e1:=JV hm';obtain⟨ty,hy⟩:=gX r m _ e1;have:its.toArray[m]?=some (.str ws[m] ty):=by rw[Lm];exact hy
  exact⟨_,ty,(KJ.mp this).2,e1⟩
 refine L3 PySem.F.slot_list_index ⟨_,e,rfl⟩ PySem.F.entry_list_index (PySem.F.args_list_index_2 _ _) (SeqAt.list_indexAt a its.toArray n none _ (.str k t) (fun y=>match y with|.str y _=>y == k|_=>false) j hji (by lia) (by rw[hje];exact Mh k) fun m hm hmj=>?_) ⟨e,fun y hy=>?_,⟨.int (j:Nat),H,I.tok _,⟨_,rfl⟩,q⟩⟩
 ·obtain⟨y,ty,ey,ew⟩:=hall m hm;rw[ey];exact Lp.mpr fun z=>hno m hmj (by rw[ew,z])
 ·obtain⟨m,hm,rfl⟩:=Array.mem_iff_getElem.mp hy;obtain⟨y,ty,ey,ew⟩:=hall m hm;rw[ey];exact SeqAt.EqAt.str_str _ _ _ _
end Y
namespace A
theorem jo(z y:Str)(μ:Mu)(Q:R->Mu->Prop):Y.jo z [.tr (.str y)] μ Q=(∃(i:Nat) (rest:List Nat),Builtin.Str.occurrences z y 0 z.length 1=i::rest/\Q (.tr (.int (i:Nat))) μ):=rfl
end A
open PySem PySem.Spec PyProof PyProof.Rows PySem.W
namespace SP
section
variable (k:Nat->Int)
noncomputable def R(i j:Nat):Prop:=k i<k j\/(k i=k j/\i<j)
variable {k}
theorem R.le{a b:Nat}(h:R k a b):k a<=k b:=by unfold R at h;lia
end
structure PI (n m:Nat) (p:Array Nat) (a:List Nat):Prop where
 eq:p.toList=a++List.range' m (n-m)
 perm:a.Perm (List.range m)
 le:m<=n
section
variable {n m:Nat} {p:Array Nat} {a:List Nat}
theorem PI.len(h:PI n m p a):a.length=m:=by rw[h.perm.length_eq,Ky]
theorem PI.lt(h:PI n m p a){x:Nat}(hx:x∈a):x<m:=LI.mp (h.perm.mem_iff.mp hx)
theorem PI.size(h:PI n m p a):p.size=n:=by
 have:=h.len;have:=h.le;rw[<- KC,h.eq,JX,Lu,h.len];lia
theorem PI.at(h:PI n m p a){x:Nat}(hi:a[i]?=some x):p.getD i 0=x:=by
 have:p[i]?=some x:=by
  rw[<- K5,h.eq,LY (Kf.mp hi).1];exact hi
 rw[NA,this];rfl
theorem PI.nx(h:PI n m p a)(hm:m<n):p.getD m 0=m:=by
 have:p[m]?=some m:=by
  rw[<- K5,h.eq,L1 (by rw[h.len];exact Kc m),h.len,M8,List.getElem?_range' (by lia)];simp
 rw[NA,this];rfl
theorem PI.step(h:PI n m p a)(hm:m<n):PI n (m+1) p (a++[m]):=by
 refine⟨?_,?_,hm⟩
 ·rw[h.eq,Ku,show n-m=(n-(m+1))+1 by lia,Lj];rfl
 ·rw[Mz];exact h.perm.append_right [m]
theorem PI.last(h:PI n m p a){y:Nat}(e:a=b++[y]):p.getD (m-1) 0=y:=by
 refine h.at ?_;have:=h.len;rw[e,JX] at this;simp only[Kj,K8] at this;rw[e,L1 (by lia),show m-1-b.length=0 by lia];rfl
end
theorem wj{xs:Array α}{l:Nat}{y:α}(hy:xs[k]?=some y)(hl:l<=k):(bubble xs k (k-l)).toList=xs.toList.take l++y::(xs.toList.drop l).take (k-l)++xs.toList.drop (k+1):=by
 have hk:k<xs.size:=(KJ.mp hy).1;have hL:xs.toList.length=xs.size:=by simp
 apply LC;intro i;rw[K5,getElem?_bubble hk _ (by lia),show k-(k-l)=l by lia]
 rw[Ku,M9];have ht:(xs.toList.take l).length=l:=by rw[KO];lia
 rw[ht];by_cases h1:i<l
 ·rw[Ke h1,JZ (by lia),JZ (by lia),M0,Ke h1,K5]
 ·rw[JZ h1];by_cases h2:i=l
  ·subst h2;rw[Ke rfl,M8,hy];rfl
  ·rw[JZ h2,show i-l=(i-l-1)+1 by lia,Mk,Oy,M9]
   have hm:((xs.toList.drop l).take (k-l)).length=k-l:=by rw[KO,Mg];lia
   rw[hm];by_cases h3:i-l-1<k-l
   ·rw[Ke h3,Ke (by lia),M0,Ke h3,L4,K5]
    congr 1;lia
   ·rw[JZ h3,JZ (by lia),L4,K5]
    congr 1;lia
theorem yx{xs:Array α}(hi:i<=j)(hj:j<=xs.size):(mirror xs i j ((j-i) / 2)).toList=xs.toList.take i++((xs.toList.drop i).take (j-i)).reverse++xs.toList.drop j:=by
 have hL:xs.toList.length=xs.size:=by simp
 apply LC;intro k;rw[K5,getElem?_mirror_all hj,Ku,M9];have ht:(xs.toList.take i).length=i:=by rw[KO];lia
 have hm:((xs.toList.drop i).take (j-i)).length=j-i:=by rw[KO,Mg];lia
 rw[ht];by_cases h1:k<i
 ·rw[Ke h1,JZ (by lia),M0,Ke h1,K5]
 ·rw[JZ h1,M9,Mp,hm];by_cases h2:k<j
  ·rw[Ke (by lia),Ke (by lia),List.getElem?_reverse (by lia),hm,M0,Ke (by lia),L4,K5]
   congr 1;lia
  ·rw[JZ (by lia),JZ (by lia),L4,K5]
   congr 1;lia
theorem PI.rev(h:PI n m p (b++c)):PI n m (kas_rev p b.length m) (b++c.reverse):=by
 have hl:b.length+c.length=m:=by rw[<- h.len,JX]
 refine⟨?_,((List.reverse_perm c).append_left b).trans h.perm,h.le⟩;unfold kas_rev;rw[yx (by lia) (by rw[h.size];exact h.le),h.eq,Ku b c,List.take_left,L6,show m-b.length=c.length by lia,List.take_left,<- Ku b c,List.drop_left' (by rw[JX];exact hl)]
theorem mZ(h:a.length=m)(hm:1<=m):∃ b y,a=b++[y]:=by
 rcases OR a with rfl|⟨b,y,rfl⟩
 ·cases h;exact absurd hm (by decide)
 ·exact⟨b,y,by simp⟩
section
variable {k:Nat->Int} {n:Nat} {cmp:Nat->Nat->(Bool->Shared->Prop)->Shared->Prop} {I:Shared->Prop}
noncomputable def ow(k:Nat->Int)(n:Nat)(cmp:Nat->Nat->(Bool->Shared->Prop)->Shared->Prop)(I:Shared->Prop):Prop:=∀ i j C s,i<n->j<n->I s->(∀ s',I s'->C (decide (k i<k j)) s')->cmp i j C s
theorem pR(hc:ow k n cmp I){G:Nat->Shared->Prop}:∀(f m:Nat) (a:List Nat) (s:Shared),PI n m p a->1<=m->f=n-m->a.Pairwise (R k)->I s ->
  (∀ m' a' s',PI n m' p a'->m<=m'->a'.Pairwise (R k)->I s'->(∀ b y,a'=b++[y]->m'<n->k m'<k y)->G m' s')->(kas_asc p f m).kasWp cmp G s
 |0,m,a,s,h,h1,hf,hp,hI,g=>g m a s h (Kc m) hp hI fun _ _ _ hl=>by have:=h.le;lia
 |f+1,m,a,s,h,h1,hf,hp,hI,g=>by
  have hm:m<n:=by lia
  obtain⟨b,y,e⟩:=mZ h.len h1;show cmp (p.getD m 0) (p.getD (m-1) 0) _ s;rw[h.nx hm,h.last e];have hy:y<m:=h.lt (by rw[e];simp)
  refine hc m y _ s hm (by lia) hI fun s' hI'=>?_
  by_cases c:k m<k y
  ·rw[KY c];exact g m a s' h (Kc m) hp hI' fun b' y' e' _=>by
    rw[e] at e';have:[y]=[y']:=(List.append_inj' e' rfl).2
    cases this;exact c
  ·rw[Kv c];refine pR hc f (m+1) (a++[m]) s' (h.step hm) (by lia) (by lia) ?_ hI' fun m' a' s2 h' hm' hp' hI2 gl=>g m' a' s2 h' (by lia) hp' hI2 gl
   refine Lo.mpr ⟨hp,by simp,fun x hx z hz=>?_⟩
   rw[Ko.mp hz];have hxm:=h.lt hx;have:k x<=k y:=by
    rw[e] at hx hp;rcases KZ.mp hx with hx|hx
    ·exact ((Lo.mp hp).2.2 x hx y (by simp)).le
    ·rw[Ko.mp hx];exact MV _
   unfold R;lia
structure DI (k:Nat->Int) (b c:List Nat):Prop where
 CS:b.Pairwise fun x y=>R k y x
 less:∀ y∈b,∀ x∈c,k x<k y
 one:∀ x∈c,∀ y∈c,k x=k y
 up:c.Pairwise (· < ·)
theorem DI.rise(h:DI k b c):(b++c.reverse).reverse.Pairwise (R k):=by
 rw[N3,Nt];refine Lo.mpr ⟨?_,Ng.mpr h.CS,fun x hx y hy=>.inl (h.less y (Ml.mp hy) x hx)⟩;exact Ol (fun {x y} hx hy hl=>.inr ⟨h.one x hx y hy,hl⟩) h.up
theorem DI.next{x:Nat}(h:DI k b c)(hc:c≠[])(hx:∀ y∈c,k x<k y):DI k (b++c.reverse) [x]:=by
 refine⟨Lo.mpr ⟨h.CS,Ng.mpr (Ol (fun {x y} hx hy hl=>.inr ⟨h.one x hx y hy,hl⟩) h.up),fun y hy z hz=>.inl (h.less y hy z (Ml.mp hz))⟩,fun y hy z hz=>?_,fun y hy z hz=>?_,by simp⟩
 ·rw[Ko.mp hz];rcases KZ.mp hy with hy|hy
  ·obtain⟨w,hw⟩:=NW c hc;exact Int.lt_trans (hx w hw) (h.less y hy w hw)
  ·exact hx y (Ml.mp hy)
 ·rw[Ko.mp hy,Ko.mp hz]
theorem DI.more{x:Nat}(h:DI k b c)(he:∀ y∈c,k x=k y)(hc:c≠[])(hl:∀ y∈c,y<x):DI k b (c++[x]):=by
 refine⟨h.CS,fun y hy z hz=>?_,fun y hy z hz=>?_,Lo.mpr ⟨h.up,by simp,fun y hy z hz=>by rw[Ko.mp hz];exact hl y hy⟩⟩
 ·rcases KZ.mp hz with hz|hz
  ·exact h.less y hy z hz
  ·rw[Ko.mp hz];obtain⟨w,hw⟩:=NW c hc;rw[he w hw];exact h.less y hy w hw
 ·rcases KZ.mp hy with hy|hy<;>rcases KZ.mp hz with hz|hz
  ·exact h.one y hy z hz
  ·rw[Ko.mp hz];exact (he y hy).symm
  ·rw[Ko.mp hy];exact he z hz
  ·rw[Ko.mp hy,Ko.mp hz]
theorem jh(hc:ow k n cmp I){G:Array Nat×Nat×Nat->Shared->Prop}:∀(f:Nat) (p:Array Nat) (m q:Nat) (b c:List Nat) (s:Shared),PI n m p (b++c)->c.length=q+1->DI k b c->f=n-m->I s ->
  (∀ p' m' q' b' c' s',PI n m' p' (b'++c')->c'.length=q'+1->DI k b' c'->I s'->G (p',m',q') s')->(kas_desc f p m q).kasWp cmp G s
 |0,p,m,q,b,c,s,h,hl,hd,hf,hI,g=>g p m q b c s h hl hd hI
 |f+1,p,m,q,b,c,s,h,hl,hd,hf,hI,g=>by
  have hm:m<n:=by lia
  obtain⟨c0,y,e⟩:=mZ hl (by lia)
  have hbl:b.length+(q+1)=m:=by rw[<- hl,<- JX,h.len]
  have ne:c≠[]:=by rw[e];simp
  have hy:y∈c:=by rw[e];simp
  have hya:y<m:=h.lt (K2 _ hy);have e1:p.getD m 0=m:=h.nx hm;have e2:p.getD (m-1) 0=y:=h.last (b:=b++c0) (by rw[e,Ku])
  show cmp (p.getD m 0) (p.getD (m-1) 0) _ s;rw[e1,e2];refine hc m y _ s hm (by lia) hI fun s' hI'=>?_
  by_cases c1:k m<k y
  ·rw[KY c1];have hx:∀ z∈c,k m<k z:=fun z hz=>by rw[hd.one z hz y hy];exact c1
   show KasT.kasWp cmp (if q > 0 then _ else _) G s'
   by_cases hq:q > 0
   ·rw[Ke hq,show m-(q+1)=b.length by lia]
    exact jh hc f _ (m+1) 0 (b++c.reverse) [m] s' (h.rev.step hm) rfl (hd.next ne hx) (by lia) hI' g
   ·rw[JZ hq];have e3:c.reverse=c:=by
     have:c.length=1:=by lia
     obtain⟨z,rfl⟩:=OD.mp this;rfl
    exact jh hc f p (m+1) 0 (b++c.reverse) [m] s' (by rw[e3];exact h.step hm) rfl (hd.next ne hx) (by lia) hI' g
  ·rw[Kv c1];show cmp y m _ s';refine hc y m _ s' (by lia) hm hI' fun s2 hI2=>?_
   by_cases c2:k y<k m
   ·rw[KY c2];exact g p m q b c s2 h hl hd hI2
   ·rw[Kv c2];refine jh hc f p (m+1) (q+1) b (c++[m]) s2 (by rw[<- Ku];exact h.step hm) (by rw[JX,hl];rfl) (hd.more (fun z hz=>?_) ne fun z hz=>h.lt (K2 _ hz)) (by lia) hI2 g
    rw[hd.one z hz y hy];lia
theorem sQ(hc:ow k n cmp I)(h:PI n m p a)(h1:1<=m)(hr:a.reverse.Pairwise (R k))(hI:I s)
  (g:∀ m' p' a' s',PI n m' p' a'->1<=m'->a'.Pairwise (R k)->I s'->G (m',p') s'):(kas_tail3 m n p).kasWp cmp G s:=by
 unfold kas_tail3;rw[MH];have hv:=PI.rev (b:=[]) (c:=a) h;exact pR hc (n-m) m a.reverse s hv h1 rfl hr hI fun m' a' s' h' hm' hp' hI' _=>g m' _ a' s' h' (by lia) hp' hI'
theorem sJ(hc:ow k n cmp I)(h:PI n m p a)(hm:m<n)(hd:DI k a [m])(hI:I s)
  (g:∀ m' p' a' s',PI n m' p' a'->1<=m'->a'.Pairwise (R k)->I s'->G (m',p') s'):(kas_descPart m n p).kasWp cmp G s:=by
 unfold kas_descPart;rw[MH];refine jh hc (n-(m+1)) p (m+1) 0 a [m] s (h.step hm) rfl hd rfl hI fun p' m' q' b' c' s' h' hl' hd' hI'=>?_;have hbl:b'.length+(q'+1)=m':=by rw[<- hl',<- JX,h'.len]
 show KasT.kasWp cmp (if q' > 0 then _ else _) G s'
 by_cases hq:q' > 0
 ·rw[Ke hq];show (kas_tail3 m' n (kas_rev p' (m'-(q'+1)) m')).kasWp cmp G s';rw[show m'-(q'+1)=b'.length by lia]
  exact sQ hc h'.rev (by lia) hd'.rise hI' g
 ·rw[JZ hq];have e3:c'.reverse=c':=by
   have:c'.length=1:=by lia
   obtain⟨z,rfl⟩:=OD.mp this;rfl
  exact sQ hc h' (by lia) (by rw[<- e3];exact hd'.rise) hI' g
theorem wR(hc:ow k n cmp I)(hn:1<=n)(hI:I s)
  (g:∀ m' p' a' s',PI n m' p' a'->1<=m'->a'.Pairwise (R k)->I s'->G (m',p') s'):(kas_count n (List.toArray (List.range n))).kasWp cmp G s:=by
 unfold kas_count;rw[MH];have h0:PI n 1 (List.toArray (List.range n)) [0]:=by
  refine⟨?_,List.Perm.refl _,hn⟩;show List.range n=[0]++List.range' 1 (n-1);rw[Lw,show n=(n-1)+1 by lia,Lj];rfl
 refine pR hc (n-1) 1 [0] s h0 (Kc 1) rfl (by simp) hI fun m a s' h hm hp hI' gl=>?_
 show KasT.kasWp cmp (if (m == n)=true then _ else _) G s'
 by_cases e:m=n
 ·subst e;rw[Ke (Mh m)];exact g m _ a s' h hm hp hI'
 ·rw[JZ (by simpa using e)]
  have hmn:m<n:=by have:=h.le;lia
  obtain⟨b,y,ea⟩:=mZ h.len hm;have ky:=gl b y ea hmn;have hya:y<m:=h.lt (by rw[ea];simp)
  by_cases h2:m > 1
  ·rw[Ke h2];obtain⟨x,r,ex⟩:∃ x r,a=x::r:=by
    cases a with
    |nil=>have:=h.len;rw[K8] at this;lia
    |cons x r=>exact⟨x,r,rfl⟩
   have hxa:x<m:=h.lt (by rw[ex];simp)
   show cmp ((List.toArray (List.range n)).getD 0 0) ((List.toArray (List.range n)).getD (m-1) 0) _ s';rw[h.at (i:=0) (x:=x) (by rw[ex];rfl),h.last ea]
   refine hc x y _ s' (by lia) (by lia) hI' fun s2 hI2=>?_
   by_cases c:k x<k y
   ·rw[KY c];exact g m _ a s2 h hm hp hI2
   ·rw[Kv c];have hv:=PI.rev (b:=[]) (c:=a) h;refine sJ hc hv hmn ⟨Ng.mpr hp,fun z hz w hw=>?_,fun z hz w hw=>by rw[Ko.mp hz,Ko.mp hw],by simp⟩ hI2 g
    rw[Ko.mp hw];have hz':=Ml.mp hz;have hxz:k x<=k z:=by
     rw[ex] at hz' hp;rcases Ki.mp hz' with rfl|hz'
     ·exact MV _
     ·exact ((K7.mp hp).1 z hz').le
    lia
  ·rw[JZ h2];have hm1:m=1:=by lia
   have hb:b=[]:=by
    have:=h.len;rw[ea,JX,hm1] at this;simp only[Kj,K8] at this;exact Oz.mp (by lia)
   subst hb;refine sJ hc h hmn ⟨by rw[ea];simp,fun z hz w hw=>?_,fun z hz w hw=>by rw[Ko.mp hz,Ko.mp hw],by simp⟩ hI' g
   rw[Ko.mp hw];rw[ea] at hz;rw[Ko.mp hz];exact ky
theorem j7(hc:ow k n cmp I){G:Nat->Shared->Prop}{t:Nat}(h:PI n t p a)(ht:t<n)(hp:a.Pairwise (R k)):∀(f l r:Nat) (s:Shared),l<=r->r<=t->r-l<=f->(∀ i x,i<l->a[i]?=some x->k x<=k t)->(∀ i x,r<=i->a[i]?=some x->k t<k x)->I s ->
  (∀ l' s',l'<=t->(∀ i x,i<l'->a[i]?=some x->k x<=k t)->(∀ i x,l'<=i->a[i]?=some x->k t<k x)->I s'->G l' s')->(kas_place p t f l r).kasWp cmp G s
 |0,l,r,s,h1,h2,h3,hlo,hhi,hI,g=>g l s (by lia) hlo (fun i x hi e=>hhi i x (by lia) e) hI
 |f+1,l,r,s,h1,h2,h3,hlo,hhi,hI,g=>by
  show KasT.kasWp cmp (if l >= r then _ else _) G s
  by_cases hlr:l >= r
  ·rw[Ke hlr];exact g l s (by lia) hlo (fun i x hi e=>hhi i x (by lia) e) hI
  ·rw[JZ hlr];have hmid:(l+r) / 2<a.length:=by rw[h.len];lia
   have em:a[(l+r) / 2]?=some a[(l+r) / 2]:=JV hmid;have hma:a[(l+r) / 2]<t:=h.lt (K3 hmid);have mono:∀ i j x y,i<=j->a[i]?=some x->a[j]?=some y->k x<=k y:=fun i j x y hij ex ey=>by
    rcases KR i j with c|c
    ·obtain⟨hi,rfl⟩:=Kf.mp ex;obtain⟨hj,rfl⟩:=Kf.mp ey;exact (MI.mp hp i j hi hj c).le
    ·have:i=j:=Nat.le_antisymm hij c;subst this;rw[ex] at ey;cases ey;exact MV _
   show cmp (p.getD t 0) (p.getD ((l+r) / 2) 0) _ s;rw[h.nx ht,h.at em];refine hc t _ _ s ht (by lia) hI fun s' hI'=>?_
   by_cases c:k t<k a[(l+r) / 2]
   ·rw[KY c];exact j7 hc h ht hp f l ((l+r) / 2) s' (by lia) (by lia) (by lia) hlo (fun i x hi e=>Int.lt_of_lt_of_le c (mono _ i _ x hi em e)) hI' g
   ·rw[Kv c];exact j7 hc h ht hp f ((l+r) / 2+1) r s' (by lia) h2 (by lia) (fun i x hi e=>Int.le_trans (mono i _ x _ (by lia) e em) (by lia)) hhi hI' g
theorem vY(hc:ow k n cmp I){G:Array Nat->Shared->Prop}:∀(f:Nat) (p:Array Nat) (t:Nat) (a:List Nat) (s:Shared),PI n t p a->a.Pairwise (R k)->f=n-t->I s ->
  (∀ p' a' s',PI n n p' a'->a'.Pairwise (R k)->I s'->G p' s')->(kas_bin f p t).kasWp cmp G s
 |0,p,t,a,s,h,hp,hf,hI,g=>by
  have:t=n:=by have:=h.le;lia
  subst this;exact g p a s h hp hI
 |f+1,p,t,a,s,h,hp,hf,hI,g=>by
  have ht:t<n:=by lia
  show KasT.kasWp cmp ((kas_place p t t 0 t).bind _) G s;rw[MH];refine j7 hc h ht hp t 0 t s (KN _) (Kc _) (by lia) (fun i x hi _=>absurd hi (O4 i)) (fun i x hi e=>?_) hI fun l s' hl hlo hhi hI'=>?_
  ·have:=(Kf.mp e).1;rw[h.len] at this;lia
  ·have et:p[t]?=some t:=by
    rw[<- K5,h.eq,L1 (by rw[h.len];exact Kc t),h.len,M8,List.getElem?_range' (by lia)];simp
   have hla:l<=a.length:=by rw[h.len];exact hl
   have e1:(bubble p t (t-l)).toList=(a.take l++t::a.drop l)++List.range' (t+1) (n-(t+1)):=by
    rw[wj et hl,h.eq,List.take_append_of_le_length hla,List.drop_append_of_le_length hla,show n-t=(n-(t+1))+1 by lia,Lj]
    have e2:(a.drop l).length=t-l:=by rw[Mg,h.len]
    have e3:∀ r:List Nat,(a++t::r).drop (t+1)=r:=fun r=>by
     rw[show a++t::r=(a++[t])++r by simp]
     exact List.drop_left' (by rw[JX,h.len];rfl)
    rw[O5 e2,e3]
   have hP:PI n (t+1) (bubble p t (t-l)) (a.take l++t::a.drop l):=by
    refine⟨e1,?_,ht⟩;have:(a.take l++t::a.drop l).Perm (a++[t]):=by
     have h1:(a.take l++t::a.drop l).Perm (t::(a.take l++a.drop l)):=Nd;rw[LU] at h1;exact h1.trans (List.perm_append_singleton t a).symm
    rw[Mz];exact this.trans (h.perm.append_right [t])
   refine vY hc f _ (t+1) _ s' hP ?_ (by lia) hI' g
   have hp1:=(LU l a) ▸ hp;obtain⟨q1,q2,q3⟩:=Lo.mp hp1;refine Lo.mpr ⟨q1,K7.mpr ⟨fun x hx=>?_,q2⟩,fun x hx y hy=>?_⟩
   ·obtain⟨i,hi⟩:=Nh.mp hx;rw[L4] at hi;exact .inl (hhi (l+i) x (by lia) hi)
   ·rcases Ki.mp hy with rfl|hy
    ·obtain⟨i,hi⟩:=Nh.mp hx;rw[M0] at hi
     split at hi
     ·rename_i hil;have:=hlo i x hil hi;have hxt:=h.lt (List.mem_of_mem_take hx);unfold R;lia
     ·cases hi
    ·exact q3 x hx y hy
theorem rQ(hc:ow k n cmp I){G:Array Nat->Shared->Prop}(hn:1<=n)(hI:I s)(g:∀ p s',p.toList.Perm (List.range n)->p.toList.Pairwise (R k)->I s'->G p s'):(kas_sort n).kasWp cmp G s:=by
 unfold kas_sort;rw[MH];have fin:∀ p a s',PI n n p a->a.Pairwise (R k)->I s'->G p s':=fun p a s' h hp hI'=>by
  have e:p.toList=a:=by rw[h.eq,M8,List.range'_zero,Kw]
  refine g p s' ?_ ?_ hI'<;>rw[e]
  ·exact h.perm
  ·exact hp
 refine wR hc hn hI fun m p a s' h h1 hp hI'=>?_;show KasT.kasWp cmp (if m<n then _ else _) G s'
 by_cases hm:m<n
 ·rw[Ke hm];show (kas_bin (n-max m 1) p (max m 1)).kasWp cmp G s';rw[show max m 1=m by lia]
  exact vY hc (n-m) p m a s' h hp rfl hI' fin
 ·rw[JZ hm];have:m=n:=by have:=h.le;lia
  subst this;exact fin p a s' h hp hI'
end
end SP
abbrev CL(qual:Str)(scope:Scope)(L f:Addr)(cd:Value)(cl:List (Str×Addr)):Env:=PySem.W.envX qual scope L f cd cl
noncomputable def sM(X:Cx)(A:Around)(N:List Str)(qual:Str)(scope:Scope)(f:Addr)(cd:Value)(cl:List (Str×Addr))(s:Shared)(H:Hp):Cx where
 prog:=X.prog
 w:=X.w
 K:=X.K
 mg:=X.mg
 base:=X.base
 A:=A.deeper (CL qual scope s.heap.objs.size f cd cl)
 N:=N
 s₀:=s
 H₀:=H
 env:=CL qual scope s.heap.objs.size f cd cl
 outer:=X.stack
 stack:=CL qual scope s.heap.objs.size f cd cl::X.stack
 ex:=[]
 calm:=true
 fn:=fun _=>false
 pn:=[]
 xe:=fun _ _=>False
section
variable {X:Cx} {pins:List (Addr×Obj)} {σ:St} {H:Hp} {s:Shared}
theorem zI(I:Inv X pins σ H s)(hA:A.frames=some X.stack)(hd:A.handled=none){qual:Str}{v:V}{u:Value}{cd:Value}{h₁:Heap}{tk:Nat}
  (hk:scope.kind=.function) (rv:RelV v u) (hloc:scope.names.lookup x=some .local) (hns:h₁.Ns s.heap.objs.size (fun y=>[(x,u)].reverse.lookup y)) (old:∀ b o,s.heap.get? b=some o->h₁.get? b=some o)
  (hlen:σf.length=N.length) (hcl:∀ y c,cl.lookup y=some c->X.env.cells.lookup y=some c) (hhas:∀ y,(scope.names.lookup y=some .cell\/scope.names.lookup y=some .free)->∃ c,cl.lookup y=some c)
  (hf:∀(i:Nat) (y:Str) (v:V),N[i]?=some y->σf[i]?=some (some v)->scope.names.lookup y=some .free/\∃ c u,cl.lookup y=some c/\s.heap.IsCell c (some u)/\RelV v u) :
  Inv (sM X A (x::N) qual scope f cd cl s H) [] (some v::σf) H {s with heap:=h₁,toks:=tk}:=by
 have noA:∀ b:Addr,b∉(sM X A (x::N) qual scope f cd cl s H).ex:=fun b z=>absurd (show b∈([]:List Addr) from z) (by simp)
 refine⟨⟨I.ok.mod,hk,rfl,rfl,Kc _,fun y z c e1 e2=>I.ok.inj y z c (hcl y c e1) (hcl z c e2),hhas,fun y c z _=>(by cases z),fun _=>hd,Around.frames_deeper hA,.inr ⟨rfl,rfl⟩,fun b z=>absurd z (noA b),I.bs,Kq I.ok.yQ I.sz,fun b _ _=>noA b,fun b z=>absurd z (noA b),I.stack,I.jd,I.ok.tabs.un I.base⟩,
  rfl,I.bare,Un.kept old,⟨_,hns,fun i y w e1 e2 e3=>?_⟩,fun y c e=>?_,I.aO.fresh (Kc _),fun y c e=>I.dY y c (hcl y c e),fun p hp=>absurd (show p∈([]:List (Addr×Obj)) from hp) (by simp),I.aO.kept old,?_⟩
 ·cases i with
  |zero =>
   have e1':some x=some y:=e1;have e2':some (some v)=some (some w):=e2
   cases e1';cases e2'
   exact⟨u,rv,.inl ⟨hloc,by simp⟩⟩
  |succ i =>
   obtain⟨h1,c,u',h2,h3,h4⟩:=hf i y w e1 e2;obtain⟨o,ho,hd'⟩:=h3;exact⟨u',h4,.inr ⟨.inr h1,c,h2,o,old _ _ ho,hd'⟩⟩
 ·obtain⟨v',o,ho,hd'⟩:=I.cell y c (hcl y c e);exact⟨v',o,old _ _ ho,hd'⟩
 ·show (some v::σf).length=(x::N).length;rw[Kj,Kj,hlen]
theorem y6(I:Inv X pins σ H s)(hr:b7 (k+1) A)(hA:A.frames=some X.stack){qual:Str}{v:V}{u:Value}{f:Addr}{t:TE}{Q:VK}
  (hk:scope.kind=.function) (hco:scope.isCoroutine=false) (hgen:scope.isGenerator=false) (hcell:∀ y∈scope.names,y.2≠.cell) (rv:RelV v u) (hloc:scope.names.lookup x=some .local)
  (ho:s.heap.get? f=some (PySem.W.kla_obj "<lambda>" qual params body scope cl pm c' ctv)) (hcd:s.heap.CodeRec (.ref c') qual)
  (hbind:∀ u,bindArgs (PySem.W.kla_fn "<lambda>" qual params body scope cl pm (.ref c') ctv) ⟨[u],[]⟩=pure [(x,u)])
  (hlen:σf.length=N.length) (hcl:∀ y c,cl.lookup y=some c->X.env.cells.lookup y=some c) (hhas:∀ y,(scope.names.lookup y=some .cell\/scope.names.lookup y=some .free)->∃ c,cl.lookup y=some c)
  (hf:∀(i:Nat) (y:Str) (v:V),N[i]?=some y->σf[i]?=some (some v)->scope.names.lookup y=some .free/\∃ c u,cl.lookup y=some c/\s.heap.IsCell c (some u)/\RelV v u)
  (hb:PE (sM X A (x::N) qual scope f (.ref c') cl s H) body t) (hq:t (some v::σf) H Q) :
  wpAny (model X.prog X.w) A (call (.ref f) [u]) (EP X pins σ Q) (fun _ _=>False) s:=by
 refine wpAny_call (PySem.W.kla_callFunE hr.depth ho rfl hco hgen rfl hcd ?_);rw[hbind];refine Kb (wpAny_newFunctionEnv hcell (fun y hy=>by rw[Ko.mp hy];exact hloc) (fun h₁ hns hsb=>⟨I.nolimit.fresh _ hsb,?_⟩) hk)
 have old:∀ b o,s.heap.get? b=some o->h₁.get? b=some o:=fun b o e=>hsb.extBut b o (K1 (Kn e)) (JW _ e);have J:=zI (tk:=s.toks+1) (qual:=qual) (f:=f) (cd:=.ref c') I hA hr.hd hk rv hloc hns old hlen hcl hhas hf;refine PySem.W.kla_codeExpr (Lg (hb [] _ _ H Q J hq) (fun w s' h=>?_) fun _ _ h=>h.elim);obtain⟨v',H',J',r',q'⟩:=h;exact I.after ⟨v',H',J'.os,J'.bare,J'.base,J'.aO,r',q'⟩
end
inductive eY:Hp->Hp->Prop
 |refl {H:Hp}:eY H H
 |more {H H1:Hp} {p:Addr} {o:HO}:eY H H1->H1 p=none->eY H (upd H1 p o)
theorem eY.same(g:eY H H1):bL H H1:=by
 induction g with
 |refl=>exact bL.refl _
 |more g n ih=>exact fun b o e=>by rw[aj (aB (ih b o e) n)];exact ih b o e
theorem eY.trans{H2:Hp}(a:eY H H1)(b:eY H1 H2):eY H H2:=by
 induction b with
 |refl=>exact a
 |more _ n ih=>exact .more ih n
theorem iN{i j:Int}{ti tj:Tok}{c:Value}:∀ l:List Value,TriplesOk l->TriplesOk (l++[.int i ti,.int j tj,c])
 |[],_=>trivial
 |.int _ _::.int _ _::_::r,h=>iN r (show TriplesOk r from h)
theorem lA{p:Pos}{i j:Int}{ti tj:Tok}{c cv:Value}:∀ l:List Value,TriplesOk l->codeAmong p (l++[.int i ti,.int j tj,c])=some cv->codeAmong p l=some cv\/cv=c
 |[],_,e=>by
  have e':(if (i == p.line && j == p.col)=true then some c else codeAmong p [])=some cv:=e
  by_cases z:(i == p.line && j == p.col)=true
  ·rw[Ke z] at e';cases e';exact .inr rfl
  ·rw[JZ z] at e';cases e'
 |.int a ta::.int b tb::d::r,h,e=>by
  have e':(if (a == p.line && b == p.col)=true then some d else codeAmong p (r++[.int i ti,.int j tj,c]))=some cv:=e
  show (if (a == p.line && b == p.col)=true then some d else codeAmong p r)=some cv\/_
  by_cases z:(a == p.line && b == p.col)=true
  ·rw[Ke z] at e' ⊢;exact .inl e'
  ·rw[JZ z] at e' ⊢;exact lA r (show TriplesOk r from h) e'
theorem rR(q:Str)(more:Array Value):vJ (#[.str q 0]++more)=q:=by
 unfold vJ;rw[ME];rfl
structure iJ (H:Hp) (f:Addr) (q:Str) (params:Arguments) (body:Expr) (scope:Scope) (cl:List (Str×Addr)) (c':Addr) (pm ctv:Value):Prop where
 fn:H f=some (.ia (PySem.W.kla_obj "<lambda>" q params body scope cl pm c' ctv) (.own f))
 cd:A_ H q (.ref c')
section
variable {X:Cx} {pins:List (Addr×Obj)} {σ:St} {H:Hp} {s:Shared} {E:Value->Shared->Prop}
theorem iJ.up(x:iJ H f q params body scope cl c' pm ctv)(g:∀ b o u,H b=some (.ia o u)->H1 b=some (.ia o u)):iJ H1 f q params body scope cl c' pm ctv:=
 ⟨g _ _ _ x.fn,let ⟨c,oc,vs,t,e1,e2,e3⟩:=x.cd;⟨c,oc,vs,t,e1,g _ _ _ e2,e3⟩⟩
theorem iJ.get(x:iJ H f q params body scope cl c' pm ctv)(I:Inv X pins σ H s):
  s.heap.get? f=some (PySem.W.kla_obj "<lambda>" q params body scope cl pm c' ctv)/\s.heap.CodeRec (.ref c') q:=by
 obtain⟨c,oc,vs,t,e1,e2,e3,e4⟩:=x.cd;exact⟨(I.aO f _ x.fn).1,c,oc,vs,t,e1,(I.aO c _ e2).1,e3,e4⟩
theorem Inv.xn{o:Obj}{t':Nat}(I:Inv X pins σ H s)(k:∀ b u,s.heap.get? b=some u->h'.get? b=some u)(hp:s.heap.objs.size<=f)(e:h'.get? f=some o):Inv X pins σ (upd H f (.ia o (.own f))) {s with heap:=h',toks:=t'}:=
 I.laid k hp ⟨e,o,e⟩
theorem yc(I:Inv X pins σ H s){c P:Addr}(hx:x∈dP)(ht:PySem.W.tabIn X.K x=some (c,P))(hcode:X.env.code=.ref c)(hq:X.env.qual=x++".<locals>."){pos:Pos}
  (hdef:defaultsOf params X.env=([],[])) (hcl:closureFor scope X.env=pure cl)
  (h:∀ f c' pm ctv H1 s1,eY H H1->Inv X pins σ H1 s1->iJ H1 f ((x++".<locals>.")++"<lambda>") params body scope cl c' pm ctv->Q (.ref f) s1) :
  wpAny (model X.prog X.w) X.A (eval (.Lambda params body scope pos) X.env) Q E s:=by
 have hm:(c,P,(x++".<locals>.")++"<lambda>")∈bQ X.K:=MJ.mpr ⟨x,hx,by rw[ht];rfl⟩
 obtain⟨more,hP⟩:=(I.ok.tabs.un I.base) _ hm;have C:PySem.W.CodeHd s.heap c P:=(I.ok.mod.codes _ hm).keeps I.bk;obtain⟨qs,eP,tr,fa⟩:=I.aO P _ hP;have hns:=I.ok.mod.glob.keeps I.bk;have hgP:mainGlobals≠P:=fun z=>by
  obtain⟨o,es,ep,e,_⟩:=I.ok.mod.glob;have:=(I.bs _ _ e).2;rw[z,hP] at this;cases this
 have hb:s.heap.BuiltinsAt X.mg P:=by
  obtain⟨bm,ob,b1,b2,b3,b4,b5⟩:=I.ok.mod.bm;refine⟨bm,ob,b1,b2,fun z=>?_,fun z=>?_,I.bk _ _ b3,b4,b5⟩
  ·obtain⟨o,es,ep,e,hd,_⟩:=I.ok.mod.glob;rw[z,e] at b3;cases b3;rw[hd] at b5;cases b5.2
  ·have:=(I.bs _ _ b3).2;rw[z,hP] at this;cases this
 refine PySem.W.kla_eval hdef ?_;rw[hq]
 cases ca:codeAmong pos qs.toList with
 |some cv =>
  have il:=fa pos cv ca;rw[rR] at il;obtain⟨c',oc,vs,t,rfl,e2,e3⟩:=il;refine PySem.W.kla_makeFunctionHit hcl I.ok.glob hns hcode C eP tr ca hb fun ctv h' tk hk hsz=>?_;have n0:H h'.objs.size=none:=I.aO.fresh hsz;have J:=I.xn (f:=h'.objs.size) (t':=tk) (h':=h'.push {cls:=.type "function",data:=.func (PySem.W.kla_fn "<lambda>" ((x++".<locals>.")++"<lambda>") params body scope cl ((X.mg "__name__").getD .none) (.ref c') ctv)}) (fun b u e=>JW _ (hk b u e)) hsz (Km _ rfl);exact h _ c' _ ctv _ _ (.more .refl n0) J ⟨az,c',oc,vs,t,rfl,by rw[aj (aB e2 n0)];exact e2,e3⟩
 |none =>
  refine PySem.W.kla_makeFunction hcl I.ok.glob hns hcode C eP tr ca hgP hb fun c' ctv h' tk hx2 hge hlt hrec htb=>?_;obtain⟨c2,oc,vs,t,e2,hoc,hd,hv⟩:=hrec;cases e2;have nP:P≠c':=fun z=>absurd (Kn eP) (by rw[z];exact NX.mpr hge)
  have n1:H c'=none:=I.aO.fresh hge;have keep:∀ b u,b≠P->s.heap.get? b=some u->h'.get? b=some u:=fun b u hb' e=>hx2 b u hb' e;have H1ne:∀ b u,H b=some u->upd H c' (.ia oc (.own c')) b=some u:=fun b u e=>by rw[aj (aB e n1)];exact e
  have hoP:∀ y,H P≠some (.own y):=fun y z=>by rw[hP] at z;cases z
  have J1:Inv X pins σ (upd H c' (.ia oc (.own c'))) {s with heap:=h',toks:=tk}:=by
   refine I.un ⟨fun b o e n _ _=>keep b o (fun z=>by rw[z,hP] at n;cases n) e,fun b o e n _ _=>⟨o.slots,keep b o (fun z=>by rw[z,hP] at n;cases n) e⟩,fun b o e n _=>?_,fun b o e _=>?_,fun b xs e=>H1ne b _ e,fun b o u e=>H1ne b _ e,fun b ps e=>⟨#[],by rw[H1ne b _ e,N8]⟩⟩ fun b u e=>?_
   ·rw[aj (fun z=>absurd (Kn e) (by rw[z];exact NX.mpr hge))];exact n
   ·by_cases z:b=P
    ·rw[z];exact⟨_,htb⟩
    ·exact⟨o,keep b o z e⟩
   ·by_cases z:b=c'
    ·subst z;rw[az] at e;cases e;exact⟨hoc,oc,hoc⟩
    ·rw[aj z] at e;by_cases z2:b=P
     ·subst z2;rw[hP] at e;cases e;refine⟨_,htb,by rw[ME];exact iN _ tr,fun p cv hc=>?_⟩
      rw[ME] at hc;rcases lA _ tr hc with q|q
      ·obtain⟨c2,oc2,vs2,t2,g1,g2,g3⟩:=fa p cv q;exact⟨c2,oc2,vs2,t2,g1,H1ne _ _ g2,g3⟩
      ·rw[rR];exact⟨c',oc,vs,t,q,az,hd,hv⟩
     ·refine (I.aO b u e).jN (fun c v hc q=>keep c v ?_ q) (fun c q=>H1ne c _ q) (fun c xs q=>H1ne c _ q) fun c _ _ q=>H1ne c _ q;rcases hc with rfl|hc
      ·exact z2
      ·exact fun z3=>hoP b (by rw[<- z3];exact hc)
  have n2:upd H c' (.ia oc (.own c')) h'.objs.size=none:=J1.aO.fresh (Kc _);have J:=J1.xn (f:=h'.objs.size) (t':=tk) (h':=h'.push (PySem.W.kla_obj "<lambda>" ((x++".<locals>.")++"<lambda>") params body scope cl ((X.mg "__name__").getD .none) c' ctv)) (fun b u e=>JW _ e) (Kc _) (Km _ rfl);exact h _ c' _ ctv _ _ (.more (.more .refl n1) n2) J ⟨az,c',oc,vs,t,rfl,by rw[aj (aB az n2)];exact az,hd,hv⟩
end
section
variable {α β:Type}
noncomputable def h9(p:Int×α):List (Int×α)->List (Int×α)
 |[]=>[p]
 |q::r=>if p.1<=q.1 then p::q::r else q::h9 p r
noncomputable def e8:List (Int×α)->List (Int×α)
 |[]=>[]
 |p::r=>h9 p (e8 r)
abbrev Ep(l:List (Int×α)):Prop:=l.Pairwise fun p q=>p.1<=q.1
noncomputable def atK(a:Int)(l:List (Int×α)):List (Int×α):=l.filter fun p=>decide (p.1=a)
theorem gi(p:Int×α):∀ l,(h9 p l).Perm (p::l)
 |[]=>.refl _
 |q::r=>by
  unfold h9;split
  ·exact .refl _
  ·exact ((gi p r).cons q).trans (List.Perm.swap p q r)
theorem dJ:∀ l:List (Int×α),(e8 l).Perm l
 |[]=>.refl _
 |p::r=>(gi p _).trans ((dJ r).cons p)
theorem rG{p:Int×α}:∀{l:List (Int×α)},Ep l->Ep (h9 p l)
 |[],_=>O0 _ _
 |q::r,h=>by
  obtain⟨h1,h2⟩:=K7.mp h;unfold h9;split
  ·rename_i c;exact K7.mpr ⟨fun z hz=>by
    rcases Ki.mp hz with rfl|hz
    ·exact c
    ·exact Int.le_trans c (h1 z hz),h⟩
  ·rename_i c;refine K7.mpr ⟨fun z hz=>?_,rG h2⟩;rcases Ki.mp ((gi p r).mem_iff.mp hz) with rfl|hz
   ·lia
   ·exact h1 z hz
theorem oy:∀ l:List (Int×α),Ep (e8 l)
 |[]=>List.Pairwise.nil
 |_::r=>rG (oy r)
theorem aZ(a:Int)(p:Int×α)(l:List (Int×α)):atK a (p::l)=if p.1=a then p::atK a l else atK a l:=by
 unfold atK;rw[List.filter_cons];by_cases z:p.1=a
 ·rw[Ke z,Ke (KY z)]
 ·rw[JZ z,JZ (by simp[z])]
theorem sI{a:Int}{p:Int×α}:∀{l:List (Int×α)},atK a (h9 p l)=atK a (p::l)
 |[]=>rfl
 |q::r=>by
  unfold h9;split
  ·rfl
  ·rename_i c;rw[aZ,sI,aZ,aZ,aZ];by_cases z:p.1=a
   ·have z2:¬ q.1=a:=by lia
    simp only[z,z2,LS,LJ]
   ·simp only[z,LJ]
theorem oP{a:Int}:∀ l:List (Int×α),atK a (e8 l)=atK a l
 |[]=>rfl
 |p::r=>by
  show atK a (h9 p (e8 r))=_;rw[sI,aZ,aZ,oP r]
theorem jR{a:Int}:∀{l:List (Int×α)},(∀ p∈l,a<p.1)->atK a l=[]
 |[],_=>rfl
 |p::r,h=>by
  have:=h p (Kk ..);rw[aZ,JZ (by lia),jR fun q hq=>h q (Kh _ hq)]
theorem lL:∀{l m:List (Int×α)},Ep l->Ep m->(∀ a,atK a l=atK a m)->l=m
 |[],[],_,_,_=>rfl
 |[],q::m,_,_,h=>by
  have:=h q.1;rw[aZ,Ke rfl] at this;cases this
 |p::l,[],_,_,h=>by
  have:=h p.1;rw[aZ,Ke rfl] at this;cases this
 |p::l,q::m,hl,hm,h=>by
  obtain⟨l1,l2⟩:=K7.mp hl;obtain⟨m1,m2⟩:=K7.mp hm;have e:p.1=q.1:=by
   rcases Int.lt_trichotomy p.1 q.1 with z|z|z
   ·have q1:=h p.1;rw[aZ,Ke rfl,aZ,JZ (by lia),jR (l:=m) fun r hr=>by have:=m1 r hr;lia] at q1
    cases q1
   ·exact z
   ·have q1:=h q.1;rw[aZ,JZ (by lia),aZ,Ke rfl,jR (l:=l) fun r hr=>by have:=l1 r hr;lia] at q1
    cases q1
  have q1:=h p.1;rw[aZ,Ke rfl,aZ,Ke e.symm] at q1;obtain⟨q2,q3⟩:=List.cons.inj q1;subst q2;congr 1;refine lL l2 m2 fun a=>?_;have q4:=h a;rw[aZ,aZ] at q4;by_cases z:p.1=a
  ·rw[Ke z,Ke z] at q4;exact (List.cons.inj q4).2
  ·rw[JZ z,JZ z] at q4;exact q4
theorem oW{l m:List (Int×α)}(hm:Ep m)(h:∀ a,atK a m=atK a l):m=e8 l:=lL hm (oy l) fun a=>by rw[h a,oP]
abbrev Eu(R:α->β->Prop):List (Int×α)->List (Int×β)->Prop:=Paired fun p q=>p.1=q.1/\R p.2 q.2
theorem xu{R:α->β->Prop}{p:Int×α}{q:Int×β}(h:p.1=q.1/\R p.2 q.2){l:List (Int×α)}{m:List (Int×β)}(k:Eu R l m):Eu R (h9 p l) (h9 q m):=by
 induction k with
 |nil=>exact .cons h .nil
 |cons r t ih =>
  unfold h9;split
  ·rename_i z;rw[Ke (by rw[<- h.1,<- r.1];exact z)]
   exact .cons h (.cons r t)
  ·rename_i z;rw[JZ (by rw[<- h.1,<- r.1];exact z)]
   exact .cons r ih
theorem t6{R:α->β->Prop}{l:List (Int×α)}{m:List (Int×β)}(k:Eu R l m):Eu R (e8 l) (e8 m):=by
 induction k with
 |nil=>exact .nil
 |cons r t ih=>exact xu r ih
theorem v8{R:α->β->Prop}{ks:List Int}{l:List α}{m:List β}(k:Paired R l m):Eu R (ks.zip l) (ks.zip m):=by
 induction k generalizing ks with
 |nil=>rw[List.zip_nil_right,List.zip_nil_right];exact .nil
 |cons r t ih =>
  cases ks with
  |nil=>exact .nil
  |cons k ks=>exact .cons ⟨rfl,r⟩ ih
theorem vX{R:α->β->Prop}{l:List (Int×α)}{m:List (Int×β)}(k:Eu R l m):Paired R (l.map (·.2)) (m.map (·.2)):=by
 induction k with
 |nil=>exact .nil
 |cons r t ih=>exact .cons r.2 ih
noncomputable def ic(ks:List Int)(l:List α):List α:=(e8 (ks.zip l)).map (·.2)
theorem rA{R:α->β->Prop}{ks:List Int}{l:List α}{m:List β}(h:Paired R l m):Paired R (ic ks l) (ic ks m):=vX (t6 (v8 h))
theorem qU{ks:List Int}{l:List α}(h:ks.length=l.length):(ic ks l).length=l.length:=by
 unfold ic;rw[JY,(dJ _).length_eq,O6,h,M7]
theorem jT{ks:List Int}{l:List α}(h:ks.length=l.length):(ic ks l).Perm l:=by
 have h2:((ks.zip l).map (·.2))=l:=Om (by lia)
 have h3:=(dJ (ks.zip l)).map (·.2);rw[h2] at h3;exact h3
end
theorem iB:∀{xs:List V} {us:List Value},Vals xs us->Paired RelV xs us
 |_,_,.nil=>.nil
 |_,_,.cons r t=>.cons r (iB t)
theorem iF:∀{xs:List V} {us:List Value},Paired RelV xs us->Vals xs us
 |_,_,.nil=>.nil
 |_,_,.cons r t=>.cons r (iF t)
theorem sL:∀{us:List Value} {ns:List Int},IntsAre us ns->∀{i:Nat},i<ns.length->∃ t,us.getD i Value.none=.int (ns.getD i 0) t
 |_,_,.cons n t h,0,_=>⟨t,rfl⟩
 |_,_,.cons n t h,i+1,hi=>sL h (i:=i) (by simpa using hi)
theorem w4{p:List Nat}(hl:kz.length=us.length)(hp:p.Perm (List.range us.length))(hr:p.Pairwise (SP.R fun i=>kz.getD i 0)):p.map (fun i=>us.getD i Value.none)=ic kz us:=by
 have ez:(List.range us.length).map (fun i=>(kz.getD i 0,us.getD i Value.none))=kz.zip us:=by
  apply Mm
  ·rw[JY,Ky,O6,hl,M7]
  ·intro i h1 h2;rw[JY,Ky] at h1;rw[Oo,NB,List.getElem_zip];simp[h1,hl]
 have e1:p.map (fun i=>(kz.getD i 0,us.getD i Value.none))=e8 (kz.zip us):=by
  refine oW ?_ fun a=>?_
  ·exact LX.mpr (hr.imp fun h=>h.le)
  ·have fl:∀ l:List Nat,atK a (l.map fun i=>(kz.getD i 0,us.getD i Value.none))=(l.filter fun i=>decide (kz.getD i 0=a)).map fun i=>(kz.getD i 0,us.getD i Value.none):=fun l=>by
    unfold atK;rw[List.filter_map];rfl
   rw[<- ez,fl,fl];congr 1;refine Oq (le:=(· < ·)) (fun a b _ _ h g=>absurd h (Nat.lt_asymm g)) ?_ (MW.filter _) (hp.filter _);rw[List.pairwise_filter];refine hr.imp fun {i j} h hi hj=>?_;have hi:=LD hi;have hj:=LD hj;rcases h with h|h
   ·exfalso;have h':kz.getD i 0<kz.getD j 0:=h;lia
   ·exact h.2
 unfold ic;rw[<- e1,LA];rfl
section
variable {X:Cx} {pins:List (Addr×Obj)} {σ:St} {H:Hp} {s:Shared} {E:Value->Shared->Prop}
theorem Inv.take{D:Addr}{ob:Obj}{o:HO}{t':Nat}(I:Inv X ((D,ob)::pins) σ H s)(hs0:X.s₀.heap.objs.size<=D)(hnp:∀ p∈X.pn++pins,p.1≠D)(k:∀ b u,b≠D->s.heap.get? b=some u->h'.get? b=some u)(new:bt X.prog X.w (upd H D o) h' D o):
  Inv X pins σ (upd H D o) {s with heap:=h',toks:=t'}:=by
 obtain⟨g1,g2,g3,g4,g5⟩:=I.pin (D,ob) (K2 _ (Kk ..));have I0:Inv X pins σ H s:=⟨I.ok,I.os,I.bare,I.base,I.loc,I.cell,I.free,I.dY,fun p hp=>I.pin p ((KZ.mp hp).elim (fun z=>Nj _ z) fun z=>K2 _ (Kh _ z)),I.aO,I.len⟩;have ne:∀ b u,H b=some u->b≠D:=fun b u e=>aB e g2;refine I0.step (g':=s.gens) (d':=s.drawn) (ch:=[D]) (fun b hb=>?_) (fun b o' _ _ hc e _=>k b o' (fun z=>hc (by rw[z];exact Ko.mpr rfl)) e) (fun b o' _ _ hc e _=>⟨o'.slots,k b o' (fun z=>hc (by rw[z];exact Ko.mpr rfl)) e⟩) (fun b o' hc e n=>by rw[aj (fun z=>hc (by rw[z];exact Ko.mpr rfl))];exact n)
  (fun b o' hc e=>⟨o',k b o' (fun z=>hc (by rw[z];exact Ko.mpr rfl)) e⟩) (fun b xs e=>by rw[aj (ne b _ e)];exact e) (fun b o' u e=>by rw[aj (ne b _ e)];exact e) (fun b ps e=>⟨#[],by rw[aj (ne b _ e),e,N8]⟩) (fun m hm=>?_) (fun b u e=>?_) I.bare
 ·rw[Ko.mp hb];refine⟨.inr hs0,g3,fun x c e z=>?_,hnp⟩;obtain⟨v,o',ho',hd⟩:=I.cell x c e;rw[z,g1] at ho';cases ho';exact g5 v hd
 ·obtain⟨o',es,ep,ho',r⟩:=hm;exact⟨o',es,ep,k _ _ (Ne.symm g3) ho',r⟩
 ·by_cases z:b=D
  ·subst z;rw[az] at e;cases e;exact new
  ·rw[aj z] at e;refine (I.aO b u e).jN (fun c v hc q=>k c v ?_ q) (fun c q=>by rw[aj (ne c _ q)];exact q) (fun c xs q=>by rw[aj (ne c _ q)];exact q) fun c _ _ q=>by rw[aj (ne c _ q)];exact q
   rcases hc with rfl|hc
   ·exact z
   ·exact ne c _ hc
theorem sv{D:Nat}{st:SortSt}
  (I:Inv X ((D,seqObj "list" #[] e1)::pins) σ (upd H kS (.lst (kz.map V.int))) s) (hkS:H kS=none) (hD:H D=none) (hkD:kS≠D) (hs0:X.s₀.heap.objs.size<=D) (hnp:∀ p∈X.pn++pins,p.1≠D)
  (hv:Vals xs us) (hlen:kz.length=us.length) (h64:us.length<64) (ho:((arrOf st).map (·.2)).toList=ic kz us) (hfl:failedOf st=none)
  (h:∀ s',Inv X pins σ (upd (upd H kS (.lst [])) D (.lst (ic kz xs))) s'->P (.done (.ret .none)) s') :
  wpAny (model X.prog X.w) A (ksk_tail D false e1 (.ref kS) st) P E s:=by
 obtain⟨_,its,n,vr,ek⟩:=I.aO kS _ az;have hz:its.toArray.size<=sizeLine:=by
  rw[J_,<- vr.length,JY,hlen,L8];lia
 have pD:=I.pin _ (K2 _ (Kk ..));have hout:((arrOf st).map (·.2)).size=us.length:=by
  rw[<- KC,ho,qU hlen]
 have s1:=Lz s.heap kS (Obj.mapSeq fun _=>(#[]:Array Value));obtain⟨c1,hc1⟩:∃ c,(s.heap.update kS (Obj.mapSeq fun _=>(#[]:Array Value))).get? kS=some (seqObj "list" #[] c):=⟨_,MG ek fun _=>#[]⟩;have J1:Inv X ((D,seqObj "list" #[] e1)::pins) σ (upd H kS (.lst [])) {s with heap:=s.heap.update kS (Obj.mapSeq fun _=>(#[]:Array Value))}:=by
  have J:=I.write (x:=kS) (e:=kS) (o:=.lst []) (t':=s.toks) (h':=s.heap.update kS (Obj.mapSeq fun _=>(#[]:Array Value))) (by rw[az];trivial) (.inl rfl) (fun b u hb q=>(s1.2 b hb).trans q) ⟨_,hc1⟩ ⟨KN _,[],c1,.nil,hc1⟩
  rw[sC] at J;exact J
 have pD1:=J1.pin _ (List.mem_append_right _ (List.mem_cons_self ..));have s2:=Heap.SameBut.update (s.heap.update kS (Obj.mapSeq fun _=>(#[]:Array Value))) D (Obj.mapSeq fun _=>(arrOf st).map (·.2));obtain⟨c2,hc2⟩:∃ c,((s.heap.update kS (Obj.mapSeq fun _=>(#[]:Array Value))).update D (Obj.mapSeq fun _=>(arrOf st).map (·.2))).get? D=some (seqObj "list" ((arrOf st).map (·.2)) c):=⟨_,get?_update_seq pD1.1 fun _=>(arrOf st).map (·.2)⟩;have vB:Vals (ic kz xs) (ic kz us):=iF (rA (iB hv));unfold ksk_tail;dsimp only;refine wpAny_bind (listUpdate_at ek rfl ?_ hz (Nat.zero_le _));refine wpAny_bind (wpAny_letGo ?_);refine wpAny_bind (seqEpoch_at pD1.1 rfl ?_);refine wpAny_bind (listUpdate_at pD1.1 rfl ?_ (Nat.zero_le _) (by show ((arrOf st).map (·.2)).size<=_;rw[hout,sizeLine_eq];lia))
 rw[hfl];simp only[NR,Lr,LJ];refine Kb (h _ (J1.take hs0 hnp (fun b u hb q=>(s2.2 b hb).trans q) ⟨?_,ic kz us,c2,vB,?_⟩))
 ·rw[vB.length,qU hlen,L8];lia
 ·rw[<- ho,MA];exact hc2
theorem Dj{D:Nat}{us:List Value}{kz:List Int}{keys:Array Value}
  (I:Inv X ((D,seqObj "list" #[] e1)::pins) σ (upd H kS (.lst (kz.map V.int))) s) (hkS:H kS=none) (hD:H D=none) (hkD:kS≠D) (hs0:X.s₀.heap.objs.size<=D) (hnp:∀ p∈X.pn++pins,p.1≠D)
  (hv:Vals xs us) (hlen:kz.length=us.length) (h64:us.length<64) (hk:IntsAre keys.toList kz)
  (h:∀ s',Inv X pins σ (upd (upd H kS (.lst [])) D (.lst (ic kz xs))) s'->P (.done (.ret .none)) s') :
  wpAny (model X.prog X.w) A (ksk_end D false us.toArray e1 (.ref kS) keys) P E s:=by
 have hsz:keys.size=us.length:=by
  have z:=hk.length;rw[KC] at z;exact z.trans hlen
 have hzs:(keys.zip us.toArray).size=us.length:=by
  rw[Array.size_zip,hsz,J_,M7]
 unfold ksk_end;dsimp only;rw[if_neg Bool.false_ne_true,if_neg Bool.false_ne_true];by_cases h2:us.toArray.size<2
 ·rw[if_pos h2,if_pos h2];refine wpAny_bind (wpAny_pure ?_);rw[StateT.run_pure];refine wpAny_bind (wpAny_pure ?_);dsimp only;refine sv I hkS hD hkD hs0 hnp hv hlen h64 ?_ rfl h;rw[List.size_toArray] at h2;have:=w4 (us:=us) (kz:=kz) (p:=List.range us.length) hlen (List.Perm.refl _) (by
   rcases us with _|⟨x,_|⟨y,r⟩⟩
   ·exact .nil
   ·simp
   ·exfalso;simp only[Kj] at h2;lia)
  rw[<- this];show ((keys.zip us.toArray).map (·.2)).toList=_;rw[Array.toList_map,Array.toList_zip,Om (by simp only[KC,J_];lia)]
  apply Mm
  ·simp
  ·intro i h1 h2;have h1':i<us.length:=h1;simp[h1']
 ·rw[JZ h2,JZ h2];rw[J_] at h2;rw[ksk_kind hk (by lia)]
  refine JU (Kb ?_);have ek:keys=keys.toList.toArray:=(MA).symm;have hkl:keys.toList.length=us.length:=by rw[KC,hsz]
  have hat:∀ i,i<us.length->∃ t,keys.toList.getD i Value.none=.int (kz.getD i 0) t:=fun i hi=>sL hk (by rw[hlen];exact hi)
  generalize keys.toList=ks at *;subst ek;refine JU (Lg (PySem.W.kat_run (ks:=ks) (vs:=us) (κ:=oneType') (Q:=fun st' s'=>s'=s/\failedOf st'=none/\((arrOf st').map (·.2)).toList=ic kz us)
   (G:=fun p s'=>s'=s/\p.toList.Perm (List.range us.length)/\p.toList.Pairwise (SP.R fun i=>kz.getD i 0)) hkl (by lia) h64 (fun p st' s' a1 a2 a3 a4=>⟨a4.1,a3,by rw[PySem.W.kat_snds hkl a2];exact w4 hlen a4.2.1 a4.2.2⟩) ?_) ?_ fun _ _ e=>e)
  ·refine SP.rQ (k:=fun i=>kz.getD i 0) (I:=fun s'=>s'=s) (fun i j C s' hi hj hI hC=>?_) (by lia) rfl fun p s' hp hr hI=>⟨hI,hp,hr⟩
   subst hI;obtain⟨t1,e1⟩:=hat i hi;obtain⟨t2,e2⟩:=hat j hj;unfold PySem.W.kas_ask;rw[e1,e2];exact PySem.W.kat_lt_int (hC _ rfl)
  rintro⟨⟨⟩,st'⟩ s' ⟨rfl,hf,ho⟩;dsimp only;exact sv I hkS hD hkD hs0 hnp hv hlen h64 ho hf h
theorem j3:∀{us:List Value} {ns:List Int},Vals (ns.map V.int) us->IntsAre us ns
 |_,[],.nil=>.nil
 |_,n::ns,.cons ⟨t,e⟩ r=>by subst e;exact .cons n t (j3 r)
theorem yO{D:Nat}{f:Value}
  (I:Inv X ((D,seqObj "list" #[] e1)::pins) σ (upd H kS (.lst [])) s) (hkS:H kS=none) (hD:H D=none) (hkD:kS≠D) (hs0:X.s₀.heap.objs.size<=D) (hnp:∀ p∈X.pn++pins,p.1≠D)
  (hv:Vals xs us) (hlen:kz.length=us.length) (h64:us.length<64)
  (turn:∀(i:Nat) (u:Value) (k:Int),us[i]?=some u->kz[i]?=some k->∀ pins' H' s',eY H H'->Inv X pins' σ H' s'->wpAny (model X.prog X.w) A (call f [u]) (fun r s2=>(∃ t,r=.int k t)/\Inv X pins' σ H' s2) (fun _ _=>False) s')
  (h:∀ s',Inv X pins σ (upd (upd H kS (.lst [])) D (.lst (ic kz xs))) s'->P (.done (.ret .none)) s') :
  wpAny (model X.prog X.w) A (ksk_rest D f false us.toArray e1 (.ref kS)) P E s:=by
 unfold ksk_rest;refine JU (NU ?_)
 first
  |rw[List.forIn_toArray]
  | (rw[<- Array.forIn_toList];simp only[N4])
 refine JU (ksk_fold (fun i s'=>Inv X ((D,seqObj "list" #[] e1)::pins) σ (upd H kS (.lst ((kz.take i).map V.int))) s') us 0 s I ?one ?all)
 case one =>
  intro j u s' hu J;rw[LO] at J ⊢;have hj:j<us.length:=(Kf.mp hu).1;obtain⟨k,hkj⟩:∃ k,kz[j]?=some k:=⟨_,JV (by lia)⟩
  refine wpAny_bind (wpAny_attempt (wpAny_mono (turn j u k hu hkj _ _ s' (.more .refl hkS) J) (fun r s2 hr=>?_) fun _ _ z=>z.elim));obtain⟨⟨t,rfl⟩,J2⟩:=hr;dsimp only;obtain⟨_,its,n,vr,ek⟩:=J2.aO kS _ az;have lenI:its.length<=us.length:=by
   rw[<- vr.length,JY,KO];lia
  have s1:=Lz s2.heap kS (Obj.mapSeq (·.push (.int k t)));obtain⟨c1,hc1⟩:∃ c,(s2.heap.update kS (Obj.mapSeq (·.push (.int k t)))).get? kS=some (seqObj "list" (its.toArray.push (.int k t)) c):=⟨_,MG ek (·.push (.int k t))⟩;have et:kz.take (j+1)=kz.take j++[k]:=by
   rw[M5,hkj];rfl
  have vr2:Vals ((kz.take (j+1)).map V.int) (its++[.int k t]):=by
   rw[et,Kt];exact vr.append (.cons ⟨t,rfl⟩ .nil)
  refine JU (M_ ek rfl ?_ (by rw[J_,L8];lia) (by show (its.toArray.push (.int k t)).size<=_;rw[Array.size_push,J_,L8];lia))
  refine Kb ⟨rfl,?_⟩;have J3:=J2.write (x:=kS) (e:=kS) (o:=.lst ((kz.take (j+1)).map V.int)) (t':=s2.toks) (h':=s2.heap.update kS (Obj.mapSeq (·.push (.int k t)))) (by rw[az];trivial) (.inl rfl) (fun b u hb q=>(s1.2 b hb).trans q) ⟨_,hc1⟩
   ⟨by rw[JY,KO,L8];lia,its++[.int k t],c1,vr2,by rw[hc1,List.push_toArray]⟩
  rw[sC] at J3;exact J3
 case all =>
  intro s' J;have ez:kz.take (0+us.length)=kz:=LL (by lia)
  have J':Inv X ((D,seqObj "list" #[] e1)::pins) σ (upd H kS (.lst (kz.map V.int))) s':=by
   rw[<- ez];rw[ez];simpa only[ez] using J
  obtain⟨_,its,n,vr,ek⟩:=J'.aO kS _ az;refine JU (Nq ek rfl ?_);exact Dj J' hkS hD hkD hs0 hnp hv hlen h64 (by rw[N4];exact j3 vr) h
theorem yJ{D:Addr}{n0:Nat}{h0:Heap}{f:Value}
  (I:Inv X pins σ H s) (k0:∀ b o,s.heap.get? b=some o->h0.get? b=some o) (hDs:s.heap.objs.size<=D) (ho:h0.get? D=some (seqObj "list" us.toArray n0)) (hv:Vals xs us) (hlen:kz.length=us.length) (h64:us.length<64)
  (turn:∀(i:Nat) (u:Value) (k:Int),us[i]?=some u->kz[i]?=some k->∀ pins' H' s',eY H H'->Inv X pins' σ H' s'->wpAny (model X.prog X.w) A (call f [u]) (fun r s2=>(∃ t,r=.int k t)/\Inv X pins' σ H' s2) (fun _ _=>False) s')
  (h:∀ H' s',eY H H'->H' D=none->Inv X pins σ (upd H' D (.lst (ic kz xs))) s'->P (.done (.ret .none)) s') :
  wpAny (model X.prog X.w) A (ksk_tree D f false) P E {s with heap:=h0}:=by
 have hsz0:D<h0.objs.size:=Kn ho;have s1:=Lz h0 D (Obj.mapSeq fun _=>(#[]:Array Value));obtain⟨e1,ho1⟩:∃ e,(h0.update D (Obj.mapSeq fun _=>(#[]:Array Value))).get? D=some (seqObj "list" #[] e):=⟨_,MG ho fun _=>#[]⟩;have hkz:((h0.update D (Obj.mapSeq fun _=>(#[]:Array Value))).push (seqObj "tuple" us.toArray 0)).objs.size=h0.objs.size+1:=by
  rw[size_push',Og]
 have nD:∀ b o,s.heap.get? b=some o->b≠D:=fun b o e=>K1 (Kz (Kn e) hDs);have keep:∀ b o,s.heap.get? b=some o->(((h0.update D (Obj.mapSeq fun _=>(#[]:Array Value))).push (seqObj "tuple" us.toArray 0)).push (seqObj "list" #[] 0)).get? b=some o:=fun b o e =>
  JW _ (JW _ ((s1.2 b (nD b o e)).trans (k0 b o e)))
 have hle:s.heap.objs.size<=h0.objs.size+1:=Kq hDs (Nat.le_succ_of_le (LM hsz0));have hkD:h0.objs.size+1≠D:=Mf (M4 hsz0);have hkS:H (h0.objs.size+1)=none:=I.aO.fresh hle;have hD:H D=none:=I.aO.fresh hDs;have hnp:∀ p∈X.pn++pins,p.1≠D:=fun p hp=>nD _ _ (I.pin p hp).1;have J0:Inv X pins σ (upd H (h0.objs.size+1) (.lst [])) {s with heap:=((h0.update D (Obj.mapSeq fun _=>(#[]:Array Value))).push (seqObj "tuple" us.toArray 0)).push (seqObj "list" #[] 0)}:=
  I.laid (t':=s.toks) keep hle ⟨KN _,[],0,.nil,by rw[<- hkz];exact Km _ rfl⟩
 have J:Inv X ((D,seqObj "list" #[] e1)::pins) σ (upd H (h0.objs.size+1) (.lst [])) {s with heap:=((h0.update D (Obj.mapSeq fun _=>(#[]:Array Value))).push (seqObj "tuple" us.toArray 0)).push (seqObj "list" #[] 0)}:=by
  refine J0.mI fun p hp=>?_;rcases Ki.mp hp with rfl|hp
  ·exact⟨JW _ (JW _ ho1),by rw[aj (Ne.symm hkD)];exact hD,fun z=>absurd I.lt (by rw[<- z];exact NX.mpr hDs),I.FX hDs,fun v z=>by cases z⟩
  ·exact J0.pin p (K2 _ hp)
 unfold ksk_tree;refine JU (Nq ho rfl ?_);refine JU (M_ ho rfl ?_ (by rw[J_,L8];lia) (KN _))
 refine JU (seqEpoch_at ho1 rfl ?_);refine JU (OP ?_ (by show us.length<=_;rw[L8];lia))
 refine JU (MC ?_ (KN _));refine KP ?_;show wpAny _ _ (ksk_rest D f false us.toArray e1 (.ref ((h0.update D (Obj.mapSeq fun _=>(#[]:Array Value))).push (seqObj "tuple" us.toArray 0)).objs.size)) _ _ _;rw[hkz];exact yO J hkS hD hkD (Kq I.sz hDs) hnp hv hlen h64 turn fun s' K=>h _ s' (.more .refl hkS) (by rw[aj (Ne.symm hkD)];exact hD) K
end
noncomputable def zO(q:Str)(params:Arguments)(body:Expr)(scope:Scope)(cl:List (Str×Addr)):TE:=fun _ H Q=>∀ f c' pm ctv H1,eY H H1->iJ H1 f q params body scope cl c' pm ctv->Q (.ref f) H1
theorem Dr{c P:Addr}(hx:x∈dP)(ht:PySem.W.tabIn X.K x=some (c,P))(hcode:X.env.code=.ref c)(hq:X.env.qual=x++".<locals>."){pos:Pos}
  (hdef:defaultsOf params X.env=([],[])) (hcl:closureFor scope X.env=pure cl):PE X (.Lambda params body scope pos) (zO ((x++".<locals>.")++"<lambda>") params body scope cl):=fun pins s σ H Q I h =>
 yc I hx ht hcode hq hdef hcl fun f c' pm ctv H1 s1 g J l=>⟨.ref f,H1,J,rfl,h f c' pm ctv H1 g l⟩
section
variable {X:Cx} {pins:List (Addr×Obj)} {σ:St} {H:Hp} {s:Shared} {E:Value->Shared->Prop}
noncomputable def vE(X:Cx)(A:Around)(s:Shared)(l:Addr)(xs:List V):Prop:=∀(Q:List Value->Shared->Prop) (E:Value->Shared->Prop),(∀ h0 tk us,(∀ b o,s.heap.get? b=some o->h0.get? b=some o)->s.heap.objs.size<=h0.objs.size->Vals xs us->Q us {s with heap:=h0,toks:=tk})->wpAny (model X.prog X.w) A (collect (.ref l)) Q E s
theorem tP{l:Addr}{Q:VK}(I:Inv X pins σ H s)(hcol:vE X A.in1 s l xs)(hlen:kz.length=xs.length)(h64:xs.length<64)
  (turn:∀(i:Nat) (v:V) (u:Value) (k:Int),xs[i]?=some v->RelV v u->kz[i]?=some k->∀ pins' H' s',eY H H'->Inv X pins' σ H' s'->wpAny (model X.prog X.w) A.in1.in1 (call (.ref f) [u]) (fun r s2=>(∃ t,r=.int k t)/\Inv X pins' σ H' s2) (fun _ _=>False) s')
  (h:∀ H' D,eY H H'->H' D=none->Q (.ref D) (upd H' D (.lst (ic kz xs)))) :
  wpAny (model X.prog X.w) A (call (.builtin "sorted") [.ref l] [(Str.ofString "key",.ref f)]) (EP X pins σ Q) E s:=by
 refine call_function_entry_kw kind_sorted plain_sorted entry_sorted (ksk_s1 _ _) ?_;unfold Builtin.«sorted»;refine JU (m:=checkCount "sorted" 1 1 _) (Kb (JU (hcol _ _ fun h0 tk us k0 hz hv=>?_)));have ul:us.length=xs.length:=hv.length.symm;refine JU (MC ?_ (by rw[ul,L8];lia))
 have hoL:(h0.push (seqObj "list" us.toArray 0)).get? h0.objs.size=some (seqObj "list" us.toArray 0):=Km _ rfl;refine JU (KP (wpAny_call_entry_kw slot_list_sort ⟨_,hoL,rfl⟩ entry_list_sort ?srt (ksk_l1 _ _)))
 case srt =>
  show wpAny _ A.in1.in1 (Builtin.«list.sort» ⟨[.ref h0.objs.size],[(Str.ofString "key",.ref f)]⟩) _ _ _;rw[ksk_t1];refine yJ (s:={s with toks:=tk}) (h0:=h0.push (seqObj "list" us.toArray 0)) (I.tok tk) (fun b o e=>JW _ (k0 b o e)) hz hoL hv (by rw[ul];exact hlen) (by rw[ul];exact h64)
   (fun i u k hu hk pins' H' s' g J=>?_) fun H' s' g n J=>⟨_,rfl,?_⟩
  ·have hi:i<xs.length:=by rw[<- ul];exact (Kf.mp hu).1
   obtain⟨u',hu',rv⟩:=hv.get (JV hi);rw[hu] at hu';cases hu';exact turn i _ u k (JV hi) rv hk pins' H' s' g J
  ·exact Kb ⟨_,rfl,.ref h0.objs.size,_,J,rfl,h H' _ g n⟩
noncomputable def vq(src:Hp->Addr->List V->Prop)(pre:V->Int->Hp->St->Prop)(fr:St->St)(t:TA):TE:=fun σ H Q=>t σ H fun vs H1=>∃ l xs kz,vs=[.ref l]/\src H1 l xs/\kz.length=xs.length/\xs.length<64 /\
 (∀(i:Nat) (v:V) (k:Int),xs[i]?=some v->kz[i]?=some k->∀ H',eY H1 H'->pre v k H' (fr σ))/\∀ H2 D,eY H1 H2->H2 D=none->Q (.ref D) (upd H2 D (.lst (ic kz xs)))
theorem xG{t:TA}{p pos:Pos}{src:Hp->Addr->List V->Prop}{pre:V->Int->Hp->St->Prop}{fr:St->St}
  (hg:Gl X "sorted") (hm:X.mg "sorted"=none) (ha:PA X [e] t) (h1:cS e=true) (hr:b7 (k+3) X.A) (hL:PE X (.Lambda params body scope lpos) (zO q params body scope cl))
  (hsrc:∀ pins σ H s H1 l xs A,Inv X pins σ H s->src H1 l xs->eY H1 H->A.handled=none->xs.length<64->vE X A s l xs)
  (hk:scope.kind=.function) (hco:scope.isCoroutine=false) (hgen:scope.isGenerator=false) (hcell:∀ y∈scope.names,y.2≠.cell) (hloc:scope.names.lookup x=some .local)
  (hbind:∀ c' pm ctv u,bindArgs (PySem.W.kla_fn "<lambda>" q params body scope cl pm (.ref c') ctv) ⟨[u],[]⟩=pure [(x,u)])
  (hlen:∀ σ:St,(fr σ).length=N.length) (hcl:∀ y c,cl.lookup y=some c->X.env.cells.lookup y=some c) (hhas:∀ y,(scope.names.lookup y=some .cell\/scope.names.lookup y=some .free)->∃ c,cl.lookup y=some c)
  (hf:∀ pins σ H s,Inv X pins σ H s->∀(i:Nat) (y:Str) (v:V),N[i]?=some y->(fr σ)[i]?=some (some v)->scope.names.lookup y=some .free/\∃ c u,cl.lookup y=some c/\s.heap.IsCell c (some u)/\RelV v u)
  (hbody:∀ A f c' s' H' σf v i,pre v i H' σf->∃ t,PE (sM X A (x::N) q scope f (.ref c') cl s' H') body t/\t (some v::σf) H' (fun w H2=>w=.int i/\H2=H')) :
  PE X (.Call (.Name "sorted" p) [e] [⟨some "key",.Lambda params body scope lpos,kpos⟩] pos) (vq src pre fr t):=by
 intro pins s σ H Q I h;refine LN (fQ I hg hm (u:=.builtin "sorted") (by decide +kernel) ?_ (by decide) (by decide))
 have hkw:PK X [⟨some "key",.Lambda params body scope lpos,kpos⟩] (lD (zO q params body scope cl) oq):=yV hL Ej;refine callWith_kw ?_ (by rw[dq h1];rfl) (by rw[dq h1];rfl) rfl rfl
 refine bS (ha pos pins s σ H _ I h) fun us s1 ⟨vs,H1,I1,r1,q1⟩=>?_;obtain⟨l,xs,kz,rfl,hs,hle,h64,hpre,qq⟩:=q1;obtain⟨u,rfl,ru⟩:=vals1 r1;cases ru;refine bS (hkw pos pins s1 σ H1 (fun zs H2=>∃ f c' pm ctv,zs=[.ref f]/\eY H1 H2/\iJ H2 f ((q)) params body scope cl c' pm ctv) I1 fun f c' pm ctv H2 g lm=>⟨f,c',pm,ctv,rfl,g,lm⟩) fun ws s2 ⟨zs,H2,I2,rz,f,c',pm,ctv,e1,g,lm⟩=>?_;subst e1;obtain⟨wv,rfl,rw1⟩:=vals1 rz;cases rw1;have hr1:b7 (k+2) X.A.in1:=hr.in1;refine tP I2 (hsrc _ _ _ _ _ _ _ _ I2 hs g hr1.hd h64) hle h64 (fun i v u j hv rv hj pins' H' s' g' J=>?_) fun H' D g' n=>qq H' D (g.trans g') n;obtain⟨ho,hcd⟩:=(lm.up fun b o u e=>g'.same b _ e).get J;obtain⟨tb,hb,hq⟩:=hbody X.A.in1.in1 f c' s' H' (fr σ) v j (hpre i v j hv hj H' (g.trans g'));refine Lg (y6 J hr1.in1 J.ok.frames hk hco hgen hcell rv hloc ho hcd (hbind c' pm ctv) (hlen σ) hcl hhas (hf _ _ _ _ J) hb hq) (fun r s4 hr4=>?_) fun _ _ z=>z;obtain⟨w,H4,J4,rw4,e4,e5⟩:=hr4;subst e4 e5;exact⟨rw4,J4⟩
end
theorem m4{a:α}{l:List (Str×α)}:List.lookup x ((x,a)::l)=some a:=by rw[Ls,Mh]
theorem jc{y:Str}{a:α}{l:List (Str×α)}(h:y≠x):List.lookup y ((x,a)::l)=List.lookup y l:=by rw[Ls,Lp.mpr h]
abbrev pd(n:Nat):List V:=(List.range n).map fun k=>V.int ((k:Nat):Int)
section
variable {X:Cx} {pins:List (Addr×Obj)} {σ:St} {H:Hp} {s:Shared}
theorem oA{r:Addr}(hh:A.handled=none)(I:Inv X pins σ H s)(hr:H r=some (.eJ 0 n))(h64:n<64):vE X A s r (pd n):=fun Q E h=>by
 obtain⟨t,u,v,e⟩:=I.aO r _ hr;have hn2:Builtin.Range.rangeSize 0 (n:Int) 1=n:=by rw[OW];split<;>lia
 have hsm:Builtin.Range.small 0 (n:Int) 1=true:=small_one (by lia) (by lia) (by lia) (by lia)
 have oS:(s.heap.push {cls:=.type "list",data:=.seq ([]:List Value).toArray}).get? s.heap.objs.size=some {cls:=.type "list",data:=.seq #[] 0}:=Km _ rfl;unfold collect;refine JU (wpAny_runValue (Np PySem.F.entry_proto_collect ?_));rw[Around.under_plainId PySem.F.plain_proto_collect _];refine JU (m:=newList []) (Ll (Kb ⟨plainId_quiet PySem.F.plain_list_iadd _,Np PySem.F.entry_list_iadd ?_⟩));rw[Around.under_plainId PySem.F.plain_list_iadd _];show wpAny _ A.in1 (Builtin.List.listExtendWith _ _ _) _ _ _;refine wpAny_extend_range (R:=fun r s'=>match r with|.ok (.ret v)=>wpAny (model X.prog X.w) A (match v with|.ref a=>do (match (<- load a).data with|.seq xs _=>pure xs.toList|_=>unsupported "internal:collect")|_=>unsupported "internal:collect") Q E s'|.ok _=>_|.error e=>E e s') (s:={s with heap:=s.heap.push {cls:=.type "list",data:=.seq ([]:List Value).toArray}}) hh (JW _ e) hsm hn2 (by lia) s.heap.objs.size (.ref s.heap.objs.size) 0 oS fun h' tk acc c' hk hS hI=>?_
 refine JU (m:=load s.heap.objs.size) (wpAny_load hS (Kb (h h' tk acc.toList (fun b o e=>hk b o (K1 (Kn e)) (JW _ e)) (LM (Kn hS)) ?_)));have hv:=Y.eH (lo:=0) n acc.toList 0 (by simpa using hI.1) fun j v e=>by
  obtain⟨t,e2⟩:=hI.2 j v (by simpa using e)
  exact⟨t,by rw[e2];simp⟩
 show Vals ((List.range n).map fun k=>V.int ((k:Nat):Int)) acc.toList;rw[Lw]
 simpa using hv
end
noncomputable def JR(j:Nat)(σ:St):St:=[(σ[j]?).getD none]
noncomputable def xC(K:Pm)(j:Nat)(t:TA):TE:=vq (fun H l xs=>∃ n:Nat,H l=some (.eJ 0 n)/\xs=pd n) (fun v k H' σf=>∃ i q ls,v=.int i/\σf=[some (.ref q)]/\cc K H' q ls/\bw ls i=some (.int k)) (JR j) t
theorem vL{t:TA}{p pos p1 p2 p3:Pos}{y:Str}{c:Addr}(hg:Gl X "sorted")(hm:X.mg "sorted"=none)(ha:PA X [e] t)(h1:cS e=true)(hr:b7 (k+3) X.A)
  (hL:PE X (.Lambda params (.Subscript (.Name y p1) (.Name x p2) p3) scope lpos) (zO q params (.Subscript (.Name y p1) (.Name x p2) p3) scope [(y,c)]))
  (hsc:scope={kind:=.function,names:=[(x,.local),(y,.free)],isGenerator:=false,isCoroutine:=false,more:=[]}) (hxy:y≠x) (hx1:(x ==("__debug__":Str))=false) (hx2:(x ==("__classdict__":Str))=false) (hy1:(y ==("__debug__":Str))=false) (hy2:(y ==("__classdict__":Str))=false)
  (hj:X.N[j]?=some y) (hyc:X.env.scope.names.lookup y=some .cell) (hyl:X.env.cells.lookup y=some c)
  (hbind:∀ c' pm ctv u,bindArgs (PySem.W.kla_fn "<lambda>" q params (.Subscript (.Name y p1) (.Name x p2) p3) scope [(y,c)] pm (.ref c') ctv) ⟨[u],[]⟩=pure [(x,u)]) :
  PE X (.Call (.Name "sorted" p) [e] [⟨some "key",.Lambda params (.Subscript (.Name y p1) (.Name x p2) p3) scope lpos,kpos⟩] pos) (xC X.K j t):=by
 subst hsc;have lx:List.lookup x [(x,NameKind.local),(y,NameKind.free)]=some .local:=m4;have ly:List.lookup y [(x,NameKind.local),(y,NameKind.free)]=some .free:=by rw[jc hxy,m4]
 have lz:∀ z,z≠x->z≠y->List.lookup z [(x,NameKind.local),(y,NameKind.free)]=none:=fun z h1 h2=>by rw[jc h1,jc h2];rfl
 have lc:List.lookup y [(y,c)]=some c:=m4;have lcz:∀ z d,List.lookup z [(y,c)]=some d->z=y/\d=c:=fun z d e=>by
  by_cases h:z=y
  ·rw[h,lc] at e;cases e;exact⟨h,rfl⟩
  ·rw[jc h] at e;cases e
 refine xG (N:=[y]) hg hm ha h1 hr hL (fun pins σ H s H1 l xs A I hs g hh h64=>?_) rfl rfl rfl (fun z hz=>?_) lx hbind (fun _=>rfl) (fun z d e=>?_) (fun z hz=>?_) (fun pins σ H s I i z v e1 e2=>?_) fun A f c' s' H' σf v i hp=>?_
 ·obtain⟨n,hs,rfl⟩:=hs;rw[JY,Ky] at h64;exact oA hh I (g.same _ _ hs) h64
 ·rcases Ki.mp hz with rfl|hz
  ·nofun
  ·rw[Ko.mp hz];nofun
 ·obtain⟨rfl,rfl⟩:=lcz z d e;exact hyl
 ·by_cases z1:z=x
  ·have hz':List.lookup z [(x,NameKind.local),(y,NameKind.free)]=some .cell\/List.lookup z [(x,NameKind.local),(y,NameKind.free)]=some .free:=hz;rw[z1,lx] at hz';rcases hz' with h|h<;>cases h
  ·by_cases z2:z=y
   ·rw[z2];exact⟨c,lc⟩
   ·have hz':List.lookup z [(x,NameKind.local),(y,NameKind.free)]=some .cell\/List.lookup z [(x,NameKind.local),(y,NameKind.free)]=some .free:=hz;rw[lz z z1 z2] at hz';rcases hz' with h|h<;>cases h
 ·cases i with
  |succ i=>cases e1
  |zero =>
   have e1':some y=some z:=e1;cases e1';have e2':some ((σ[j]?).getD none)=some (some v):=e2;have e3:σ[j]?=some (some v):=by
    cases hσ:σ[j]? with
    |none=>rw[hσ] at e2';cases e2'
    |some o=>rw[hσ] at e2';exact e2'
   obtain⟨m,_,hl⟩:=I.loc;obtain⟨u,rv,lk⟩:=hl j y v hj e3 (.inr (.inl hyc));refine⟨ly,c,u,lc,?_,rv⟩;rcases lk with ⟨z,_⟩|⟨_,d,z1,z2⟩
   ·have z':X.env.scope.names.lookup y=some .local:=z;rw[hyc] at z';cases z'
   ·rw[hyl] at z1;cases z1;exact z2
 ·obtain⟨ix,a,ls,rfl,rfl,hq,ha'⟩:=hp;refine⟨_,BL vU (pv 1 rfl (.inr (.inr ly)) hy1 hy2) (pv 0 rfl (.inl lx) hx1 hx2) (Z.Jy rfl),?_⟩;exact⟨_,rfl,_,rfl,a,ls,ix,.int i,rfl,rfl,hq,ha',rfl,rfl⟩
theorem AI{β:Type}{g:α->β}{ks:List Int}{l:List α}:ic ks (l.map g)=(ic ks l).map g:=by
 have p:∀ l:List α,Paired (fun a b=>b=g a) l (l.map g):=fun l=>by
  induction l with
  |nil=>exact .nil
  |cons a l ih=>exact .cons rfl ih
 have q:∀{l:List α} {m:List β},Paired (fun a b=>b=g a) l m->m=l.map g:=fun {l m} h=>by
  induction h with
  |nil=>rfl
  |cons r _ ih=>rw[r,ih];rfl
 exact q (rA (p l))
namespace Y
noncomputable def jW(j:Nat)(us:UA):UE:=fun μ Q=>us μ fun rs μ1=>match rs,μ1[j]? with
 |[.tr (.eJ lo hi)],some (.tr (.tup ts))=>∃ ns:List Int,ts=ns.map T.int/\lo=0/\hi=ns.length/\ns.length<64/\Q (.fr (.lst ((ic ns (List.range ns.length)).map fun k=>T.int ((k:Nat):Int)))) μ1
 |_,_=>False
theorem vN{t:TA}{us:UA}(ha:RA K t us):RE K (xC K j t) (jW j us):=fun F ad B σ H μ Q Qt hK l q k =>
 ha F ad B σ H μ _ _ hK l q fun vs H' rs μ' l1 ps f k1 q1=>by
  split at q1
  ·rename_i lo hi ts hμ;obtain⟨ns,rfl,rfl,rfl,h64,q⟩:=q1
   cases ps with
   |cons p0 pr =>
    cases pr;have p0':=p0
    cases p0' with
    |eJ nb hp =>
     obtain⟨w,hw,rw1⟩:=l1.slot j _ hμ
     cases rw1 with
     |tup nq hq rr =>
      have ev:=eK rr;subst ev;have le:(pd ns.length).length=ns.length:=by rw[JY,Ky]
      refine⟨_,pd ns.length,ns,rfl,⟨ns.length,hp,rfl⟩,le.symm,by rw[le];exact h64,fun i v i2 e1 e2 H2 g=>?_,fun H2 D g n=>?_⟩
      ·have hi:i<ns.length:=(Kf.mp e2).1;have e3:(pd ns.length)[i]?=some (.int (i:Int)):=by simp[hi]
       rw[e3] at e1;cases e1;refine⟨_,_,_,rfl,?_,by rw[<- hK];exact cc.of (g.same _ _ hq),?_⟩
       ·show [(σ[j]?).getD none]=_;rw[hw];rfl
       ·exact bB (by rw[Kg,e2];rfl)
      ·refine k _ _ _ _ (Vr.ip (l1.same g.same) (?_:ay F.K _ B _ ((ic ns (List.range ns.length)).map fun k=>T.int ((k:Nat):Int))) n) (f.trans fun b o e z=>⟨bL.new n b o (g.same b o e),fun y=>?_⟩) k1 q
       ·rw[AI];exact (ic ns (List.range ns.length)).rec .nil fun a l ih=>.cons (.int _) ih
       ·rcases y with y|y
        ·subst y;rw[g.same b o e] at n;cases n
        ·exact z y
  ·exact q1.elim
theorem FC{us:UA}{p pos p1 p2 p3:Pos}{y z:Str}{c Pt d:Addr}(K:Pm)(hK:X.K=K)(hx:z∈dP)(ht:PySem.W.tabIn K z=some (c,Pt))(hcode:X.env.code=.ref c)(hq:X.env.qual=z++".<locals>.")(hdef:defaultsOf params X.env=([],[]))(hcl:closureFor scope X.env=pure [(y,d)])
  (hg:Gl X "sorted") (hm:X.mg "sorted"=none) (ha:YA X [e] us) (hr:b7 (k+3) X.A)
  (hsc:scope={kind:=.function,names:=[(x,.local),(y,.free)],isGenerator:=false,isCoroutine:=false,more:=[]}) (hxy:y≠x) (hx1:(x ==("__debug__":Str))=false) (hx2:(x ==("__classdict__":Str))=false) (hy1:(y ==("__debug__":Str))=false) (hy2:(y ==("__classdict__":Str))=false)
  (hj:X.N[j]?=some y) (hyc:X.env.scope.names.lookup y=some .cell) (hyl:X.env.cells.lookup y=some d)
  (hbind:∀ c' pm ctv u,bindArgs (PySem.W.kla_fn "<lambda>" ((z++".<locals>.")++"<lambda>") params (.Subscript (.Name y p1) (.Name x p2) p3) scope [(y,d)] pm (.ref c') ctv) ⟨[u],[]⟩=pure [(x,u)]) (h1:autoParam (cS e=true) ℜ0) :
  YE X (.Call (.Name "sorted" p) [e] [⟨some "key",.Lambda params (.Subscript (.Name y p1) (.Name x p2) p3) scope lpos,kpos⟩] pos) (jW j us):=by
 subst hK;obtain⟨t,q,rr⟩:=ha;exact⟨_,⟨vL hg hm q.h h1 hr (Dr hx ht hcode hq hdef hcl) hsc hxy hx1 hx2 hy1 hy2 hj hyc hyl hbind⟩,vN rr⟩
end Y
structure rP (K:Pm) (mg:Str->Option Value) (x:Str):Prop where
 ex:∃ c P,PySem.W.tabIn K x=some (c,P)/\∀ f cdv,vx K mg x f cdv->cdv=.ref c
theorem oR{c P:Addr}{oc oc':Value}{od od':Option Addr}{sl sl':Array (Option Value)}{fd:FuncData}{vs:Array Value}(a:PySem.W.nsIn K mainGlobals x=some (some (.ref f)))(l:K.lookup f=some ⟨oc,od,.func fd,sl⟩)(hc:fd.code=.ref c)
  (lc:K.lookup c=some ⟨oc',od',.fields vs,sl'⟩) (hv:vs[11]?=some (.ref P)):PySem.W.tabIn K x=some (c,P):=by
 unfold PySem.W.tabIn;rw[a];dsimp only;rw[l];dsimp only;rw[hc];dsimp only;rw[lc];dsimp only;rw[hv]
theorem kg(a:PySem.W.nsIn K mainGlobals x=some none):PySem.W.tabIn K x=none:=by
 unfold PySem.W.tabIn;rw[a]
theorem rP.mk'{c P:Addr}(X:K.In h)(G:h.Ns mainGlobals mg)(ht:PySem.W.tabIn K x=some (c,P)):rP K mg x:=
 ⟨c,P,ht,fun f cdv ⟨m,o,fd,lk,hd,e⟩=>by rw[<- e];exact PySem.W.law_code X G ht m (X _ _ lk) hd⟩
theorem hG.of{q:Program}{o1 o2 o3:Option (Addr×Addr)}(nt:PySem.W.noTabs K=true)(t1:PySem.W.tabIn K "by_worth"=o1)(t2:PySem.W.tabIn K "by_weight"=o2)(t3:PySem.W.tabIn K "code_of"=o3)(nd:((o1.toList++(o2.toList++o3.toList)).map (·.2)).Nodup)
  (f1:o1=none\/((recsOf q).find? (fun e=>e.name ==("by_worth":Str))).isSome=true) (f2:o2=none\/((recsOf q).find? (fun e=>e.name ==("by_weight":Str))).isSome=true) (f3:o3=none\/((recsOf q).find? (fun e=>e.name ==("code_of":Str))).isSome=true):hG q K:=by
 refine⟨nt,?_,fun x hx=>?_⟩
 ·have e:(bQ K).map (·.2.1)=(o1.toList++(o2.toList++o3.toList)).map (·.2):=by
   unfold bQ dP
   cases o1<;>cases o2<;>cases o3<;>simp[List.filterMap,t1,t2,t3]
  rw[e];exact nd
 ·unfold dP at hx;rcases Ki.mp hx with rfl|hx
  ·rw[t1];exact f1
  ·rcases Ki.mp hx with rfl|hx
   ·rw[t2];exact f2
   ·rw[Ko.mp hx,t3];exact f3
theorem kI{prog:Program}{w:World}:∀{ns:List Int} {us:List Value},Vals (ns.map V.int) us->(∀ i∈ns,i.natAbs<2^32)->∃ ts:List Str,ReprAll prog w us ts/\ts.length=ns.length/\∀ t∈ts,t.length<=33
 |[],_,.nil,_=>⟨[],.nil,rfl,fun _ z=>nomatch z⟩
 |n::ns,_,.cons ⟨t,e⟩ r,h=>by
  subst e;obtain⟨ts,h1,h2,h3⟩:=kI (prog:=prog) (w:=w) r fun i hi=>h i (Kh _ hi);have hn:=h n (Kk ..);have hlog:n.natAbs.log2<32:=by
   by_cases z:n.natAbs=0
   ·rw[z];decide
   ·exact (OC z).mpr hn
  refine⟨Str.ofString (toString n)::ts,.cons (ReprIs.int t (Pg hlog (by decide))) h1,by rw[Kj,Kj,h2],fun x hx=>?_⟩
  rcases Ki.mp hx with rfl|hx
  ·rw[PySem.ofString_length];exact int_text_length_le (by decide) hlog
  ·exact h3 x hx
theorem Bu:∀{ts:List Str},(∀ t∈ts,t.length<=33)->(ts.map (·.length)).sum<=33*ts.length
 |[],_=>Kc _
 |t::ts,h=>by
  have h1:=h t (Kk ..);have h2:=Bu fun x hx=>h x (Kh _ hx);rw[KD,List.sum_cons,Kj];lia
namespace Y
section
variable {X:Cx} {e:Expr} {vs:List Expr} {ue:UE} {u:UJ} {pos p:Pos}
noncomputable def Hc(ue:UE)(u:UJ):UJ:=fun μ Q=>ue μ fun r μ'=>match r with
 |.tr (.tup ts)=>∃ ns:List Int,ts=ns.map T.int/\ns.length<=50/\(∀ i∈ns,i.natAbs<2^32)/\u μ' Q
 |_=>False
theorem Iy(hr:b7 m X.A)(he:YE X e ue)(h:YJ X vs u)(hev:autoParam (evalEach (.FormattedValue e 114 none p::vs) X.env=eval (.FormattedValue e 114 none p) X.env::evalEach vs X.env) ℜ0):YJ X (.FormattedValue e 114 none p::vs) (Hc ue u):=by
 obtain⟨t,qe,r⟩:=he;refine⟨fun F ad B σ H μ Qt pins s acc k R hF l q I ha hk hR=>?_⟩;rw[hev];refine wpAny_FormattedValue_repr ?_;refine bS (qe.h pins s σ H (fun v H1=>∃ r1 μ1,Vr F ad B σ H1 μ1 v r1/\Fr B H (Bv B v r1) H1/\Kp μ μ1/\(match r1 with
  |.tr (.tup ts)=>∃ ns:List Int,ts=ns.map T.int/\ns.length<=50/\(∀ i∈ns,i.natAbs<2^32)/\u μ1 Qt
  |_=>False)) I (r F ad B σ H μ _ _ hF l q fun v H1 r1 μ1 w f k1 q1=>⟨r1,μ1,w,f,k1,q1⟩)) fun v s1 ⟨v',H1,I1,rv,r1,μ1,w,f,k1,q1⟩=>?_
 split at q1
 ·obtain⟨ns,rfl,hn,hi,q1⟩:=q1;obtain⟨l1,rp⟩:=w;have rp':Rep F.K H1 B v' (.tup (ns.map T.int)):=rp
  cases rp' with
  |tup nb hp rr =>
   cases rv;have ev:=eK rr;obtain⟨its,vv,pl,hz⟩:=I1.tuple (cc.of (K:=X.K) hp);rw[ev] at vv;obtain⟨ts,g1,g2,g3⟩:=kI (prog:=X.prog) (w:=X.w) vv hi;have hlen:(tupleText ts).length<=1800:=by
    have a1:=tupleText_len_le ts;have a2:=Bu g3;lia
   obtain⟨o,ho,hc,n,hd⟩:=pl;refine wpAny_pyReprObj_tuple ⟨o,ho,hc⟩ hr.gd (fun c z=>nomatch z) hr.Dz ho hd (by simpa using g1) (fun tu tk=>?_) (fc (by lia))
   have fin:∀(s3:Shared) (t3:Tok),Inv X pins σ H1 s3->∃ y t,(Value.str (tupleText ts) t3)=.str y t/\(acc++y).length<=sizeLine/\Joins (model X.prog X.w) X.A X.xe (evalEach vs X.env) (acc++y) R s3:=fun s3 t3 J=>by
    rw[Kj] at hk;refine⟨_,_,rfl,by rw[fO];exact fc (by lia),?_⟩
    exact h.run F ad B σ H1 μ1 Qt pins s3 (acc++tupleText ts) (k+1) R hF l1 q1 J (by rw[fO];lia) (by lia) fun H' μ' s' out l' f' k'=>hR H' μ' s' out l' (f.trans f') (k1.trans k')
   exact wpAny_formatField_str (fin _ _ (I1.tok _)) (fin _ _ (I1.tok _)) (fc (by lia))
 ·exact q1.elim
end
noncomputable def sf:V->List V->Hp->VK->Prop:=fun x vs H Q=>∃ z y,x=.str z/\vs=[.str y]/\z.length<=sizeLine/\Q (.str (Txt.rstripChars z y)) H
theorem t7:rJ X "str.rstrip" sf:=by
 intro pins s σ H x xs v us Q I rx rs h;obtain⟨z,y,rfl,rfl,hz,q⟩:=h;obtain⟨t,rfl⟩:=rx;obtain⟨u,rfl,k,rfl⟩:=vals1 rs;exact SC.rstripChars (fun t' k=>⟨.str _,H,I.tok _,⟨_,rfl⟩,q⟩) hz
noncomputable def mB:By:=fun z rs μ Q=>match rs with
 |[.tr (.str y)]=>z.length<=1000/\Q (.tr (.str (Txt.rstripChars z y))) μ
 |_=>False
theorem tG:Fv K sf mB:=by
 intro F ad B σ H μ Q Qt z xs rs hF l ps q k;unfold mB at q
 split at q
 ·cases ps with
  |cons h ps =>
   cases ps
   cases b8 h
   exact⟨z,_,rfl,rfl,fc (Kq q.1 (by decide)),k _ H _ μ (Vr.flat l (.str _)) Fr.refl (Kp.refl μ) q.2⟩
 ·exact q.elim
noncomputable def vI:V->List V->Hp->VK->Prop:=fun x vs H Q=>∃ z i y,x=.str z/\vs=[.int i,.str y]/\0<=i/\i<1000/\y.length=1/\Q (.str (Txt.ljustF z i (y.cps.getD 0 0))) H
theorem vz:rJ X "str.ljust" vI:=by
 intro pins s σ H x xs v us Q I rx rs h;obtain⟨z,i,y,rfl,rfl,h0,h1,hy,q⟩:=h;obtain⟨t,rfl⟩:=rx;obtain⟨u1,u2,rfl,⟨t1,rfl⟩,⟨t2,rfl⟩⟩:=vals2 rs;exact ljust_fill (padOk_of (by lia) (by lia)) hy fun t' k=>⟨.str _,H,I.tok _,⟨_,rfl⟩,q⟩
noncomputable def pA:By:=fun z rs μ Q=>match rs with
 |[.tr (.int i),.tr (.str y)]=>0<=i/\i<1000/\y.length=1/\Q (.tr (.str (Txt.ljustF z i (y.cps.getD 0 0)))) μ
 |_=>False
theorem xH:Fv K vI pA:=by
 intro F ad B σ H μ Q Qt z xs rs hF l ps q k;unfold pA at q
 split at q
 ·cases ps with
  |cons h ps =>
   cases ps with
   |cons h2 ps =>
    cases ps
    cases b8 h
    cases b8 h2
    exact⟨z,_,_,rfl,rfl,q.1,q.2.1,q.2.2.1,k _ H _ μ (Vr.flat l (.str _)) Fr.refl (Kp.refl μ) q.2.2.2⟩
 ·exact q.elim
end Y
theorem ae.calm{P:Program}{base:Heap}{ps:List Str}{md:List Bool}{tsx:yG}{tsp:dE}(F:ae P w K mg base (uN P w) k x ps (zN K md tsx))(h:∀ args Q,tsp args Q->tsx args Q fun _=>False):ae P w K mg base aU k x ps (spT K md tsp):=by
 obtain⟨f,fd,m,kp,b,G⟩:=F.ex;have to:∀ vs H Q E,spT K md tsp vs H Q E->zN K md tsx vs H Q (fun _ _ _=>False):=fun vs H Q E ⟨B,args,Qt,ag,bh,nd,ht,fin⟩=>⟨fun _=>False,⟨B,args,Qt,ag,bh,nd,h _ _ ht,fin⟩,fun x cls d e H' z=>z.elim⟩;refine⟨f,fd,m,kp,b,⟨fun vs H Q E q=>G.len vs H Q _ (to _ _ _ _ q),fun A outer s H args us vs Q E hr e0 hb r q=>Ob (G.run A outer s H args us vs Q _ hr e0 hb r (to _ _ _ _ q)) fun r s' hq=>?_⟩⟩
 cases r with
 |error e =>
  obtain⟨_,_,_,_,_,_,_,_,_,_,_,_,_,_,_,_,z⟩:=hq;exact z.elim
 |ok fl=>cases fl<;>exact hq
theorem pw(x y:Str):(Txt.rstripChars x y).cps.toList.reverse=x.cps.toList.reverse.dropWhile y.cps.contains:=by
 have key:∀(p:Nat->Bool) (l:List Nat),(l.take (l.length-(l.reverse.takeWhile p).length)).reverse=l.reverse.dropWhile p:=fun p l=>by
  have h:(l.reverse.takeWhile p).length<=l.length:=by simpa using (List.takeWhile_sublist p (l:=l.reverse)).length_le
  rw[List.reverse_take,<- rS];congr 1;lia
 have hl:x.length=x.cps.toList.length:=by rw[KC];rfl
 rw[<- key];unfold Txt.rstripChars Txt.stripBy;split
 ·rename_i h;unfold stripSame at h;rw[KI] at h;have h2:x.length-(x.cps.toList.reverse.takeWhile y.cps.contains).length=x.length:=by simpa[stripLo,stripHi] using h.2
  rw[<- hl,h2,hl,Oi]
 ·have e:∀(a:Array Nat) (j:Nat),(a.extract 0 j).toList=a.toList.take j:=fun a j=>by simp
  have e2:=e x.cps (x.length-(x.cps.toList.reverse.takeWhile y.cps.contains).length);rw[hl] at e2;exact K4 List.reverse e2
namespace A
theorem jW(j:Nat)(us:UA)(μ:Mu)(Q:R->Mu->Prop):Y.jW j us μ Q=us μ fun rs μ1=>match rs,μ1[j]? with
 |[.tr (.eJ lo hi)],some (.tr (.tup ts))=>∃ ns:List Int,ts=ns.map T.int/\lo=0/\hi=ns.length/\ns.length<64/\Q (.fr (.lst ((ic ns (List.range ns.length)).map fun k=>T.int ((k:Nat):Int)))) μ1
 |_,_=>False:=rfl
theorem Hc(ue:UE)(u:UJ)(μ:Mu)(Q:Mu->Prop):Y.Hc ue u μ Q=ue μ fun r μ'=>match r with
 |.tr (.tup ts)=>∃ ns:List Int,ts=ns.map T.int/\ns.length<=50/\(∀ i∈ns,i.natAbs<2^32)/\u μ' Q
 |_=>False:=rfl
theorem x_(z y:Str)(μ:Mu)(Q:R->Mu->Prop):Y.mB z [.tr (.str y)] μ Q=(z.length<=1000/\Q (.tr (.str (Txt.rstripChars z y))) μ):=rfl
theorem zk(z:Str)(i:Int)(y:Str)(μ:Mu)(Q:R->Mu->Prop):Y.pA z [.tr (.int i),.tr (.str y)] μ Q=(0<=i/\i<1000/\y.length=1/\Q (.tr (.str (Txt.ljustF z i (y.cps.getD 0 0)))) μ):=rfl
end A
namespace Y
noncomputable def BM:R2:=fun x y H Q=>∃(c:Nat) (k:Int),x=.str ⟨#[c]⟩/\y=.int k/\0<=k/\k<=1000/\Q (.str ⟨(List.replicate k.toNat c).toArray⟩) H
theorem r8:cK X (binaryOp .Mult) BM:=by
 intro pins s σ H x y v u Q I rx ry h;obtain⟨c,k,rfl,rfl,h0,h1,q⟩:=h;obtain⟨t,rfl⟩:=rx;obtain⟨t2,rfl⟩:=ry;have e:Txt.mul ⟨#[c]⟩ k=⟨(List.replicate k.toNat c).toArray⟩:=by
  have:=mul_one_list c k
  cases hz:Txt.mul ⟨#[c]⟩ k with
  |mk a=>rw[hz] at this;rw[<- this,MA]
 have ok:MulOk ⟨#[c]⟩ k:=by
  refine⟨by simp only[Bool.or_eq_false_iff,MP];lia,fun z _=>?_,fun z _=>?_⟩
  ·have hl:((⟨#[c]⟩:Str).length:Int)=1:=rfl;rw[hl];have:1<=(2^63-1) / k:=by
    rw[OE (by lia)];lia
   lia
  ·have hl:(⟨#[c]⟩:Str).length=1:=rfl;rw[hl,Nat.one_mul];exact Kv (NX.mpr (Kq (show k.toNat<=1000 by lia) (by decide)))
 exact SB.mul ok fun t' j=>⟨.str _,H,I.tok _,⟨t',by rw[e]⟩,q⟩
noncomputable def vG:U2:=fun r1 r2 μ Q=>match cont μ r1,cont μ r2 with
 |some (.str z),some (.int k)=>∃ c:Nat,z=⟨#[c]⟩/\0<=k/\k<=1000/\Q (.tr (.str ⟨(List.replicate k.toNat c).toArray⟩)) μ
 |_,_=>False
theorem sS:ib K BM vG:=by
 intro F ad B σ H μ Q Qt x y r1 r2 hK l h1 h2 q k;unfold vG at q
 split at q
 ·rename_i z j e1 e2;obtain⟨c,rfl,g0,g1,q⟩:=q;have v1:=Hv.vw l h1 e1;have v2:=Hv.vw l h2 e2;cases v1;cases v2;exact⟨c,j,rfl,rfl,g0,g1,k _ H _ μ (Vr.flat l (.str _)) Fr.refl (Kp.refl μ) q⟩
 ·exact q.elim
end Y
namespace A
theorem CD(z:Str)(k:Int)(μ:Mu)(Q:R->Mu->Prop):Y.vG (.tr (.str z)) (.tr (.int k)) μ Q=(∃ c:Nat,z=⟨#[c]⟩/\0<=k/\k<=1000/\Q (.tr (.str ⟨(List.replicate k.toNat c).toArray⟩)) μ):=rfl
end A
namespace Y
noncomputable def yz(K:Pm):List V->Hp->VK->Prop:=fun xs H Q=>Bl K xs H Q\/∃ p ns,xs=[.ref p]/\cx K H p (ns.map V.int)/\ns.length<64/\∀ ns':List Int,ns'.Perm ns->ns'.Pairwise (·<=·)->∀ l,H l=none->Q (.ref l) (upd H l (.lst (ns'.map V.int)))
theorem qK(K:Pm)(hK:X.K=K):bf X (.builtin "sorted") (yz K):=by
 refine (tX K hK).or ?_;subst hK;intro pins s σ H xs us Q I r h;obtain⟨p,ns,rfl,hq,h64,q⟩:=h;obtain⟨u,rfl,ru⟩:=vals1 r;cases ru;obtain⟨its,rv,pl,hz⟩:=I.list hq;have hi:=intsAre_of rv;refine sorted_ints pl.isList hi (by rw[ju hi];exact h64) fun out ns' a1 a2 a3=>?_
 obtain⟨e,he⟩:=sortedAll_at s.heap its out;refine⟨.ref (s.heap.objs.size+1),_,I.laid (t':=s.toks) (fun b ob q=>sortedAll_old q) (Mc _) (show bt X.prog X.w _ _ _ (.lst (ns'.map V.int)) from⟨?_,out.toList,e,e_ a1,by simpa using he⟩),rfl,q ns' a2 a3 _ (I.aO.fresh (Mc _))⟩
 rw[JY,a2.length_eq];exact Kq (LM h64) (by decide)
noncomputable def y4:T->Mu->(R->Mu->Prop)->Prop:=fun t μ Q=>match t with
 |.tup xs=>∃ ns:List Int,xs=ns.map T.int/\ns.length<64/\∀ ns':List Int,ns'.Perm ns->ns'.Pairwise (·<=·)->Q (.fr (.lst (ns'.map T.int))) μ
 |.lst xs=>∃ ns:List Int,xs=ns.map T.int/\ns.length<64/\∀ ns':List Int,ns'.Perm ns->ns'.Pairwise (·<=·)->Q (.fr (.lst (ns'.map T.int))) μ
 |_=>False
theorem wY:RC K (yz K) (yD y4):=m9 fun F ad B σ H μ Q Qt x t hK l v1 q k=>by
 subst hK
 cases v1 with
 |tup ha ra =>
  obtain⟨ns,rfl,h64,q⟩:=q;exact .inl ⟨_,ns,rfl,by rw[<- Y.eK ra];exact cc.of ha,h64,fun ns' a2 a3 p hp=>k _ _ _ (Vr.ip l (dI _) hp) (Fr.more hp) (q ns' a2 a3)⟩
 |lst ha ra =>
  obtain⟨ns,rfl,h64,q⟩:=q;exact .inr ⟨_,ns,rfl,by rw[<- Y.eK ra];exact cx.of ha,h64,fun ns' a2 a3 p hp=>k _ _ _ (Vr.ip l (dI _) hp) (Fr.more hp) (q ns' a2 a3)⟩
 |_=>exact q.elim
noncomputable def ET:V->List V->Hp->VK->Prop:=fun x vs H Q=>∃ a:Int,x=.int a/\vs=[]/\Q (.int (Builtin.Int.intBits a:Nat)) H
theorem AE:rJ X "int.bit_length" ET:=by
 intro pins s σ H x xs v us Q I rx rs h;obtain⟨a,rfl,rfl,q⟩:=h;obtain⟨t,rfl⟩:=rx;cases rs;exact call_int_bit_length ⟨.int _,H,I.tok _,⟨_,rfl⟩,q⟩
noncomputable def rm(uo:UE):UE:=fun μ Q=>uo μ fun r μ1=>match r with
 |.tr (.int a)=>Q (.tr (.int (Builtin.Int.intBits a:Nat))) μ1
 |_=>False
theorem bits{uo:UE}{pos:Pos}(ho:YE X o uo)(hbase:autoParam (attributeBase o "bit_length" X.env (eval o X.env)=eval o X.env) ℜ0)(hline:autoParam ((apos.endLine == pos.line)=true) ℜ0):YE X (.Call (.Attribute o "bit_length" apos) [] [] pos) (rm uo):=by
 obtain⟨t,q,rr⟩:=ho;refine⟨_,⟨CN PySem.F.plainAttrs_int PySem.F.slot_int_bit_length PySem.F.type_int_bit_length AE q.h hbase hline⟩,fun F ad B σ H μ Q Qt hF l q k=>rr F ad B σ H μ _ _ hF l q fun v H1 r1 μ1 v1 f1 k1 q1=>?_⟩
 split at q1
 ·have rp:=v1.2;cases rp;exact⟨rfl,_,rfl,rfl,k _ H1 _ μ1 (Vr.flat v1.rl (.int _)) f1.d k1 q1⟩
 ·exact q1.elim
end Y
namespace A
theorem rm(uo:UE)(μ:Mu)(Q:R->Mu->Prop):Y.rm uo μ Q=uo μ fun r μ1=>match r with
 |.tr (.int a)=>Q (.tr (.int (Builtin.Int.intBits a:Nat))) μ1
 |_=>False:=rfl
end A
theorem aq{u w:US}{E:Ed}{μ:Mu}(h:∀ N:Mu->Prop,(∀ μ',w E μ'->N μ')->u {E with nx:=N} μ):Y.A7 u w E μ:=h _ fun _ z=>z
noncomputable def i6(h:Heap)(d:Addr)(es:Array DictEntry)(ep:Nat):Prop:=∃ o,h.get? d=some o/\o.ExactDict/\o.data=.dict es ep
section
variable {prog:Program} {w:World} {A:Around} {E:Value->Shared->Prop} {s:Shared}
theorem i6.ty{d:Addr}(x:i6 s.heap d es ep):s.TypeIs (.ref d) "dict":=let ⟨o,ho,hc,_⟩:=x;⟨o,ho,hc.1⟩
theorem i6.keep{d:Addr}(x:i6 h d es ep)(k:∀ o,h.get? d=some o->h'.get? d=some o):i6 h' d es ep:=let ⟨o,ho,r⟩:=x;⟨o,k _ ho,r⟩
theorem i6.lt{d:Addr}(x:i6 h d es ep):d<h.objs.size:=let ⟨_,ho,_⟩:=x;Kn ho
theorem AD{d:Addr}(low:(d == sysModules)=false)(x:i6 s.heap d es ep)
  (q:Q (.ref s.heap.objs.size) {s with heap:=s.heap.push {cls:=.type "dict_keyiterator",data:=.fields #[.ref d,.int 0 0,.int es.size 0,.int ep 0]}}):wpAny (model prog w) A (pyIter (.ref d)) Q E s:=by
 obtain⟨o,ho,hx,hdat⟩:=id x;refine wpAny_pyIter_slot x.ty PySem.F.slot_dict_iter (Lh PySem.F.slot_dict_iter x.ty PySem.F.entry_dict_iter ?_ (PySem.F.args_dict_iter_1 _));unfold Builtin.«dict.__iter__» Builtin.Dict.dictSlotNone;refine JU (JU (wpAny_notOrdered_dict x.ty ?_));show wpAny _ _ (pure (Value.ref d)) _ _ s;refine Kb ?_;show wpAny _ _ (Builtin.Dict.showsAll d >>= _) _ _ s;unfold Builtin.Dict.showsAll;rw[low,JZ Ka];refine JU (Kb (JU (MT ho hdat (JU (O7 ho hdat ?_)))));exact JU (Ll (Kb ⟨_,rfl,"dict_keyiterator",_,⟨_,Km _ rfl,rfl⟩,PySem.F.slot_dict_keyiterator_next.lookup,q⟩))
theorem AF{it d:Addr}{Q:Option Value->Shared->Prop}(hit:s.heap.IsKeyIter it d i es.size ep)(x:i6 s.heap d es ep)(hi:i<es.size)
  (q:∀ h',h'.IsKeyIter it d (i+1) es.size ep->Heap.SameBut it s.heap h'->Q (some es[i].key) {s with heap:=h'}):wpAny (model prog w) A (pyNext (.ref it)) Q E s:=by
 obtain⟨o,ho,hc,hd⟩:=id hit;obtain⟨od,hod,hx,hdd⟩:=id x;unfold pyNext;refine JU (NM (Le (name:=Str.ofString "__next__") hit.typeIs PySem.F.slot_dict_keyiterator_next (Lh PySem.F.slot_dict_keyiterator_next hit.typeIs PySem.F.entry_dict_keyiterator_next ?_ (PySem.F.args_dict_keyiterator_next_1 _))));refine JU (Kb (JU (JU ?_)))
 first|refine JU (LH hit.typeIs (Kb (JU (N6 ho hd ?_))))|refine JU (Mn hit.typeIs (Kb (JU (N6 ho hd ?_))))
 simp only[show Builtin.Dict_items.ownsTuple "dict_keyiterator"=false by decide,Lr,LJ]
 show wpAny _ _ (if (Value.ref d == Value.none)=true then _ else _) _ _ s;rw[JZ (show ¬ ((Value.ref d == Value.none)=true) from Ka)]
 refine JU (Kb (JU (MT hod hdd ?_)));rw[JZ (by simp)]
 refine JU (Kb (JU (O7 hod hdd ?_)));rw[JZ (by simp)]
 refine Kb ?_;simp only[show ¬ ((i:Int)<0) by lia,LJ,K6,NY hi]
 refine JU ?_
 first|refine JU (LH hit.typeIs (Kb (JU (Ni hit.typeIs ?_))))|refine JU (Mn hit.typeIs (Kb (JU (Ni hit.typeIs ?_))))
 show wpAny _ _ (setField (.ref it) 1 (rawInt ((i:Int)+1)) >>= _) _ _ s;refine JU (MN ho hd (by simp) ?_)
 have h2:(s.heap.update it (Obj.mapFields (·.setIfInBounds 1 (rawInt ((i:Int)+1))))).IsKeyIter it d (i+1) es.size ep:=⟨_,M6 _ ho (Nf (My hd _)),(Obj.cls_mapFields ..).trans hc,by rw[My hd];simp[rawInt]⟩
 refine JU (KP (JU (Ni (s:={s with heap:=s.heap.update it (Obj.mapFields (·.setIfInBounds 1 (rawInt ((i:Int)+1))))}) h2.typeIs ?_)))
 show wpAny _ _ (pure es[i].key) _ _ _;exact Kb (Kb ⟨_,rfl,Kb (q _ h2 (Lz ..))⟩)
theorem zG{it d:Addr}{Q:Option Value->Shared->Prop}(hh:A.handled=none)(hit:s.heap.IsKeyIter it d es.size es.size ep)(x:i6 s.heap d es ep)
  (q:∀ h',Heap.ExtBut it s.heap h'->Q none {s with heap:=h'}):wpAny (model prog w) A (pyNext (.ref it)) Q E s:=by
 obtain⟨o,ho,hc,hd⟩:=id hit;obtain⟨od,hod,hx,hdd⟩:=id x;unfold pyNext;refine JU (NM (Le (name:=Str.ofString "__next__") hit.typeIs PySem.F.slot_dict_keyiterator_next (Lh PySem.F.slot_dict_keyiterator_next hit.typeIs PySem.F.entry_dict_keyiterator_next ?_ (PySem.F.args_dict_keyiterator_next_1 _))));refine JU (Kb (JU (JU ?_)))
 first|refine JU (LH hit.typeIs (Kb (JU (N6 ho hd ?_))))|refine JU (Mn hit.typeIs (Kb (JU (N6 ho hd ?_))))
 simp only[show Builtin.Dict_items.ownsTuple "dict_keyiterator"=false by decide,Lr,LJ]
 show wpAny _ _ (if (Value.ref d == Value.none)=true then _ else _) _ _ s;rw[JZ (show ¬ ((Value.ref d == Value.none)=true) from Ka)]
 refine JU (Kb (JU (MT hod hdd ?_)));rw[JZ (by simp)]
 refine JU (Kb (JU (O7 hod hdd ?_)));rw[JZ (by simp)]
 refine Kb ?_;simp only[show ¬ ((es.size:Int)<0) by lia,LJ,K6,OF (Kc es.size)]
 refine JU ?_
 first|refine JU (LH hit.typeIs (Kb ?_))|refine JU (Mn hit.typeIs (Kb ?_))
 show wpAny _ _ (setField (.ref it) 0 .none >>= _) _ _ s;refine JU (MN ho hd (by simp) ?_)
 show wpAny _ _ (newExc (.type "StopIteration") [] >>= _) _ _ _;refine JU ?_;simp only[newExc,newTuple];refine JU (Ll ?_ (by size_fits))
 refine JU (m:=firstArgMember _ _) (wpAny_of_eq (a:=Value.none) (by first|rfl | (simp only[firstArgMember];rfl)) (Ll ?_ (by size_fits)))
 simp only[raiseNew];refine JU (wpAny_handled ?_);rw[show A.in1.handled=none from hh];refine JU (Kb (wpAny_throw ?_));refine JU (wpAny_isInstance (T:="StopIteration") (b:=true) ⟨_,Km _ rfl,rfl⟩ isSubtype_stop ?_);exact Kb (q _ (((Lz ..).extBut.push _).push _))
end
theorem vy(hh:A.handled=none)(I d:Addr)(ne:d≠I)(es:Array DictEntry)(ep:Nat):
  Walks prog w A I [I,d] [I] es.size (fun i v=>∃ h:i<es.size,v=es[i].key) (fun i h=>h.IsKeyIter I d i es.size ep/\i6 h d es ep) where
 sub:=fun b hb=>by simp at hb;simp[hb]
 frame:=fun _ _ _ st hk=>⟨st.1.at fun o e=>hk I (by simp) o e,st.2.keep fun o e=>hk d (by simp) o e⟩
 item:=fun i s Q E hi st hQ=>AF st.1 st.2 hi fun h' a b=>hQ _ h' s.toks ⟨hi,rfl⟩ ⟨a,st.2.keep fun o e=>b.extBut _ _ ne e⟩ fun c o hc e=>b.extBut c o (fun h=>hc (by simp[h])) e
 done:=fun s Q E st hQ=>zG hh st.1 st.2 fun h' he=>hQ h' s.toks fun c o hc e=>he c o (fun h=>hc (by simp[h])) e
 self:=fun _ _ _ _ st hQ=>wpAny_pyIter_keyiter st.1 hQ
theorem DL{d:Addr}(low:(d == sysModules)=false):PySem.W.KdlSrc prog w "dict" d d es.size (fun i v=>∃ h:i<es.size,v=es[i].key) (fun h=>i6 h d es ep) where
 type:=fun _ x=>x.ty
 there:=fun _ x=>⟨x.lt,x.lt⟩
 keep:=fun _ _ x k=>x.keep fun o e=>k d (.inl rfl) o e
 notList:=by decide
 notTuple:=by decide
 hint:=fun _ _ _ _ x q=>PySem.W.kdl_hint_dict x.ty q
 iter:=fun _ _ hh x=>⟨_,_,(fun _ _ q=>AD low x q),vy hh _ d (K1 x.lt) es ep,⟨⟨_,Km _ rfl,rfl,rfl⟩,x.keep fun _ e=>JW _ e⟩⟩
theorem yn{es:List DictEntry}(h:KTD.Rows (w_ K) es D):es.length=D.length:=by
 induction h with
 |nil=>rfl
 |cons _ _ _ ih=>simp[ih]
theorem xV{es:List DictEntry}(h:KTD.Rows (w_ K) es D):Vals (D.map fun p=>V.str p.1) (es.map fun e=>e.key):=by
 induction h with
 |nil=>exact .nil
 |cons e _ _ ih=>exact .cons ⟨_,e⟩ ih
noncomputable def vH(K:Pm)(D:List (Str×List Str)):List V->Hp->VK->Prop:=fun xs H Q=>∃ d,xs=[.ref d]/\ml K d D/\D.length<=sizeLine/\∀ l,H l=none->Q (.ref l) (upd H l (.lst (D.map fun p=>V.str p.1)))
theorem pX(K:Pm)(hK:X.K=K)(hc:X.calm=true):bf X (.type "list") (vH K D):=by
 intro pins s σ H xs us Q I r h;subst hK;obtain⟨d,rfl,hd,hz,q⟩:=h;obtain⟨u,rfl,rx⟩:=vals1 r;cases rx;obtain⟨o,es,ep,ho,hx,hdat,hr⟩:=hd.ex;have at0:i6 s.heap d es ep:=⟨o,I.h8 _ _ ho,hx,hdat⟩;have hl:es.size=D.length:=by rw[<- yn hr,KC]
 refine PySem.W.kdl_call (DL hd.low) (I.ok.hd hc) at0 (by rw[hl];exact hz) fun h' tk acc c' hk hS hI=>?_
 have hv:Vals (D.map fun p=>V.str p.1) acc.toList:=by
  have e:acc.toList=es.toList.map fun e=>e.key:=by
   refine LC fun j=>?_;rw[K5,Kg,K5]
   cases z:acc[j]? with
   |none =>
    have:acc.size<=j:=NN.mp z;rw[OF (by rw[<- hI.1];exact this)];rfl
   |some v =>
    obtain⟨hj,rfl⟩:=hI.2 j v z;rw[NY hj];rfl
  rw[e];exact xV hr
 refine⟨.ref s.heap.objs.size,_,I.laid (t':=tk) hk (Kc _) (show bt X.prog X.w _ h' _ (.lst _) from⟨?_,acc.toList,c',hv,by simpa using hS⟩),rfl,q _ (I.aO.fresh (Kc _))⟩
 rw[JY];exact hz
namespace Y
noncomputable def sO(D:List (Str×List Str))(ue:UE):UE:=fun μ Q=>ue μ fun r μ'=>match r with
 |.tr (.str k)=>∃ i:Nat,(D.map fun p=>p.1)[i]?=some k/\(∀ m,m<i->(D.map fun p=>p.1)[m]?≠some k)/\Q (.tr (.int (i:Nat))) μ'
 |_=>False
theorem Jl{p pl pos cpos:Pos}(K:Pm)(hK:X.K=K)(hc:X.calm=true)(hg:Gl X x)(hd:∃ d,X.mg x=some (.ref d)/\ml K d D)(hgl:Gl X "list")(hml:X.mg "list"=none)(he:YE X e ue)(hz:autoParam (D.length<=1000) ℜ1)(h1:autoParam (cS e=true) ℜ0)
  (hbase:autoParam (attributeBase (.Call (.Name "list" pl) [.Name x p] [] cpos) "index" X.env (eval (.Call (.Name "list" pl) [.Name x p] [] cpos) X.env)=eval (.Call (.Name "list" pl) [.Name x p] [] cpos) X.env) ℜ0) (hline:autoParam ((apos.endLine == pos.line)=true) ℜ0) (hdb:autoParam ((x ==("__debug__":Str))=false) ℜ1) :
  YE X (.Call (.Attribute (.Call (.Name "list" pl) [.Name x p] [] cpos) "index" apos) [e] [] pos) (sO D ue):=by
 obtain⟨t,q,r⟩:=he;obtain⟨d,hm,hd⟩:=hd;have hlist:QE X (.Call (.Name "list" pl) [.Name x p] [] cpos) (Bg (vH K D) (lD (tC (.ref d)) oq)):=Z.ct (pX K hK hc) hgl hml (by decide +kernel) (Z.cons ⟨mh hg hm rfl hdb⟩ Z.nil)
 refine⟨_,Z.bm K hK PySem.F.plainAttrs_list PySem.F.slot_list_index PySem.F.type_list_index rD hlist (Z.cons q Z.nil (h:=h1)) hbase hline (by simp[h1]) (show 1<30 by decide),fun F ad B σ H μ Q Qt hF l q k=>?_⟩
 refine⟨d,rfl,hd,Kq hz (by decide),fun a ha=>?_⟩
 have sm:bL H (upd H a (.lst (D.map fun p=>V.str p.1))):=bL.new ha;refine⟨?_,r F ad B σ _ μ _ _ hF (l.same sm) q fun v H' r1 μ' v1 f k1 q1=>?_⟩
 ·exact .inl ⟨rfl,_,cx.of az⟩
 ·split at q1
  ·rename_i z;obtain⟨l1,rp⟩:=v1;cases rp;obtain⟨i,h2,h3,q2⟩:=q1;refine⟨a,D.map fun p=>p.1,z,i,rfl,?_,rfl,h2,h3,k _ H' _ μ' (Vr.flat l1 (.int _)) ((Fr.same sm).trans f.d) k1 q2⟩;rw[LA];exact (f a _ az (l.kB ha)).1
  ·exact q1.elim
noncomputable def rj(uo ue:UE):UE:=fun μ Q=>uo μ fun ro μ1=>match ro with
 |.fr (.lst ts)=>ue μ1 fun r μ2=>(match r with
  |.tr (.str k)=>∃(ws:List Str) (i:Nat),ts=ws.map T.str/\ws[i]?=some k/\(∀ m,m<i->ws[m]?≠some k)/\Q (.tr (.int (i:Nat))) μ2
  |_=>False)
 |_=>False
theorem Ic{uo:UE}{pos:Pos}(K:Pm)(hK:X.K=K)(ho:YE X o uo)(he:YE X e ue)(h1:autoParam (cS e=true) ℜ0)
  (hbase:autoParam (attributeBase o "index" X.env (eval o X.env)=eval o X.env) ℜ0) (hline:autoParam ((apos.endLine == pos.line)=true) ℜ0):YE X (.Call (.Attribute o "index" apos) [e] [] pos) (rj uo ue):=by
 obtain⟨t,q,r⟩:=ho;obtain⟨t',q',r'⟩:=he;refine⟨_,Z.bm K hK PySem.F.plainAttrs_list PySem.F.slot_list_index PySem.F.type_list_index rD q (Z.cons q' Z.nil (h:=h1)) hbase hline (by simp[h1]) (show 1<30 by decide),fun F ad B σ H μ Q Qt hF l q k=>r F ad B σ H μ _ _ hF l q fun v H1 r1 μ1 v1 f1 k1 q1=>?_⟩
 split at q1
 ·rename_i ts;obtain⟨l1,a,rfl,nb,n0,lm,bx⟩:=v1;rcases bx.is with ⟨ts',vs,e1,hl,rv⟩|⟨_,_,_,e1,_⟩
  case inr=>cases e1
  cases e1;refine⟨.inl ⟨rfl,_,cx.of hl⟩,r' F ad B σ H1 μ1 _ _ hF l1 q1 fun v2 H2 r2 μ2 v2r f2 k2 q2=>?_⟩
  split at q2
  ·rename_i z;obtain⟨l2,rp⟩:=v2r;cases rp;obtain⟨ws,i,rfl,h2,h3,q3⟩:=q2;rw[fZ rv] at hl;exact⟨a,ws,z,i,rfl,(f2.d a _ hl nb).1,rfl,h2,h3,k _ H2 _ μ2 (Vr.flat l2 (.int _)) (f1.d.trans f2.d) (k1.trans k2) q3⟩
  ·exact q2.elim
 ·exact q1.elim
end Y
namespace A
theorem rj(uo ue:UE)(μ:Mu)(Q:R->Mu->Prop):Y.rj uo ue μ Q=uo μ fun ro μ1=>match ro with
 |.fr (.lst ts)=>ue μ1 fun r μ2=>(match r with
  |.tr (.str k)=>∃(ws:List Str) (i:Nat),ts=ws.map T.str/\ws[i]?=some k/\(∀ m,m<i->ws[m]?≠some k)/\Q (.tr (.int (i:Nat))) μ2
  |_=>False)
 |_=>False:=rfl
theorem sO(D:List (Str×List Str))(ue:UE)(μ:Mu)(Q:R->Mu->Prop):Y.sO D ue μ Q=ue μ fun r μ'=>match r with
 |.tr (.str k)=>∃ i:Nat,(D.map fun p=>p.1)[i]?=some k/\(∀ m,m<i->(D.map fun p=>p.1)[m]?≠some k)/\Q (.tr (.int (i:Nat))) μ'
 |_=>False:=rfl
end A
noncomputable def FR(K:Pm)(mg:Str->Option Value)(x:Str):Prop:=∃ p o,mg x=some (.ref p)/\K.lookup p=some o/\o.dict=none
namespace Y
noncomputable def qX(xs:List T)(ue:UE):UE:=fun μ Q=>ue μ fun r μ2=>match r with
 |.tr (.str k)=>∃(ws:List Str) (j:Nat),xs=ws.map T.str/\ws[j]?=some k/\(∀ m,m<j->ws[m]?≠some k)/\Q (.tr (.int (j:Nat))) μ2
 |_=>False
theorem Ii{xs:List T}{p pos:Pos}(K:Pm)(hK:X.K=K)(hg:Gl X x)(hc:∃ w u,X.mg x=some u/\RelV w u/\∀ H B,Rep K H B w (.dZ xs))(hn:FR K X.mg x)(he:YE X e ue)
  (hbase:autoParam (attributeBase (.Name x p) "index" X.env (eval (.Name x p) X.env)=eval (.Name x p) X.env) ℜ0) (hline:autoParam ((apos.endLine == pos.line)=true) ℜ0) (h1:autoParam (cS e=true) ℜ0) (hdb:autoParam ((x ==("__debug__":Str))=false) ℜ1):YE X (.Call (.Attribute (.Name x p) "index" apos) [e] [] pos) (qX xs ue):=by
 obtain⟨t',q',r'⟩:=he;obtain⟨w,u,hm,rw',rep⟩:=hc;obtain⟨a,o,hm2,ho,hd⟩:=hn;subst hK;rw[hm] at hm2;cases hm2;refine⟨_,Z.bm X.K rfl PySem.F.plainAttrs_tuple PySem.F.slot_tuple_index PySem.F.type_tuple_index Dc (Z.glob hg hm rw' hdb) (Z.cons q' Z.nil (h:=h1)) hbase hline (by simp[h1]) (show 1<30 by decide),fun F ad B σ H μ Q Qt hF l q k=>?_⟩
 have rp:=rep H B
 cases rp with
 |dZ ha ra =>
  have e0:=Value.ref.inj (show Value.ref _=Value.ref _ from rw');subst e0;refine⟨.inr (.inl ⟨rfl,o,ho,?_,hd⟩),r' F ad B σ H μ _ _ hF l q fun v2 H2 r2 μ2 v2r f2 k2 q2=>?_⟩
  ·obtain⟨o',its,n,h1,h2,_⟩:=ha;rw[ho] at h1;cases h1;exact h2
  split at q2
  ·rename_i z;obtain⟨l2,rp⟩:=v2r;cases rp;obtain⟨ws,j,rfl,h2,h3,q3⟩:=q2;have e:=fZ ra;subst e;exact⟨_,ws,z,j,rfl,.inr ha,rfl,h2,h3,k _ H2 _ μ2 (Vr.flat l2 (.int _)) f2.d k2 q3⟩
  ·exact q2.elim
end Y
namespace A
theorem qX(xs:List T)(ue:UE)(μ:Mu)(Q:R->Mu->Prop):Y.qX xs ue μ Q=ue μ fun r μ2=>match r with
 |.tr (.str k)=>∃(ws:List Str) (j:Nat),xs=ws.map T.str/\ws[j]?=some k/\(∀ m,m<j->ws[m]?≠some k)/\Q (.tr (.int (j:Nat))) μ2
 |_=>False:=rfl
end A
section
variable {prog:Program} {w:World} {A:Around} {E:Value->Shared->Prop} {s:Shared}
structure Cu (prog:Program) (w:World) (s:Shared) (vs:List Value) (κ:SortKind) (kz:Nat->Int) (h:Heap):Prop where
 kind:∀(A:Around) (E:Value->Shared->Prop) (Q:SortKind->Shared->Prop),2<=vs.length->Q κ {s with heap:=h}->wpAny (model prog w) A (keyKind' vs.toArray) Q E {s with heap:=h}
 lt:∀(A:Around) (C:Bool->Shared->Prop) (i j:Nat),i<vs.length->j<vs.length->C (decide (kz i<kz j)) {s with heap:=h}->kas_ask prog w A κ vs i j C {s with heap:=h}
theorem wD{a:Addr}{vs:List Value}{κ:SortKind}{kz:Nat->Int}{P:Fin->Shared->Prop}(ho:s.heap.get? a=some (seqObj "list" vs.toArray n))(h64:vs.length<64)
  (hq:∀ h',(∀ b o,b≠a->s.heap.get? b=some o->h'.get? b=some o)->Cu prog w s vs κ kz h')
  (h:∀ p:Array Nat,p.toList.Perm (List.range vs.length)->p.toList.Pairwise (SP.R kz)->P (.done (.ret .none)) {s with heap:=sortedHeap s.heap a vs (List.toArray (p.toList.map fun i=>vs.getD i Value.none))}) :
  wpAny (model prog w) A (Builtin.«list.sort» ⟨[.ref a],[]⟩) P E s:=by
 rw[list_sort_plain];have ha:a<s.heap.objs.size:=Kn ho;refine JU (Nq ho rfl (JU (M_ ho rfl ?_)));obtain⟨e1,ho1⟩:∃ e1,(s.heap.update a (Obj.mapSeq fun _=>#[])).get? a=some (seqObj "list" #[] e1):=⟨_,MG ho (fun _=>#[])⟩;refine JU (seqEpoch_at ho1 rfl (JU (OP (JU (MC (KP ?_))))));have up:∀ b o,b≠a->s.heap.get? b=some o->(((s.heap.update a (Obj.mapSeq fun _=>#[])).push (seqObj "tuple" vs.toArray 0)).push (seqObj "list" #[] 0)).get? b=some o:=fun b o hb e =>
  JW _ (JW _ ((M1 _ _ (Ne.symm hb)).trans e))
 have ho6:(((s.heap.update a (Obj.mapSeq fun _=>#[])).push (seqObj "tuple" vs.toArray 0)).push (seqObj "list" #[] 0)).get? a=some (seqObj "list" #[] e1):=JW _ (JW _ ho1);show wpAny (model prog w) A _ P E {s with heap:=((s.heap.update a (Obj.mapSeq fun _=>#[])).push (seqObj "tuple" vs.toArray 0)).push (seqObj "list" #[] 0)}
 dsimp only;have hs:=hq _ up;have hsz:vs.toArray.size=vs.length:=by simp
 by_cases h2:vs.toArray.size<2
 ·rw[if_pos h2,if_pos h2];refine wpAny_bind (wpAny_pure ?_);rw[StateT.run_pure];refine wpAny_bind (wpAny_pure ?_);dsimp only;refine wpAny_bind (seqEpoch_at ho6 rfl (wpAny_bind (listUpdate_at ho6 rfl ?_ (hsz2:=by rw[Array.size_map];show (pairsOf vs).size<=_;rw[pairsOf_size,sizeLine_eq];lia))))
  simp only[NR,Lr,LJ];refine Kb ?_;have hid:=h (List.toArray (List.range vs.length)) (List.Perm.refl _) (by
   rcases vs with _|⟨x,_|⟨y,r⟩⟩
   ·exact .nil
   ·simp
   ·exfalso;rw[hsz] at h2;simp only[Kj] at h2;lia)
  have e:(arrOf (SortSt.mk' general' (vs.toArray.zip vs.toArray) #[] 7 none)).map (·.2)=List.toArray ((List.toArray (List.range vs.length)).toList.map fun i=>vs.getD i Value.none):=by
   show (vs.toArray.zip vs.toArray).map (·.2)=_;apply Array.toList_inj.mp;rw[Array.toList_map,Array.toList_zip];show (vs.zip vs).map (·.2)=(List.range vs.length).map fun i=>vs.getD i Value.none;rw[Om (Kc _)];refine LC fun i=>?_;rw[Kg];rcases KR i vs.length with c|c
   ·rw[L0 c,JV c];simp[c]
   ·rw[K0.mpr c,K0.mpr (by rw[Ky];exact c)];rfl
  rw[e];exact hid
 ·rw[JZ h2,JZ h2];have h2':2<=vs.length:=by rw[hsz] at h2;lia
  refine JU (hs.kind _ _ _ h2' ?_);refine JU (Lg (kat_run (ks:=vs) (vs:=vs) (Q:=fun st' s'=>s'={s with heap:=((s.heap.update a (Obj.mapSeq fun _=>#[])).push (seqObj "tuple" vs.toArray 0)).push (seqObj "list" #[] 0)}/\∃ p:Array Nat,arrOf st'=p.map (kas_item (vs.toArray.zip vs.toArray))/\failedOf st'=none/\p.toList.Perm (List.range vs.length)/\p.toList.Pairwise (SP.R kz))
   (G:=fun p s'=>s'={s with heap:=((s.heap.update a (Obj.mapSeq fun _=>#[])).push (seqObj "tuple" vs.toArray 0)).push (seqObj "list" #[] 0)}/\p.toList.Perm (List.range vs.length)/\p.toList.Pairwise (SP.R kz))
   rfl h2' h64 (fun p st' s' a1 a2 a3 a4=>⟨a4.1,p,a2,a3,a4.2⟩) ?_) ?_ fun _ _ e=>e)
  ·refine SP.rQ (k:=kz) (I:=fun s'=>s'={s with heap:=((s.heap.update a (Obj.mapSeq fun _=>#[])).push (seqObj "tuple" vs.toArray 0)).push (seqObj "list" #[] 0)}) (fun i j C s' hi hj hI hC=>?_) (by lia) rfl fun p s' hp hr hI=>⟨hI,hp,hr⟩
   subst hI;exact hs.lt _ _ i j hi hj (hC _ rfl)
  rintro⟨⟨⟩,st'⟩ s' ⟨rfl,p,har,hf,hp,hr⟩;dsimp only;have esn:=kat_snds (ks:=vs) (vs:=vs) rfl har;have hl:(p.toList.map fun i=>vs.getD i Value.none).length=vs.length:=by rw[List.length_map,hp.length_eq,List.length_range]
  refine JU (seqEpoch_at ho6 rfl ?_);refine JU (M_ ho6 rfl ?_ (hsz2:=by show ((arrOf st').map (·.2)).size<=_;rw[esn,J_,hl,L8];lia))
  rw[hf];simp only[NR,Lr,LJ];rw[esn];exact Kb (h p hp hr)
theorem pV{l:Addr}{κ:SortKind}{kz:Nat->Int}(hl:s.heap.IsList l vs.toArray)(h64:vs.length<64)(hq:∀ h',(∀ b o,s.heap.get? b=some o->h'.get? b=some o)->Cu prog w s vs κ kz h')
  (h:∀ p:Array Nat,p.toList.Perm (List.range vs.length)->p.toList.Pairwise (SP.R kz)->Q (.ref (s.heap.objs.size+1)) {s with heap:=sortedAll s.heap vs (List.toArray (p.toList.map fun i=>vs.getD i Value.none))}) :
  wpAny (model prog w) A (call (.builtin "sorted") [.ref l]) Q E s:=by
 refine NV kind_sorted plain_sorted entry_sorted (args_sorted1 _) ?_;unfold Builtin.«sorted»;refine JU (m:=checkCount "sorted" 1 1 _) (Kb (JU (collect_list hl (JU (MC ?_)))));have hsz:((s.heap.push (seqObj "list" #[] 0)).update s.heap.objs.size (Obj.mapSeq (·++vs.toArray))).objs.size=s.heap.objs.size+1:=by rw[Og,size_push']
 have hoL:(((s.heap.push (seqObj "list" #[] 0)).update s.heap.objs.size (Obj.mapSeq (·++vs.toArray))).push (seqObj "list" vs.toArray 0)).get? (s.heap.objs.size+1)=some (seqObj "list" vs.toArray 0):=by rw[<- hsz];exact Km _ rfl
 have keep:∀ b o,s.heap.get? b=some o->(((s.heap.push (seqObj "list" #[] 0)).update s.heap.objs.size (Obj.mapSeq (·++vs.toArray))).push (seqObj "list" vs.toArray 0)).get? b=some o:=fun b o q=>by
  have hlt:b<s.heap.objs.size:=Kn q;rw[Heap.get?_push_ne _ _ _ (by rw[hsz];exact K1 (M4 hlt)),Heap.get?_update_ne _ _ _ _ (K1 hlt),Heap.get?_push_ne _ _ _ (K1 hlt)]
  exact q
 show wpAny _ _ _ _ _ {s with heap:=((s.heap.push (seqObj "list" #[] 0)).update s.heap.objs.size (Obj.mapSeq (·++vs.toArray))).push (seqObj "list" vs.toArray 0)}
 rw[hsz];refine JU (KP (Lh slot_list_sort ⟨_,hoL,rfl⟩ entry_list_sort (wD (kz:=kz) (κ:=κ) (s:={s with heap:=((s.heap.push (seqObj "list" #[] 0)).update s.heap.objs.size (Obj.mapSeq (·++vs.toArray))).push (seqObj "list" vs.toArray 0)}) hoL h64 (fun h' hk=>?_) fun p a1 a2=>⟨_,rfl,?_⟩) (args_list_sort _)))
 ·have:=hq h' fun b o e=>hk b o (K1 (M4 (Kn e))) (keep b o e);exact⟨this.kind,this.lt⟩
 ·exact Kb ⟨_,rfl,h p a1 a2⟩
end
noncomputable def lexLt(x y:Int×Int):Bool:=decide (x.1<y.1\/(x.1=y.1/\x.2<y.2))
theorem kQ{x:Int×Int}:lexLt x y=true ↔ (x.1<y.1\/(x.1=y.1/\x.2<y.2)):=decide_eq_true_iff
noncomputable def rank(l:List (Int×Int))(x:Int×Int):Nat:=l.countP fun y=>lexLt y x
noncomputable def rk(l:List (Int×Int))(i:Nat):Int:=(rank l (l.getD i (0,0)):Nat)
theorem pS{p q:Int×Int->Bool}(h:∀ z,p z=true->q z=true){x:Int×Int}:x∈l->p x=false->q x=true->l.countP p<l.countP q:=by
 induction l with
 |nil=>intro hx;cases hx
 |cons y l ih =>
  intro hx h1 h2;have hle:l.countP p<=l.countP q:=OS fun z _=>h z;rw[List.countP_cons,List.countP_cons];rcases Ki.mp hx with rfl|hx
  ·rw[JZ (by rw[h1];exact Ka),Ke h2];lia
  ·have:=ih hx h1 h2
   cases hp:p y with
   |true=>rw[Ke rfl,Ke (h y hp)];lia
   |false=>rw[JZ Ka];split<;>lia
theorem rB{x:Int×Int}(hx:x∈l)(hy:y∈l):decide (rank l x<rank l y)=lexLt x y:=by
 have irr:∀ z,lexLt z z=false:=fun z=>Kv (by lia)
 cases h:lexLt x y with
 |true =>
  refine KY (pS (fun z hz=>?_) hx (irr x) h);rw[kQ] at h hz ⊢;lia
 |false =>
  refine Kv (NX.mpr (OS fun z _ hz=>?_));have h':¬ (x.1<y.1\/(x.1=y.1/\x.2<y.2)):=of_decide_eq_false h;rw[kQ] at hz ⊢;lia
noncomputable def v_(h:Heap)(v:Value)(pr:Int×Int):Prop:=∃(a:Addr) (o:Obj) (n:Nat) (t u:Tok),v=.ref a/\h.get? a=some o/\o.cls=.type "tuple"/\o.data=.seq #[.int pr.1 t,.int pr.2 u] n
theorem oo:∀{vs:List Value} {prs:List (Int×Int)},Paired (v_ h) vs prs->∃ fs,KatTups h vs fs/\fs.length=vs.length/\∀ v∈fs,∃ i t,v=Value.int i t
 |_,_,.nil=>⟨[],trivial,rfl,fun _ h=>by cases h⟩
 |_,_,.cons r t=>by
  obtain⟨a,o,n,t1,u,rfl,ho,hc,hd⟩:=r;obtain⟨fs,h1,h2,h3⟩:=oo t;refine⟨_::fs,⟨⟨a,o,_,n,rfl,ho,hc,hd,rfl⟩,h1⟩,by simp[h2],fun v hv=>?_⟩
  rcases Ki.mp hv with rfl|hv
  ·exact⟨_,_,rfl⟩
  ·exact h3 v hv
theorem wV(hp:Paired (v_ h) vs prs){i:Nat}(hi:i<vs.length):v_ h (vs.getD i .none) (prs.getD i (0,0))/\prs.getD i (0,0)∈prs:=by
 induction hp generalizing i with
 |nil=>cases hi
 |cons r t ih =>
  cases i with
  |zero=>exact⟨r,Kk ..⟩
  |succ i =>
   obtain⟨h1,h2⟩:=ih (i:=i) (by simpa using hi)
   exact⟨h1,Kh _ h2⟩
theorem tV{s:Shared}(hp:Paired (v_ h) vs prs):Cu prog w s vs (tuples' true) (rk prs) h where
 kind:=fun A E Q h2 q=>by
  obtain⟨fs,h1,h3,h4⟩:=oo hp;exact kat_kind (s:={s with heap:=h}) (T:=.type "int") h1 (by lia) (fun v hv=>by obtain⟨i,t,rfl⟩:=h4 v hv;exact Looks.of_pure rfl) rfl q
 lt:=fun A C i j hi hj q=>by
  obtain⟨⟨a,o,n,t,u,ea,ho,hc,hd⟩,mi⟩:=wV hp hi;obtain⟨⟨a',o',n',t',u',ea',ho',hc',hd'⟩,mj⟩:=wV hp hj;have e:=rB mi mj;have e':decide (rk prs i<rk prs j)=lexLt (prs.getD i (0,0)) (prs.getD j (0,0)):=by
   rw[<- e,Nb];unfold rk;lia
  rw[e'] at q;clear e e' mi mj;unfold kas_ask;rw[ea,ea'];generalize prs.getD i (0,0)=x at *;generalize prs.getD j (0,0)=y at *;refine kat_lt (s:={s with heap:=h}) ho hd ho' hd' ?_
  show KatLex prog w A true _ C [(.int x.1 t,.int y.1 t'),(.int x.2 u,.int y.2 u')] 0 _;refine kat_cons (N_ ?_)
  cases c1:(x.1 == y.1) with
  |false =>
   refine kat_no ?_;have h1:x.1≠y.1:=Lp.mp c1;have e1:lexLt x y=decide (x.1<y.1):=by unfold lexLt;rw[Nb];lia
   rw[e1] at q;exact oneLt_int q
  |true =>
   refine kat_yes (kat_cons (N_ ?_));have h1:x.1=y.1:=eq_of_beq c1;have e1:lexLt x y=decide (x.2<y.2):=by unfold lexLt;rw[Nb];lia
   rw[e1] at q
   cases c2:(x.2 == y.2) with
   |false =>
    refine kat_no ?_;show wpAny (model prog w) A (oneLt' false (.int x.2 u) (.int y.2 u')) C _ _;exact kat_one _ _ (lt_int q)
   |true =>
    have h2:x.2=y.2:=eq_of_beq c2;refine kat_yes (kat_nil ?_);rw[Kv (by lia)] at q
    exact q
noncomputable def Ex(l:List (Int×Int)):Prop:=l.Pairwise fun x y=>lexLt y x=false
theorem EO{ix:List Nat}(hp:ix.Perm (List.range prs.length))(hr:ix.Pairwise (SP.R (rk prs))):(ix.map fun i=>prs.getD i (0,0)).Perm prs/\Ex (ix.map fun i=>prs.getD i (0,0)):=by
 have e:(List.range prs.length).map (fun i=>prs.getD i (0,0))=prs:=by
  refine LC fun i=>?_;rw[Kg];rcases KR i prs.length with c|c
  ·rw[L0 c,JV c];simp[c]
  ·rw[K0.mpr c,K0.mpr (by rw[Ky];exact c)];rfl
 refine⟨?_,LX.mpr (hr.imp_of_mem fun {i j} hi hj h=>?_)⟩
 ·have:=hp.map fun i=>prs.getD i (0,0);rw[e] at this;exact this
 ·have mem:∀ i∈ix,prs.getD i (0,0)∈prs:=fun i hi=>by
   have hl:=LI.mp (hp.mem_iff.mp hi);rw[Kd,JV hl];exact K3 hl
  rw[<- rB (mem j hj) (mem i hi)];have:=h.le;unfold rk at this;exact Kv (by lia)
namespace Y
noncomputable def uT(p:Int×Int):T:=.tup [.int p.1,.int p.2]
noncomputable def IL(H:Hp)(v:V)(p:Int×Int):Prop:=∃ q,v=.ref q/\H q=some (.tup [.int p.1,.int p.2])
noncomputable def vp(K:Pm):List V->Hp->VK->Prop:=fun xs H Q=>∃ p vs prs,xs=[.ref p]/\cx K H p vs/\Paired (IL H) vs prs/\prs.length<64/\∀ ix:List Nat,ix.Perm (List.range prs.length)->Ex (ix.map fun i=>prs.getD i (0,0))->∀ l,H l=none->Q (.ref l) (upd H l (.lst (ix.map fun i=>vs.getD i .aC)))
theorem xq{pins:List (Addr×Obj)}{σ:St}(I:Inv X pins σ H s):∀{vs:List V} {its:List Value} {prs:List (Int×Int)},Vals vs its->Paired (IL H) vs prs->Paired (v_ s.heap) its prs
 |_,_,_,.nil,.nil=>.nil
 |_,_,_,.cons r t,.cons r' t'=>by
  refine .cons ?_ (xq I t t');obtain⟨q,rfl,hq⟩:=r';have e:_=Value.ref q:=r;subst e;obtain⟨_,ts,tv,o,e1,c,n,d,_⟩:=(show bt X.prog X.w H s.heap q (.tup _) from I.aO q _ hq);obtain⟨u,w',rfl,⟨t1,rfl⟩,⟨t2,rfl⟩⟩:=vals2 tv;exact⟨q,o,n,t1,t2,rfl,e1,c,d⟩
theorem sN{vs:List V}{its:List Value}(h:Vals vs its):∀ ix:List Nat,(∀ i∈ix,i<vs.length)->Vals (ix.map fun i=>vs.getD i .aC) (ix.map fun i=>its.getD i Value.none)
 |[],_=>.nil
 |i::ix,hi=>by
  refine .cons ?_ (sN h ix fun j hj=>hi j (Kh _ hj));have hl:=hi i (Kk ..);obtain⟨u,e,r⟩:=Vals.get h (JV hl);show RelV (vs.getD i .aC) (its.getD i Value.none);rw[Kd,Kd,JV hl,e];exact r
theorem pK(K:Pm)(hK:X.K=K):bf X (.builtin "sorted") (vp K):=by
 subst hK;intro pins s σ H xs us Q I r h;obtain⟨p,vs,prs,rfl,hq,hp,h64,q⟩:=h;obtain⟨u,rfl,ru⟩:=vals1 r;cases ru;obtain⟨its,rv,pl,hz⟩:=I.list hq;have hpa:=xq I rv hp;have l1:its.length=prs.length:=Paired.length hpa;have l2:vs.length=prs.length:=Paired.length hp;refine pV (κ:=tuples' true) (kz:=rk prs) pl.isList (by lia) (fun h' hk=>tV (Paired.mG hpa fun a b ⟨x,o,n,t,u,e,ho,r⟩=>⟨x,o,n,t,u,e,hk _ _ ho,r⟩)) fun px a1 a2=>?_
 rw[l1] at a1;obtain⟨e,he⟩:=sortedAll_at s.heap its (List.toArray (px.toList.map fun i=>its.getD i Value.none));refine⟨.ref (s.heap.objs.size+1),_,I.laid (t':=s.toks) (fun b ob q=>sortedAll_old q) (Mc _) (show bt X.prog X.w _ _ _ (.lst (px.toList.map fun i=>vs.getD i .aC)) from⟨?_,_,e,sN rv px.toList (fun i hi=>by rw[l2];exact LI.mp (a1.mem_iff.mp hi)),by simpa using he⟩),rfl,q px.toList a1 (EO a1 a2).2 _ (I.aO.fresh (Mc _))⟩
 rw[JY,a1.length_eq,Ky];exact Kq (LM h64) (by decide)
noncomputable def mM:T->Mu->(R->Mu->Prop)->Prop:=fun t μ Q=>match t with
 |.lst xs=>∃ prs:List (Int×Int),xs=prs.map uT/\prs.length<64/\∀ out:List (Int×Int),out.Perm prs->Ex out->Q (.fr (.lst (out.map uT))) μ
 |_=>False
theorem nH{B:aX}:∀{prs:List (Int×Int)} {vs:List V},ay K H B vs (prs.map uT)->Paired (IL H) vs prs
 |[],_,r=>by cases r;exact .nil
 |p::prs,_,r=>by
  cases r with
  |cons h r =>
   refine .cons ?_ (nH r)
   cases h with
   |tup n h r' =>
    cases r' with
    |cons h1 r' =>
     cases h1
     cases r' with
     |cons h2 r' =>
      cases h2;cases r';exact⟨_,rfl,h⟩
theorem qS{B:aX}{vs:List V}(h:ay K H B vs (prs.map uT)):∀ ix:List Nat,(∀ i∈ix,i<prs.length)->ay K H B (ix.map fun i=>vs.getD i .aC) ((ix.map fun i=>prs.getD i (0,0)).map uT)
 |[],_=>.nil
 |i::ix,hi=>by
  refine .cons ?_ (qS h ix fun j hj=>hi j (Kh _ hj));have hl:=hi i (Kk ..);obtain⟨v,e,r⟩:=ay.get h (i:=i) (t:=uT prs[i]) (by rw[Kg,JV hl];rfl)
  show Rep K H B (vs.getD i .aC) (uT (prs.getD i (0,0)));rw[Kd,Kd,JV hl,e];exact r
theorem xZ:RC K (vp K) (yD mM):=m9 fun F ad B σ H μ Q Qt x t hK l v1 q k=>by
 subst hK
 cases v1 with
 |lst ha ra =>
  obtain⟨prs,rfl,h64,q⟩:=q;refine⟨_,_,prs,rfl,cx.of ha,nH ra,h64,fun ix a1 a2 p hp=>?_⟩;have e:=(List.range prs.length).map (fun i=>prs.getD i (0,0));have hpm:(ix.map fun i=>prs.getD i (0,0)).Perm prs:=by
   have h1:=a1.map fun i=>prs.getD i (0,0);have h2:(List.range prs.length).map (fun i=>prs.getD i (0,0))=prs:=by
    refine LC fun i=>?_;rw[Kg];rcases KR i prs.length with c|c
    ·rw[L0 c,JV c];simp[c]
    ·rw[K0.mpr c,K0.mpr (by rw[Ky];exact c)];rfl
   rw[h2] at h1;exact h1
  exact k _ _ _ (Vr.ip l (qS ra ix fun i hi=>LI.mp (a1.mem_iff.mp hi)) hp) (Fr.more hp) (q _ hpm a2)
 |_=>exact q.elim
end Y
namespace A
theorem mM(xs:List T)(μ:Mu)(Q:R->Mu->Prop):Y.mM (.lst xs) μ Q=(∃ prs:List (Int×Int),xs=prs.map Y.uT/\prs.length<64/\∀ out:List (Int×Int),out.Perm prs->Ex out->Q (.fr (.lst (out.map Y.uT))) μ):=rfl
end A
open Builtin Builtin.Str
open PySem PySem.Spec PyProof PyProof.Rows
open Builtin Builtin.Str
open PySem PySem.Spec PyProof PyProof.Rows
open PySem PySem.Spec PyProof PyProof.Rows PySem.W
namespace Y
noncomputable def Gy:R2:=fun x y H Q=>∃ a b,x=.bl a/\y=.bl b/\Q (.bl (a == b)) H
theorem DH{X:Cx}:cK X (compareOp .Is) Gy:=by
 intro pins s σ H x y v u Q I rx ry h;obtain⟨a,b,rfl,rfl,q⟩:=h;have e1:v=.bool a:=rx;have e2:u=.bool b:=ry;subst e1 e2;refine wpAny_is_plain (by cases a<;>cases b<;>rfl) (aI I q ?_)
 cases a<;>cases b<;>rfl
noncomputable def x3:T->T->Mu->(R->Mu->Prop)->Prop:=fun t u μ Q=>match t,u with
 |.bl a,.bl b=>Q (.tr (.bl (a == b))) μ
 |_,_=>False
theorem BU{K:Pm}:ib K Gy (ou x3):=f9 fun F ad B σ H μ Q Qt x y t u hK l v1 v2 q k=>by
 unfold x3 at q
 split at q
 ·cases v1;cases v2
  exact⟨_,_,rfl,rfl,k _ H _ (Vr.flat l (.bl _)) Fr.refl q⟩
 ·exact q.elim
end Y
namespace A
theorem x3(a b:Bool)(μ:Mu)(Q:R->Mu->Prop):Y.x3 (.bl a) (.bl b) μ Q=Q (.tr (.bl (a == b))) μ:=rfl
end A
namespace A4
noncomputable def lt(r:R)(k:R->Prop):Prop:=k r
theorem JN(t:T)(k:R->Prop):lt (R.d (.tr t)) k=k (.tr t):=rfl
theorem JJ(t:T)(k:R->Prop):lt (R.d (.fr t)) k=k (.tr t):=rfl
theorem JH(i:Nat)(k:R->Prop):lt (R.d (.br i)) k=k (.br i):=rfl
theorem GB(o:Ou)(Q:R->Prop):n6 o Q=(match o with|.no=>False|.ok r=>Q r|.ck c r=>c/\Q r):=rfl
theorem EF(o:Option (Prop×R))(Q:R->Prop):n4 o Q=(match o with|some (C,r)=>C/\Q r|none=>False):=rfl
theorem FT(o:Option (List T×Option (Nat×List T)))(Q:List T->Option (Nat×List T)->Prop):EW o Q=(match o with|some (ts,g)=>Q ts g|none=>False):=rfl
theorem EY(o:Option T)(p:Prop):Y.Hr o p=(match o with|some (.lst _)=>p|_=>False):=by
 cases o with|none=>rfl|some t=>cases t<;>rfl
theorem n8(u:U2)(ua ub:UE)(μ:Mu)(Q:R->Mu->Prop):Y.n8 u ua ub μ Q=ua μ fun r1 μ1=>ub μ1 fun r2 μ2=>lt r1.d fun x=>lt r2.d fun y=>u x y μ2 Q:=rfl
theorem kJ(ue:UE)(us:UA)(μ:Mu)(Q:List R->Mu->Prop):Y.kJ ue us μ Q=ue μ fun r μ1=>us μ1 fun rs μ2=>lt r.d fun x=>Q (x::rs) μ2:=rfl
end A4
end L2
namespace G
local macro_rules|`(tactic|and_intros)=>`(tactic|exact ⟨rfl,rfl,rfl,by decide +kernel,rfl,by decide +kernel,by decide +kernel⟩)
open PySem L2 PySem.Spec PyProof.Rows
variable{L free i j k n:Nat}{a b done r s:List Nat}{l:PySem.W.OpenLaw}{xs:List L2.T}{ln:Nat->Nat}{ls ss:List Int}{gs ws zs:List (Option Nat)}{h:Heap}{mg:Str->Option Value}{f lc_code_of lp_code_of:Addr}{fd:FuncData}{K:Pm}{lO_code_of:Value}{lD_code_of:Option Addr}{lv_code_of:Array Value}{lS_code_of:Array (Option Value)}{q:Program}
noncomputable def top(i:Nat):Stmt:=PySem.Challenge.pw_shortrows_k28_whole_rows_in_the_bits.main.body.getD i (.Pass ⟨0,0,0,0⟩)
abbrev hW:Stmt:=top 5
theorem cf:ao ["lengths","free","depth","left","length"] ["lengths"] (aa hW):=by and_intros
abbrev cE:Stmt:=top 7
theorem dO:ao ["lengths","words","ahead","thing"] ["lengths"] (aa cE):=by and_intros
abbrev c_:Stmt:=top 8
theorem jv:ao ["ahead","length"] ["ahead","length"] (aa c_):=by and_intros
abbrev fW:Stmt:=top 12
theorem pE:ao ["row"] ["row"] (aa fW):=by and_intros
abbrev cL:Stmt:=top 18
theorem iR:ao ["sizes","goals"] ["sizes","goals"] (aa cL):=by and_intros
abbrev bP:Stmt:=top 19
theorem bo:ao ["sizes","goals","widths","paper","row"] ["sizes","goals"] (aa bP):=by and_intros
abbrev f7:Stmt:=top 20
theorem oK:ao ["sizes","goals","widths"] ["sizes","goals","widths"] (aa f7):=by and_intros
abbrev dy:Stmt:=top 21
theorem m_:ao ["goals"] ["goals"] (aa dy):=by and_intros
abbrev bO:Stmt:=top 22
theorem aL:ao ["sizes","goals","widths","starts","row","goal"] ["sizes","goals","widths"] (aa bO):=by and_intros
abbrev mE:Stmt:=top 23
theorem rL:ao ["starts","goals","widths","row","half"] ["starts","goals","widths","row"] (aa mE):=by and_intros
abbrev df:Stmt:=top 24
theorem jH:ao ["starts","goals","row"] ["starts","goals","row"] (aa df):=by and_intros
abbrev dG:Stmt:=top 25
theorem cZ:ao ["sizes","widths","starts","size","width"] ["sizes","widths"] (aa dG):=by and_intros
abbrev ft:Stmt:=top 26
theorem oU:ao ["width"] ["width"] (aa ft):=by and_intros
abbrev cF:Stmt:=top 31
theorem cB:ao ["row","things","kind","part"] ["row"] (aa cF):=by and_intros
abbrev dN:Stmt:=top 32
theorem oM:ao ["book"] ["book"] (aa dN):=by and_intros
abbrev bW:Stmt:=top 33
theorem aW:ao ["program","book","codes","firsts","sizes","goals","widths","starts","bits","row","first"] ["program","book"] (aa bW):=by and_intros
abbrev a_:Stmt:=top 34
theorem cU:ao ["row","codes","bits"] ["row","codes"] (aa a_):=by and_intros
abbrev bq:Stmt:=top 35
theorem eV:ao ["number"] ["number"] (aa bq):=by and_intros
abbrev cN:Stmt:=top 36
theorem iT:ao ["width","distance"] ["width","distance"] (aa cN):=by and_intros
abbrev cG:Stmt:=top 37
theorem b9:ao ["number","many","figures","left","turn"] ["number","many"] (aa cG):=by and_intros
abbrev dk:Stmt:=top 39
theorem cM:ao ["script","found","cell"] ["script"] (aa dk):=by and_intros
abbrev eE:Stmt:=top 40
theorem g_:ao ["cell","number"] ["cell"] (aa eE):=by and_intros
abbrev e7:Stmt:=top 41
theorem d9:ao ["seed","most","found","number"] ["seed","most"] (aa e7):=by and_intros
abbrev d8:Stmt:=top 42
theorem kD:ao [] [] (aa d8):=by and_intros
abbrev dc:Stmt:=top 43
theorem bX:ao ["seed","way","number","k"] ["seed"] (aa dc):=by and_intros
abbrev fb:Stmt:=top 44
theorem fT:ao ["seed","many","words","word","one"] ["seed","many","words"] (aa fb):=by and_intros
abbrev b_:Stmt:=top 45
theorem d3:ao ["seed","most","words","many"] ["seed","most","words"] (aa b_):=by and_intros
abbrev bI:Stmt:=top 47
theorem bg:ao ["seed","many","most","found","short","at","one","longer"] ["seed","many","most"] (aa bI):=by and_intros
abbrev e9:Stmt:=top 48
theorem mR:ao ["seed","most"] ["seed","most"] (aa e9):=by and_intros
abbrev ef:Stmt:=top 49
theorem cQ:ao ["number","width","found","k"] ["number","width"] (aa ef):=by and_intros
abbrev du:Stmt:=top 50
theorem aY:ao ["lengths","words","number","ahead","length","k","step"] ["lengths"] (aa du):=by and_intros
abbrev cO:Stmt:=top 51
theorem kx:ao ["program"] ["program"] (aa cO):=by and_intros
abbrev d6:Stmt:=top 52
theorem gm:ao ["bits","at","code","k"] ["bits","at","code"] (aa d6):=by and_intros
abbrev dA:Stmt:=top 53
theorem dh:ao ["bits","found","sign"] ["bits"] (aa dA):=by and_intros
abbrev fu:Stmt:=top 54
theorem bY:ao ["bits","at","width","size","far"] ["bits","at"] (aa fu):=by and_intros
abbrev bR:Stmt:=top 55
theorem bj:ao ["bits","at","classes","found","size","figures"] ["bits","at","classes"] (aa bR):=by and_intros
abbrev cC:Stmt:=top 56
theorem aP:ao ["bits","at","row","codes","found","part"] ["bits","at","row","codes"] (aa cC):=by and_intros
abbrev d7:Stmt:=top 57
theorem aM:ao ["program","told","codes","bits","places","sizes","widths","k","at","width","far","goals"] ["program","told","codes"] (aa d7):=by and_intros
abbrev fB:Stmt:=top 58
theorem i9:ao ["script","cell","seed","program","book","told"] ["script"] (aa fB):=by and_intros
structure Txt (K:Pm) (mg:Str->Option Value):Prop where
 fP:mg "enumerate"=none
 rW:mg "int"=none
 dD:mg "isinstance"=none
 cI:mg "len"=none
 xg:mg "list"=none
 vd:mg "max"=none
 ED:mg "min"=none
 dm:mg "range"=none
 jG:mg "sorted"=none
 wN:mg "str"=none
 cu:mg "tuple"=none
 Bd:mg "zip"=none
 A8:∃ w u,mg "BOXES"=some u/\RelV w u/\∀ H B,Rep K H B w (.dZ [.str "a",.str "b",.str "c",.str "d",.str "e",.str "f",.str "g",.str "h"])
 yo:∃ w u,mg "HALVES"=some u/\RelV w u/\∀ H B,Rep K H B w (.dZ [.int 8,.int 128,.int 32768])
 sj:∃ w u,mg "HEADS"=some u/\RelV w u/\∀ H B,Rep K H B w (.dZ [.str "0",.str "10",.str "11"])
 pP:∃ w u,mg "OF_BOXES"=some u/\RelV w u/\∀ H B,Rep K H B w (.int 2)
 mJ:∃ w u,mg "OF_CLASSES"=some u/\RelV w u/\∀ H B,Rep K H B w (.int 1)
 pQ:∃ w u,mg "OF_WORDS"=some u/\RelV w u/\∀ H B,Rep K H B w (.int 0)
 xi:∃ w u,mg "WIDEST"=some u/\RelV w u/\∀ H B,Rep K H B w (.int 2)
 oH:∃ w u,mg "WIDTHS"=some u/\RelV w u/\∀ H B,Rep K H B w (.dZ [.int 4,.int 8,.int 16])
 Ab:FR K mg "BOXES"
 j6:∃ d,mg "SHAPES"=some (.ref d)/\ml K d [("put",["box","number"]),("add",["box","box"]),("sub",["box","box"]),("copy",["box","box"]),("tell",["box"]),("hear",["box"]),("jump",["goal"]),("zero",["box","goal"]),("halt",[])]
 u9:∃ C,mg "NoReach"=some (.ref C)/\pI K C
 xs:∃ C_NoCode:Addr,mg "NoCode"=some (.ref C_NoCode)/\pI K C_NoCode
 ot:rP K mg "code_of"
section
variable {P:Program} {w:World} {K:Pm} {mg:Str->Option Value} {base:Heap}
local macro_rules | `(tactic| walk_at "lc") => `(tactic| first | exact Or.inl rfl | exact Or.inr rfl)
local macro_rules | `(tactic| wp_walk using $ts,*) => do
  let ids := ("L2.A.x3 L2.A.mM L2.A.qX L2.A.sO L2.A.rj L2.A.rm L2.A.CD L2.A.jW L2.A.Hc L2.A.x_ L2.A.zk L2.A.jo L2.A.AG L2.A3.Ah L2.A3.mQ L2.A3.kn L2.A3.J9 L2.A3.oj L2.A3.HV L2.A3.BB L2.A3.gT L2.A3.oE L2.A3.HG L2.A3.HP L2.A3.HJ L2.A3.Fo L2.A3.Gv L2.A3.add_l L2.A3.ID L2.A3.HA L2.A3.HM L2.A3.HD L2.A3.Gd L2.A3.FQ L2.A3.Gh L2.A3.GI L2.A3.IK L2.A3.IT L2.A3.Iv L2.A3.IZ L2.A.gR L2.A.EN L2.A.zy L2.A.Al L2.A.uC L2.A.jF L2.A.jI L2.A.zH L2.A.xy L2.A.EE L2.A.sE L2.A.E9 L2.A.wF L2.A.pN L2.A.uK L2.A.zR L2.A.yR L2.A.C5 L2.A.jj L2.A.iE L2.A.ou L2.A.FK L2.A.Ji L2.A.DT L2.A.De L2.A.EU L2.A.HI L2.A.Ia L2.A.nU L2.A.Fc L2.A.Jh L2.A.yD L2.A.iz L2.A.nE L2.A.zW L2.A.Dw L2.A.E_ L2.A.pf L2.A.Jd L2.A.G_ L2.A.HS L2.A.HU L2.A.Il L2.A.Hs L2.A.Hu L2.A.yX L2.A.Ho L2.A.GU L2.A.GX L2.A.my L2.A.BV L2.A.oD L2.A.kc L2.A.jC L2.A.JQ L2.A.JT L2.A.uZ L2.A.ER L2.A.GD L2.A.FP L2.A.EX L2.A.Hl L2.A.GZ L2.A.gS L2.A.tW L2.A.sA L2.A.tm L2.A.GY L2.A.Hh L2.A.iZ L2.A.vo L2.A.iL L2.A.Hb L2.A.hJ L2.A.CK L2.A.JO L2.A.HC L2.A.Ip L2.A.IE L2.A.IC L2.A.Gg L2.A.GF L2.A.FU L2.A.Fi L2.A.FZ L2.A.GA L2.A.Ij L2.A.IJ L2.A.I_ L2.A.Iq L2.A.IF L2.A.IY Sl.box Sl.put dH L2.putAll xB h_ iC L2.Y.trees L2.Y.Ai L2.Y.vm L2.Y.yv L2.Y.F_ L2.Y.Hy List.tail_cons Nat.zero_le startM m6 bV Option.bind_some Option.map_some List.map_cons List.map_nil List.length_cons List.length_nil List.replicate List.cons_append List.nil_append List.getElem?_cons_zero List.getElem?_cons_succ List.set_cons_zero List.set_cons_succ List.nodup_nil List.nodup_cons List.not_mem_nil List.mem_cons not_false_eq_true false_implies implies_true or_false true_and and_self true_or IW IP Jb IM Nat.reduceAdd Nat.reduceSub Nat.reduceLeDiff Bool.false_eq_true Bool.not_true Bool.not_false decide_eq_true_eq Bool.not_eq_true' decide_eq_false_iff_not Int.reduceToNat Int.reducePow reduceCtorEq L2.A4.JN L2.A4.JJ L2.A4.JH L2.A4.GB L2.A4.EF L2.A4.FT L2.A4.EY L2.A4.n8 L2.A4.kJ".splitOn " ").toArray.map fun n => Lean.mkIdent n.toName
  let pre:=ids.filter fun n=>n.getId.toString.startsWith "L2.A"
  `(tactic| simp only [↓reduceIte, $[↓$ts:term],*, $[↓$pre:term],*, $[$ids:ident],*, $[$ts:term],*])
local macro_rules | `(tactic| walk_at "rt") => `(tactic| wp_walk using and_self)
local macro_rules|`(tactic|rfl')=>`(tactic|wp_walk using and_self)
local macro_rules|`(tactic|symm)=>do
  let n:=Lean.mkIdent `N
  let h:=Lean.mkIdent `hN
  `(tactic|(refine $h _ ?_;clear $h $n;refine aq fun $n $h=>?_))
local macro_rules|`(tactic|ac_rfl)=>do
  let n:=Lean.mkIdent `N
  let h:=Lean.mkIdent `hN
  `(tactic|(refine $h _ ?_;clear $h $n))
local macro_rules|`(tactic|right)=>`(tactic|walk_at "lc")
local macro_rules|`(tactic|exists $ts,*)=>`(tactic|wp_walk using $ts,*)
local macro_rules|`(tactic|left)=>do
  let i:=#[`args,`Qt,`hl,`h,`f,`cdv,`A,`outer,`s,`H,`E,`hr].map Lean.mkIdent
  let u:=Lean.mkIdent `hu
  `(tactic|(intro $[$i:ident]*;have $u:ident:=aS $(Lean.mkIdent `hr)))
namespace Kr
noncomputable def ks(L:Nat):List Nat->Nat
 |[]=>0
 |l::r=>2^(L-l)+ks L r
theorem bH(L:Nat):∀ a b,ks L (a++b)=ks L a+ks L b
 |[],b=>by simp[ks]
 |x::a,b=>by simp[ks,bH L a b];lia
theorem hU(h:a.Perm b):ks L a=ks L b:=by
 induction h with
 |nil=>rfl
 |cons x _ ih=>simp[ks,ih]
 |swap x y l=>simp[ks];lia
 |trans _ _ h1 h2=>exact h1.trans h2
theorem uF{d l:Nat}(h:d<l)(hl:l<=L):2^(L-d)=2*2^(L-(d+1)):=by
 have:L-d=(L-(d+1))+1:=by lia
 rw[this,Ph];lia
noncomputable def fit:List Nat->Nat->Nat->Nat->Prop:=fun r free depth L=>ks L r<=free*2^(L-depth)
theorem AQ{L d:Nat}:∀{r:List Nat},(∀ x∈r,d<=x)->ks L r<=r.length*2^(L-d)
 |[],_=>by simp[ks]
 |x::r,h=>by
  have ih:=AQ (L:=L) (d:=d) (r:=r) fun y hy=>h y (Kh _ hy);have hx:=h x Kk;have:=Ma (n:=2) (by decide) (Nat.sub_le_sub_left hx L)
  simp only[ks,Kj,MK];lia
theorem DX{x:Nat}:0<ks L (x::r):=by
 have:=Nat.pow_pos (n:=L-x) (show 0<2 by decide)
 simp only[ks];lia
theorem pU{depth:Nat}(h:∀ x∈r,depth<=x)(hf:r.length<=free):fit r free depth L:=
 Kq (AQ h) (Nat.mul_le_mul_right _ hf)
theorem qE{depth l:Nat}(h:depth<l)(hl:l<=L):fit r free depth L ↔ fit r (free*2) (depth+1) L:=by
 unfold fit;rw[uF h hl,Na]
theorem yt{l:Nat}(hf:0<free):fit (l::r) free l L ↔ fit r (free-1) l L:=by
 unfold fit;simp only[ks];obtain⟨f,rfl⟩:∃ f,free=f+1:=⟨free-1,by lia⟩
 rw[NC,MK];lia
theorem y3{x:Nat}{r:List Nat}{depth L:Nat}:¬ fit (x::r) 0 depth L:=by
 unfold fit;have:=DX (L:=L) (x:=x) (r:=r);lia
noncomputable def D0(L:Nat)(done:List Nat)(need last:Int):Prop:=0<=need/\0<=last/\∀ m:Nat,(need<=m ↔ ks L done<=m*2^(L-last.toNat))
theorem shr(n:Int)(g:Nat)(hn:0<=n)(m:Nat):(1-((0-n) / 2^g)<=(m:Int)) ↔ (1<=m/\n<=((m-1:Nat):Int)*2^g):=by
 have hp:(0:Int)<2^g:=N7 (by decide)
 have h1:(1-((0-n) / 2^g)<=(m:Int)) ↔ (1-(m:Int))<=(0-n) / 2^g:=by lia
 rw[h1,OE hp];constructor
 ·intro h;have hm:1<=m:=by
   rcases ND m with z|z
   ·subst z;simp at h;lia
   ·exact z
  refine⟨hm,?_⟩;have e:((m-1:Nat):Int)=(m:Int)-1:=by lia
  rw[e,OG];rw[OG] at h;lia
 ·rintro⟨hm,h⟩;have e:((m-1:Nat):Int)=(m:Int)-1:=by lia
  rw[e,OG] at h;rw[OG];lia
theorem D0.step{need last l:Int}(h:D0 L done need last)(h0:0<=l)(hl:l<=last)(hL:last<=L):
  D0 L (done++[l.toNat]) (1-((0-need) / 2^(last-l).toNat)) l:=by
 obtain⟨n0,l0,hm⟩:=h;refine⟨?_,h0,fun m=>?_⟩
 ·have hp:(0:Int)<2^(last-l).toNat:=N7 (by decide)
  have:(0-need) / 2^(last-l).toNat<=0:=Int.ediv_nonpos_of_nonpos_of_neg (by lia) hp
  lia
 ·rw[shr need _ n0 m,bH];simp only[ks];have e1:2^(L-l.toNat)=2^(last-l).toNat*2^(L-last.toNat):=by
   rw[<- OH];congr 1;lia
  have hpos:=Nat.pow_pos (n:=L-l.toNat) (show 0<2 by decide)
  constructor
  ·rintro⟨m1,h⟩;have h':need<=(((m-1)*2^(last-l).toNat:Nat):Int):=by
    rw[Nu,Nv];exact h
   have:=(hm _).mp h';rw[Na,<- e1] at this;obtain⟨k,rfl⟩:∃ k,m=k+1:=⟨m-1,by lia⟩
   rw[NC] at this;rw[MK];exact Nat.add_le_add this (Kc _)
  ·intro h;have m1:1<=m:=by
    rcases ND m with z|z
    ·subst z;lia
    ·exact z
   refine⟨m1,?_⟩;have h':need<=(((m-1)*2^(last-l).toNat:Nat):Int):=by
    refine (hm _).mpr ?_;rw[Na,<- e1];obtain⟨k,rfl⟩:∃ k,m=k+1:=⟨m-1,by lia⟩
    rw[NC];rw[MK] at h;exact Nat.le_of_add_le_add_right h
   rw[Nu,Nv] at h';exact h'
end Kr
noncomputable def fD(s:T):Prop:=∃ n f c m:Int,s=.lst [.int n,.int f,.int c,.int m]
noncomputable def k_:dE:=fun args Q=>∃(s:T) (k:Int),args=[s,.int k]/\fD s/\0<k/\k<2^60/\∀(v:Int) (s':T),fD s'->0<=v->v<k->Q (.tr (.int v)) [s']
abbrev k0z(P w K mg base):=ae P w K mg base aU 1 "_law_draw" ["seed","most"] (spT K [true,false] k_)
theorem Az(T:Txt K mg)(F:HasFn K mg "_law_draw" e7 ["seed","most"]):k0z P w K mg base:=by
 refine F.fG d9 [true,false] rfl (by decide) ?_;left;obtain⟨sd,k,rfl,⟨n,fl,c,m,rfl⟩,k0,k1,q⟩:=h;refine⟨_,(Y.af (Y.asg (Y.op (Y.au K rfl) Y.av (Y.ix (Y.aD K rfl) Y.ai (Y.vS 0) Y.int) Y.int) (Y.oZ (Y.vS 0) Y.int))
   (Y.af (Y.eL (Y.tw (Y.tO (Y.aV (Y.b6 K rfl (Ks hu)) Y.cy (Y.ix (Y.aD K rfl) Y.ai (Y.vS 0) Y.int) Y.int) (Y.lh (Y.aV AO Y.gp (Y.ix (Y.aD K rfl) Y.ai (Y.vS 0) Y.int) Y.int)))) (Y.af (Y.set (i:=2) d9.nd rfl (by right) (Y.op eI Y.cA (Y.ix (Y.aD K rfl) Y.ai (Y.vS 0) Y.int) (Y.vS 1)))
   (Y.af (Y.asg (Y.op Y.fS Y.cA (Y.ix (Y.aD K rfl) Y.ai (Y.vS 0) Y.int) (Y.vS 1)) (Y.oZ (Y.vS 0) Y.int))
   (Y.aA (Y.ret (Y.vS 2))))) Y.bN)
   (Y.af (Y.set (i:=3) d9.nd rfl (by right) (Y.op eI Y.cA (Y.op (Y.dB K rfl) Y.cJ (Y.op (Y.au K rfl) Y.av (Y.op (Y.au K rfl) Y.av (Y.ix (Y.aD K rfl) Y.ai (Y.vS 0) Y.int) (Y.op (Y.dB K rfl) Y.cJ Y.int (Y.ix (Y.aD K rfl) Y.ai (Y.vS 0) Y.int))) Y.int) Y.int) Y.int))
   (Y.af (Y.set (i:=3) d9.nd rfl (by right) (Y.op eI Y.cA (Y.op (Y.dB K rfl) Y.cJ (Y.op eI Y.cA (Y.op (Y.dB K rfl) Y.cJ (Y.vS 3) (Y.vS 3)) Y.int) Y.int) Y.int))
   (Y.aA (Y.ret (Y.op eI Y.cA (Y.op Y.fS Y.cA (Y.vS 3) Y.int) (Y.vS 1)))))))),?_⟩
 have fin:∀ v n c:Int,Qt (.tr (.int (v % k))) [.lst [.int n,.int fl,.int c,.int m]]:=fun v n c=>q _ _ ⟨_,_,_,_,rfl⟩ (Int.emod_nonneg _ (by lia)) (NF _ k0)
 have x0:ie 4 0=some 0:=by decide
 have x2:ie 4 2=some 2:=by decide
 refine aq fun N hN=>?_;exists x2;symm;exists x0;by_cases h1:fl=1
 ·by_cases h2:0<n
  ·exists Ke h1,Ke h2;refine aq fun M hM=>?_;rfl';refine⟨k0,?_⟩;refine hM _ ?_;clear hM M;refine aq fun M hM=>?_;exists x0;refine⟨⟨k0,by lia⟩,?_⟩
   refine hM _ ?_;clear hM M;rfl';exact fin _ _ _
  ·exists Ke h1,JZ h2;ac_rfl;have m1:∀ a:Int,0<=a % 2147483647/\a % 2147483647<2147483647:=fun a=>⟨by lia,by lia⟩
   refine aq fun N hN=>?_;rfl';refine⟨.inl (by decide),.inr (by decide),by decide,?_⟩
   symm;rfl';refine⟨.inl ⟨by have:=m1 ((m+6997*(c+1)+11)*48271);lia,by have:=m1 ((m+6997*(c+1)+11)*48271);lia⟩,by decide,.inr (by decide),by decide,?_⟩
   ac_rfl;rfl';exact⟨⟨by decide,by decide⟩,k0,fin _ _ _⟩
 ·exists JZ h1;ac_rfl;have m1:∀ a:Int,0<=a % 2147483647/\a % 2147483647<2147483647:=fun a=>⟨by lia,by lia⟩
  refine aq fun N hN=>?_;rfl';refine⟨.inl (by decide),.inr (by decide),by decide,?_⟩
  symm;rfl';refine⟨.inl ⟨by have:=m1 ((m+6997*(c+1)+11)*48271);lia,by have:=m1 ((m+6997*(c+1)+11)*48271);lia⟩,by decide,.inr (by decide),by decide,?_⟩
  ac_rfl;rfl';exact⟨⟨by decide,by decide⟩,k0,fin _ _ _⟩
noncomputable def nI:List Int->List L2.T:=List.map L2.T.int
theorem bJ(xs:List Int):(nI xs).length=xs.length:=JY ..
theorem jm(xs ys:List Int):nI (xs++ys)=nI xs++nI ys:=Kt
theorem sk{xs:List Int}{i:Int}{v:Int}(h:bw xs i=some v):bw (nI xs) i=some (.int v):=by
 unfold bw at h ⊢;unfold nI;rw[JY]
 cases e:ie xs.length i with
 |none=>rw[e] at h;cases h
 |some j=>rw[e] at h;have h':xs[j]?=some v:=h;show (List.map L2.T.int xs)[j]?=_;rw[Kg,h'];rfl
theorem yY(xs:List Int)(a b:Option Int):Y.cg (nI xs) a b=nI (Y.cg xs a b):=by
 unfold Y.cg nI;rw[JY,NO,NP]
noncomputable def jx(ls:List Int):Prop:=0<ls.length/\ls.length<=20/\∀ x∈ls,1<=x/\x<=40
noncomputable def KS(ls:List Int):Nat:=Kr.ks 40 (ls.map Int.toNat)
noncomputable def ng(ls:List Int):Bool:=decide (KS ls<=2^40)
noncomputable def Bw:dE:=fun args Q=>∃ c:Int,args=[.int c]/\∀ s,fD s->Q (.fr s) []
theorem A2(T:Txt K mg)(F:HasFn K mg "_law_seed" eE ["cell"]):ae P w K mg base aU 1 "_law_seed" ["cell"] (spT K [false] Bw):=by
 refine F.fG g_ [false] rfl (by decide) ?_;left;obtain⟨c,rfl,q⟩:=h;refine⟨_,(Y.af (Y.set (i:=1) g_.nd rfl (by right) (Y.cb (i7 rfl) Y.pT rfl T.vd (by decide +kernel) (Y.cons (Y.vS 0) (Y.cons (Y.op cY Y.cw Y.int (Y.vS 0)) Y.nil))))
   (Y.aA (Y.ret (Y.lst (Y.cons (Y.vS 1) (Y.cons (Y.ct gc Y.mW rfl T.rW (by decide +kernel) (Y.cons (Y.cmp Bp Y.gp (Y.vS 1) (Y.op C7 Y.cA Y.int Y.int)) Y.nil)) (Y.cons Y.int (Y.cons (Y.op eI Y.cA (Y.vS 0) Y.int) Y.nil)))))))),?_⟩
 refine aq fun N hN=>?_;rfl';ac_rfl;rfl';exact⟨⟨by decide,by decide,by decide⟩,by decide,by decide,q _ ⟨_,_,_,_,rfl⟩⟩
noncomputable def BH:dE:=fun args Q=>∃(c:L2.T) (ls:List Int),args=[c]/\(c=.tup (nI ls)\/c=.lst (nI ls))/\jx ls/\Q (.tr (.bl (ng ls))) []
theorem Cy(T:Txt K mg)(F:HasFn K mg "can_be" hW ["lengths"]):ae P w K mg base aU 1 "can_be" ["lengths"] (spT K [false] BH):=by
 refine F.fG cf [false] rfl (by decide) ?_;left;obtain⟨c,ls,rfl,hc,hL,q⟩:=h;have hlen:nQ c=Ou.ok (.tr (.int (ls.length:Int))):=by rcases hc with rfl|rfl<;>(rw[<- bJ ls];rfl)
 have hsrt:∀(μ:Mu) (Q:R->Mu->Prop),Y.y4 c μ Q=(∃ ns:List Int,nI ls=ns.map L2.T.int/\ns.length<64/\∀ ns':List Int,ns'.Perm ns->ns'.Pairwise (·<=·)->Q (.fr (.lst (ns'.map L2.T.int))) μ):=fun μ Q=>by rcases hc with rfl|rfl<;>rfl
 refine⟨_,(Y.af (Y.set (i:=1) cf.nd rfl (by right) Y.int)
   (Y.af (Y.set (i:=2) cf.nd rfl (by right) Y.int)
   (Y.af (Y.set (i:=3) cf.nd rfl (by right) (Y.cb (Y.aH K rfl) Y.bp rfl T.cI (by decide +kernel) (Y.cons (Y.vS 0) Y.nil)))
   (Y.af (Y.eU K9 rfl (Y.anyS K rfl (Y.cb (Y.qK K rfl) Y.wY rfl T.jG (by decide +kernel) (Y.cons (Y.vS 0) Y.nil))) (Y.aG (i:=4) cf.nd rfl (by right)) (Y.af (Y.eL (Y.aV (Y.b6 K rfl (Ks hu)) Y.cy (Y.vS 1) Y.int) (Y.aA (Y.ret Y.bl)) Y.bN)
   (Y.af (Y.ki K9 (Y.tw (Y.tO (Y.aV oi Y.gp (Y.vS 2) (Y.vS 4)) (Y.lh (Y.aV oi Y.gp (Y.vS 1) (Y.vS 3))))) (Y.af (Y.set (i:=1) cf.nd rfl (by right) (Y.op (Y.dB K rfl) Y.cJ (Y.vS 1) Y.int))
   (Y.aA (Y.set (i:=2) cf.nd rfl (by right) (Y.op (Y.au K rfl) Y.av (Y.vS 2) Y.int)))))
   (Y.af (Y.eL (Y.aV Bp Y.gp (Y.vS 1) (Y.vS 3)) (Y.aA (Y.ret Y.bl)) Y.bN)
   (Y.af (Y.set (i:=1) cf.nd rfl (by right) (Y.op cY Y.cw (Y.vS 1) Y.int))
   (Y.aA (Y.set (i:=3) cf.nd rfl (by right) (Y.op cY Y.cw (Y.vS 3) Y.int))))))))
   (Y.aA (Y.ret Y.bl)))))),?_⟩
 refine aq fun N hN=>?_;rfl';symm;rfl';symm;exists hlen;symm;exists hsrt;refine⟨ls,rfl,by have:=hL.2.1;lia,fun rs hp hs=>?_⟩
 refine bz (fun rest μ=>∃(r:List Int) (f d n:Int) (s4:Option L2.T),rest=nI r/\r.Pairwise (·<=·)/\(∀ x∈r,1<=x/\x<=40/\d<=x)/\0<=f/\0<=d/\n=r.length/\(ng ls=true ↔ Kr.fit (r.map Int.toNat) f.toNat d.toNat 40)/\μ=[.tr c,.tr (.int f),.tr (.int d),.tr (.int n),sl s4])
  ⟨rs,1,0,_,none,rfl,hs,fun x hx=>by have:=hL.2.2 x (hp.mem_iff.mp hx);lia,by decide,by decide,by rw[hp.length_eq],?_,rfl⟩ ?_ ?_
 ·unfold ng KS Kr.fit;rw[NS,Kr.hU (hp.map Int.toNat),show (1:Int).toNat*2^(40-(0:Int).toNat)=2^40 from rfl]
 ·rintro μ ⟨r,f,d,n,s4,e,_,_,_,_,_,hi,rfl⟩
  cases r with
  |cons=>cases e
  |nil =>
   show N _;ac_rfl;rfl';have:ng ls=true:=hi.mpr (KN _);rw[this] at q;exact q
 ·rintro t ts μ M ⟨r,f,d,n,s4,e,hs,hx,f0,d0,hn,hi,rfl⟩ k
  cases r with
  |nil=>cases e
  |cons l r =>
   cases e;obtain⟨hl1,hl2,hl3⟩:=hx l (by simp)
   have hle:∀ x∈r,l<=x:=(K7.mp hs).1;rfl';refine aq fun M' hM=>?_;by_cases hf:f=0
   ·exists Ke hf;have:ng ls=false:=by
     cases c:ng ls with
     |false=>rfl
     |true=>have:=hi.mp c;rw[hf] at this;exact absurd this Kr.y3
    rw[this] at q;exact q
   ·exists JZ hf;refine hM _ ?_;clear hM M';refine aq fun M' hM=>?_;have after:∀ f d:Int,0<f->0<=d->d<=l->(d=l\/n<=f)->(ng ls=true ↔ Kr.fit ((l::r).map Int.toNat) f.toNat d.toNat 40)->M' [.tr c,.tr (.int f),.tr (.int d),.tr (.int n),.tr (.int l)]:=fun f d f0 d0 dl hc hi=>by
     refine hM _ ?_;clear hM M';refine aq fun M' hM=>?_;by_cases h3:n<=f
     ·exists Ke h3;have:ng ls=true:=hi.mpr (Kr.pU (fun x hx=>by
       obtain⟨y,hy,rfl⟩:=KA.mp hx;rcases Ki.mp hy with rfl|hy
       ·lia
       ·have:=hle y hy;lia) (by rw[JY];lia))
      rw[this] at q;exact q
     ·exists JZ h3;refine hM _ ?_;clear hM M';refine aq fun M' hM=>?_;rfl';refine hM _ ?_;clear hM M';rfl';have hd:d=l:=hc.resolve_right h3;subst hd;refine k _ ⟨r,f-1,d,n-1,some _,rfl,(K7.mp hs).2,fun x hx'=>⟨(hx x (by simp[hx'])).1,(hx x (by simp[hx'])).2.1,hle x hx'⟩,by lia,d0,by rw[hn,Kj];lia,?_,rfl⟩
      rw[hi,KD,Kr.yt (by lia),show (f-1).toNat=f.toNat-1 by lia]
    refine⟨fun m μ=>∃ f d:Int,0<f/\0<=d/\d<=l/\m=(l-d).toNat/\(ng ls=true ↔ Kr.fit ((l::r).map Int.toNat) f.toNat d.toNat 40)/\μ=[.tr c,.tr (.int f),.tr (.int d),.tr (.int n),.tr (.int l)],⟨_,f,d,by lia,d0,hl3,rfl,hi,rfl⟩,?_⟩
    rintro m μ ⟨f,d,f0,d0,dl,rfl,hi,rfl⟩;by_cases c1:d<l
    ·by_cases c2:f<n
     ·exists Ke c1,Ke c2;refine aq fun M2 h2=>?_;rfl';refine⟨.inr (by decide),?_⟩
      refine h2 _ ?_;clear h2 M2;rfl';refine⟨_,?_,f*2,d+1,by lia,by lia,by lia,rfl,?_,rfl⟩
      ·lia
      ·rw[hi,Kr.qE (l:=l.toNat) (by lia) (by lia),show (f*2).toNat=f.toNat*2 by lia,show (d+1).toNat=d.toNat+1 by lia]
       exact Iff.rfl
     ·exists Ke c1,JZ c2;exact after f d f0 d0 dl (.inr (by lia)) hi
    ·exists JZ c1;exact after f d f0 d0 dl (.inl (by lia)) hi
namespace Cw
noncomputable def inc:List Nat->List Nat
 |[]=>[]
 |c::r=>if r.all (· == 49) then (if c=48 then 49::r.map (fun _=>48) else 48::r.map (fun _=>48)) else c::inc r
noncomputable def pad(n:Nat)(w:List Nat):List Nat:=w++List.replicate (n-w.length) 48
noncomputable def eR(w:List Nat)(n:Nat):List Nat:=pad n (inc w)
noncomputable def eZ(w:List Nat)(n:Nat):List Nat:=pad n ((w.reverse.dropWhile (· == 49)).reverse.dropLast++[49])
theorem G5:∀ w:List Nat,w.all (· == 49)=true->inc w=w.map fun _=>48
 |[],_=>rfl
 |c::r,h=>by
  rw[Lf,KI] at h;have hc:c=49:=OV.mp h.1;unfold inc;rw[Ke h.2,JZ (by rw[hc];decide),KD]
theorem mf:∀{l:List Nat},l.all (· == 49)=true->l=List.replicate l.length 49
 |[],_=>rfl
 |c::r,h=>by
  rw[Lf,KI] at h;have hc:c=49:=OV.mp h.1;rw[Kj,KG,<- mf h.2,hc]
theorem zX(k:Nat):(List.replicate k 49).all (· == 49)=true:=by
 rw[Ln];intro x hx;rw[(Lv.mp hx).2];rfl
theorem parts:∀{w:List Nat},(∀ c∈w,c=48\/c=49)->w.all (· == 49)=false->∃ p k,w=p++48::List.replicate k 49
 |[],_,h=>by cases h
 |c::r,hb,h=>by
  by_cases z:r.all (· == 49)=true
  ·rw[Lf,z,Bool.and_true] at h;have hc:c=48:=(hb c Kk).resolve_right fun e=>by rw[e] at h;cases h
   exact⟨[],r.length,by rw[hc,L9,<- mf z]⟩
  ·obtain⟨p,k,e⟩:=parts (w:=r) (fun x hx=>hb x (Kh _ hx)) (by simpa using z)
   exact⟨c::p,k,by rw[e];rfl⟩
theorem f_(k:Nat):∀ p:List Nat,inc (p++48::List.replicate k 49)=p++49::List.replicate k 48
 |[]=>by
  rw[L9,L9];unfold inc;rw[Ke (zX k),Ke rfl,List.map_replicate]
 |c::p=>by
  rw[Mk];unfold inc;have z:¬ (p++48::List.replicate k 49).all (· == 49)=true:=by
   rw[List.all_append,Lf];simp
  rw[JZ z,f_ k p];rfl
theorem p_(k:Nat)(p:List Nat):((p++48::List.replicate k 49).reverse.dropWhile (· == 49)).reverse=p++[48]:=by
 rw[N3,List.reverse_cons,List.reverse_replicate];have e:∀(k:Nat) (t:List Nat),(List.replicate k 49++[48]++t).dropWhile (· == 49)=[48]++t:=fun k t=>by
  induction k with
  |zero=>rfl
  |succ k ih=>rw[KG,Mk,Mk,N1,Ke (by decide)];exact ih
 rw[e,N3,Nt];rfl
theorem kW{w:List Nat}(hb:∀ c∈w,c=48\/c=49)(h:w.all (· == 49)=false)(hn:w.length<=n):eZ w n=eR w n:=by
 obtain⟨p,k,rfl⟩:=parts hb h;unfold eZ eR pad;rw[p_,f_,List.dropLast_append_of_ne_nil (by simp)]
 rw[JX,Kj,Kl] at hn;simp only[List.dropLast_singleton,Kw,JX,Kj,Kl,K8,Ku,Mk,L9];congr 2;rw[List.replicate_append_replicate];congr 1;lia
noncomputable def val:List Nat->Nat
 |[]=>0
 |c::r=>(c-48)*2^r.length+val r
theorem fo:∀ a b:List Nat,val (a++b)=val a*2^b.length+val b
 |[],b=>by simp[val]
 |c::a,b=>by
  rw[Mk,val,val,fo a b,JX,OH,Nat.add_mul,Na,NK]
theorem eQ:∀ k,val (List.replicate k 48)=0
 |0=>rfl
 |k+1=>by rw[KG,val,eQ k];simp
theorem jy:∀ k,val (List.replicate k 49)+1=2^k
 |0=>rfl
 |k+1=>by
  have:=jy k;rw[KG,val,Kl,Ph];lia
theorem lX:∀ w:List Nat,(inc w).length=w.length
 |[]=>rfl
 |c::r=>by
  unfold inc;split
  ·split<;>simp
  ·rw[Kj,Kj,lX r]
theorem nN:∀{w:List Nat},(∀ c∈w,c=48\/c=49)->∀ c∈inc w,c=48\/c=49
 |[],_,_,h=>by cases h
 |d::r,hb,c,h=>by
  unfold inc at h
  split at h
  ·split at h
   ·rcases Ki.mp h with h|h
    ·exact .inr h
    ·obtain⟨_,_,e⟩:=KA.mp h;exact .inl e.symm
   ·rcases Ki.mp h with h|h
    ·exact .inl h
    ·obtain⟨_,_,e⟩:=KA.mp h;exact .inl e.symm
  ·rcases Ki.mp h with h|h
   ·rw[h];exact hb d Kk
   ·exact nN (fun x hx=>hb x (Kh _ hx)) c h
theorem dW{w:List Nat}(h:w.length<=n):(eR w n).length=n:=by
 unfold eR pad;rw[JX,Kl,lX];lia
theorem lI{w:List Nat}(hb:∀ c∈w,c=48\/c=49):∀ c∈eR w n,c=48\/c=49:=fun c h=>by
 rcases KZ.mp h with h|h
 ·exact nN hb c h
 ·exact .inl (Lv.mp h).2
theorem n9{w:List Nat}(hb:∀ c∈w,c=48\/c=49)(h:w.all (· == 49)=false):val (eR w n)=(val w+1)*2^(n-w.length):=by
 unfold eR pad;rw[fo,eQ,Kl,lX,Pc];congr 1;obtain⟨p,k,rfl⟩:=parts hb h;have:=jy k;rw[f_,fo,fo,val,val,eQ,Kj,Kj,Kl,Kl];lia
theorem xm{w:List Nat}(h:w.all (· == 49)=true):val w+1=2^w.length:=by
 rw[mf h,Kl];exact jy _
structure gE (done:List Nat) (w:List Nat):Prop where
 bits:∀ c∈w,c=48\/c=49
 len:w.length<=40
 sum:(val w+1)*2^(40-w.length)=Kr.ks 40 done
theorem gE.zero{rest w:List Nat}{l:Nat}(h:gE done w)(hk:Kr.ks 40 done+2^(40-l)<=2^40):w.all (· == 49)=false:=by
 cases z:w.all (· == 49) with
 |false=>rfl
 |true =>
  have e:=h.sum;rw[xm z,<- OH,Nat.add_sub_cancel' h.len] at e;have:0<2^(40-l):=Nat.pow_pos (by decide)
  lia
theorem gE.next{w:List Nat}{l:Nat}(h:gE done w)(hl:w.length<=l)(hl2:l<=40)(hk:Kr.ks 40 done+2^(40-l)<=2^40):gE (done++[l]) (eR w l):=by
 have z:=h.zero (rest:=[]) hk;refine⟨lI h.bits,by rw[dW hl];exact hl2,?_⟩
 rw[n9 h.bits z,dW hl,Nat.add_mul,Na,<- OH,Kr.bH,<- h.sum];have e:l-w.length+(40-l)=40-w.length:=by lia
 rw[e];simp[Kr.ks]
theorem gE.first{l:Nat}(hl:l<=40):gE [l] (List.replicate l 48):=⟨fun c h=>.inl (Lv.mp h).2,by rw[Kl];exact hl,by rw[eQ,Kl];simp[Kr.ks]⟩
noncomputable def along(nx:List Nat->Nat->List Nat)(ln:Nat->Nat):List Nat->Option (List Nat)×List (List Nat)->Option (List Nat)×List (List Nat)
 |[],s=>s
 |t::r,(a,ws) =>
  let w:=match a with|none=>List.replicate (ln t) 48|some v=>nx v (ln t)
  along nx ln r (some w,ws.set t w)
theorem gC:∀(order done:List Nat) (a:Option (List Nat)) (ws:List (List Nat)),(order.Pairwise fun i j=>ln i<=ln j)->(∀ t∈order,ln t<=40)->(∀ v,a=some v->gE done v/\∀ t∈order,v.length<=ln t)->(a=none->done=[])->Kr.ks 40 (done++order.map ln)<=2^40->along eZ ln order (a,ws)=along eR ln order (a,ws)
 |[],_,_,_,_,_,_,_,_=>rfl
 |t::r,done,a,ws,hp,h20,ha,hn,hk=>by
  obtain⟨p1,p2⟩:=K7.mp hp;have ht:=h20 t Kk;have hk':Kr.ks 40 ((done++[ln t])++r.map ln)<=2^40:=by rw[Ku];exact hk
  cases a with
  |none =>
   have:=hn rfl;subst this;exact gC r [ln t] _ _ p2 (fun x hx=>h20 x (Kh _ hx)) (fun v e=>by cases e;exact⟨gE.first ht,fun x hx=>by rw[Kl];exact p1 x hx⟩) (fun e=>by cases e) hk'
  |some v =>
   obtain⟨hv,hl⟩:=ha v rfl;have hvl:=hl t Kk;have hk2:Kr.ks 40 done+2^(40-ln t)<=2^40:=by
    rw[Kr.bH,Kr.bH] at hk';simp[Kr.ks] at hk';lia
   have e:=kW hv.bits (hv.zero (rest:=[]) hk2) hvl;show along eZ ln r (some (eZ v (ln t)),ws.set t (eZ v (ln t)))=along eR ln r (some (eR v (ln t)),ws.set t (eR v (ln t)));rw[e];exact gC r (done++[ln t]) _ _ p2 (fun x hx=>h20 x (Kh _ hx)) (fun u e=>by cases e;exact⟨hv.next hvl ht hk2,fun x hx=>by rw[dW hvl];exact p1 x hx⟩) (fun e=>by cases e) hk'
theorem fz{nx:List Nat->Nat->List Nat}:∀(a b:List Nat) (s:Option (List Nat)×List (List Nat)),along nx ln (a++b) s=along nx ln b (along nx ln a s)
 |[],_,_=>rfl
 |t::r,b,(a,ws)=>fz r b _
theorem gb{nx:List Nat->Nat->List Nat}:∀(o:List Nat) (s:Option (List Nat)×List (List Nat)),(along nx ln o s).2.length=s.2.length
 |[],_=>rfl
 |t::r,(a,ws)=>(gb r _).trans K_
end Cw
noncomputable def wd(w:List Nat):Str:=⟨w.toArray⟩
theorem bE(w:List Nat):(wd w).length=w.length:=J_ ..
theorem AW{x:Str}{w:List Nat}(h:x.cps.toList=w):x=wd w:=by
 cases x with|mk a=>subst h;unfold wd;rw[MA]
noncomputable def Ju:dE:=fun args Q=>∃ n:Nat,n<=40/\((args=[.aC,.int (n:Int)]/\Q (.tr (.str (wd (List.replicate n 48)))) [])\/∃ w,args=[.str (wd w),.int (n:Int)]/\w.length<=40/\Q (.tr (.str (wd (Cw.eZ w n)))) [])
abbrev k18z(P w K mg base):=ae P w K mg base aU 1 "word_behind" ["ahead","length"] (spT K [false,false] Ju)
theorem tL(T:Txt K mg)(F:HasFn K mg "word_behind" c_ ["ahead","length"]):k18z P w K mg base:=by
 refine F.fG jv [false,false] rfl (by decide) ?_;left;obtain⟨n,hn,h⟩:=h;refine⟨_,(Y.af (Y.eL (Y.aV fw Y.fq (Y.vS 0) Y.aC) (Y.aA (Y.ret (Y.op Y.r8 Y.sS Y.str (Y.vS 1)))) Y.bN)
   (Y.aA (Y.ret (Y.sm K rfl PySem.F.slot_str_ljust PySem.F.type_str_ljust Y.vz Y.xH (Y.op (Y.au K rfl) Y.av (Y.dS K rfl (Y.sm K rfl PySem.F.slot_str_rstrip PySem.F.type_str_rstrip Y.t7 Y.tG (Y.vS 0) (Y.cons Y.str Y.nil)) Y.DF (Y.mT (Y.neg Y.int))) Y.str) (Y.cons (Y.vS 1) (Y.cons Y.str Y.nil)))))),?_⟩
 rcases h with ⟨rfl,q⟩|⟨v,rfl,hv,q⟩
 ·refine jY fun N hN=>?_;rfl';refine⟨48,by decide,by lia,by lia,?_⟩
  rw[K6];exact q
 ·refine jY fun N hN=>?_;rfl';rw[hN];clear hN N;rfl';have e0:(Str.ofString "1").cps.contains=fun c:Nat=>c == 49:=by
   funext c
   show (#[49]:Array Nat).contains c=_;rw[Array.contains_eq_any_beq];simp
  have e1:=pw (wd v) (Str.ofString "1");rw[e0] at e1;have e2:(Txt.rstripChars (wd v) (Str.ofString "1")).cps.toList=(v.reverse.dropWhile (· == 49)).reverse:=by
   rw[<- Nt (Txt.rstripChars (wd v) (Str.ofString "1")).cps.toList,e1];rfl
  generalize Txt.rstripChars (wd v) (Str.ofString "1")=r at e2;have hr2:r.length<=40:=by
   have:r.length=r.cps.toList.length:=by rw[KC];rfl
   rw[this,e2,Mp];exact Kq (MX _).length_le (by rw[Mp];exact hv)
  have e3:(Y.eS r none (some (-1))).cps.toList=r.cps.toList.dropLast:=by
   show (Y.cg r.cps.toList none (some (-1))).toArray.toList=_;rw[N4];unfold Y.cg;rw[HT.gW,MO,Oh,OT];congr 1;show (if (-1:Int)<0 then ((-1:Int)+(r.cps.toList.length:Int)).toNat else min (-1:Int).toNat r.cps.toList.length)=_
   rw[Ke (by decide)]
   lia
  have hl3:(Y.eS r none (some (-1))).length<=40:=by
   have:(Y.eS r none (some (-1))).length=(Y.eS r none (some (-1))).cps.toList.length:=by rw[KC];rfl
   rw[this,e3,MB,KC];exact Kq (OU _ _) hr2
  refine⟨by rw[bE];lia,Kq hr2 (by decide),Kq (show _<=41 from Nat.add_le_add_right hl3 1) (by decide),by lia,by lia,rfl,?_⟩
  have e4:Txt.ljustF (Y.eS r none (some (-1))++Str.ofString "1") (n:Int) ((Str.ofString "0").cps.getD 0 0)=wd (Cw.eZ v n):=by
   refine AW ?_;rw[PyProof.Rows.ljustF_list,K6];have e5:(Y.eS r none (some (-1))++Str.ofString "1").cps.toList=(v.reverse.dropWhile (· == 49)).reverse.dropLast++[49]:=by
    show ((Y.eS r none (some (-1))).cps++#[49]).toList=_;rw[ME,e3,e2]
   have e6:(Y.eS r none (some (-1))++Str.ofString "1").length=((v.reverse.dropWhile (· == 49)).reverse.dropLast++[49]).length:=by
    rw[<- e5,KC];rfl
   rw[e5,e6];rfl
  rw[e4];exact q
noncomputable def aK(ls:List Int)(t:Nat):Nat:=(ls.getD t 0).toNat
noncomputable def bF(ls:List Int):List Nat:=ic ls (List.range ls.length)
noncomputable def wordsOf(nx:List Nat->Nat->List Nat)(ls:List Int):List (List Nat):=(Cw.along nx (aK ls) (bF ls) (none,List.replicate ls.length [])).2
noncomputable def wT(ws:List (List Nat)):List L2.T:=ws.map fun w=>.str (wd w)
theorem fE(ws:List (List Nat)):(wT ws).length=ws.length:=JY ..
noncomputable def AR(C:Addr):yG:=fun args Q Et=>∃ ls:List Int,args=[.tup (nI ls)]/\jx ls/\((ng ls=true/\Q (.tr (.tup (wT (wordsOf Cw.eZ ls)))) [])\/(ng ls=false/\Et (.exc (.ref C) none)))
noncomputable def H_:Option (List Nat)->L2.T
 |none=>.aC
 |some w=>.str (wd w)
noncomputable def i8(ls:List Int)(done:List Nat):Option (List Nat)×List (List Nat):=Cw.along Cw.eZ (aK ls) done (none,List.replicate ls.length [])
theorem rn{v:List Nat}(hv:v.length<=40)(hn:n<=40):(Cw.eZ v n).length<=40:=by
 have h1:((v.reverse.dropWhile (· == 49)).reverse.dropLast).length<=39:=by
  rw[MB,Mp];have:=(MX (· == 49) (l:=v.reverse)).length_le;rw[Mp] at this;lia
 unfold Cw.eZ Cw.pad;rw[JX,Kl,JX,KL];lia
theorem gY{t:Nat}(h:t∈bF ls):t<ls.length:=LI.mp ((jT (by rw[Ky])).mem_iff.mp h)
theorem vW(ls:List Int)(done:List Nat):(i8 ls done).2.length=ls.length:=by
 unfold i8;rw[Cw.gb,Kl]
theorem zC(T:Txt K mg)(F:HasFn K mg "code_of" cE ["lengths"])(hcan_be:ae P w K mg base aU 1 "can_be" ["lengths"] (spT K [false] BH))(hword_behind:k18z P w K mg base){C_NoCode:Addr}(hC_NoCode:mg "NoCode"=some (.ref C_NoCode))(kC_NoCode:pI K C_NoCode):
  ae P w K mg base (uN P w) 4 "code_of" ["lengths"] (zN K [false] (AR C_NoCode)):=by
 obtain⟨c,Pt,htab,hcc⟩:=T.ot.ex;refine F.Gr dO [false] rfl rfl (by decide) (fun args Qt Et hl h f cdv A outer s H E hr hcd=>?_)
 have:=hcc _ _ hcd;subst this;have hu:=aS hr;obtain⟨ls,rfl,hL,h⟩:=h;refine⟨_,(Y.dX (Y.Fe (Y.mO (Y.iK K rfl (Y.fn K rfl hcan_be (hr.mono (by decide)) rfl ax (Y.cons (Y.vS 0) Y.nil)))) (Y.kX (Y.wc rfl hC_NoCode kC_NoCode rfl rfl (Y.cons (Y.Gi (Y.CM (Y.Iy hr (Y.vS 0) Y.E5))) Y.nil))) Y.AN)
   (Y.dX (Y.xP (Y.Bf (j:=1) dO.nd rfl (by right) (osc:=aa cE) (ON:=["lengths","words","ahead","thing"]) (own:=["length"]) (N:=["length","lengths","words","ahead","thing"]) ⟨rfl,by decide +kernel,rfl,by decide +kernel,by decide +kernel,by decide +kernel,by decide +kernel,by decide +kernel⟩ rfl rfl rfl rfl (Y.anyS K rfl (Y.vS 0)) (fun _ _ _ _=>(Z.aG (i:=0) (show List.Nodup (["length","lengths","words","ahead","thing"]:List Str) by decide +kernel) rfl (by right))) (fun _ _ _ _=>Y.rF) (fun _ _ _ _=>Y.str)))
   (Y.dX (Y.xP (Y.set (i:=2) dO.nd rfl (by right) Y.aC))
   (Y.dX (Y.xP (Y.eU PassesOwn.leaving rfl (Y.anyS K rfl (Y.FC (k:=0) (j:=0) K rfl (by decide) htab rfl rfl rfl rfl rfl T.jG (Y.cons (Y.ct Y.nW Y.xR rfl T.dm (by decide +kernel) (Y.cons (Y.cb (Y.aH K rfl) Y.bp rfl T.cI (by decide +kernel) (Y.cons (Y.vS 0) Y.nil)) Y.nil)) Y.nil) (hr.mono (by decide)) rfl (by decide) rfl rfl rfl rfl rfl rfl rfl (fun _ _ _ _=>rfl))) (Y.aG (i:=3) dO.nd rfl (by right)) (Y.af (Y.asg (Y.fn K rfl hword_behind (hr.mono (by decide)) rfl ax (Y.cons (Y.vS 2) (Y.cons (Y.ix (Y.aD K rfl) Y.ai (Y.vS 0) (Y.vS 3)) Y.nil))) (Y.oZ (Y.vS 1) (Y.vS 3)))
   (Y.aA (Y.set (i:=2) dO.nd rfl (by right) (Y.ix (Y.aD K rfl) Y.ai (Y.vS 1) (Y.vS 3)))))))
   (Y.kX (Y.xP (Y.ret (Y.ct (Y.bM K rfl) Y.bZ rfl T.cu (by decide +kernel) (Y.cons (Y.vS 1) Y.nil))))))))),?_⟩
 refine ka fun N hN=>?_;rfl';refine⟨_,ls,rfl,.inl rfl,hL,?_⟩;rcases h with ⟨ho,q⟩|⟨ho,q⟩
 ·exists ho;rw[hN];clear hN N;refine ka fun N hN=>?_;rfl';refine bU (fun rest acc μ=>rest.length+acc.length=ls.length/\acc=wT (List.replicate acc.length [])/\μ=[.tr (.tup (nI ls)),.un,.un,.un]) ⟨by rw[bJ];rfl,rfl,rfl⟩ ?_ ?_
  ·rintro acc μ ⟨e1,e2,rfl⟩;have e3:acc=wT (List.replicate ls.length []):=by rw[<- show acc.length=ls.length by simpa using e1];exact e2
   clear e1 e2;subst e3;rfl';refine⟨trivial,?_⟩;rw[hN];clear hN N;refine ka fun N hN=>?_;rfl';rw[hN];clear hN N;refine ka fun N hN=>?_;exists bJ;refine⟨ls,rfl,rfl,by have:=hL.2.1;lia,?_⟩
   refine bz (fun rest μ=>∃(done todo:List Nat) (o:Option L2.T),done++todo=bF ls/\(rest=todo.map fun k=>L2.T.int ((k:Nat):Int))/\(∀ v,(i8 ls done).1=some v->v.length<=40)/\μ=[.tr (.tup (nI ls)),.bx (.lst (wT (i8 ls done).2)),.tr (H_ (i8 ls done).1),sl o]) ⟨[],bF ls,none,rfl,rfl,(fun v z=>by cases z),rfl⟩ ?_ ?_
   ·rintro μ ⟨done,todo,o,e1,e2,_,rfl⟩;have e3:todo=[]:=by simpa using e2.symm
    subst e3;rw[Kw] at e1;subst e1;show N _;rw[hN];clear hN N;rfl';exact q
   ·rintro t r μ M ⟨done,todo,o,e1,e2,hw,rfl⟩ k
    cases todo with
    |nil=>cases e2
    |cons th todo =>
     obtain⟨rfl,rfl⟩:=List.cons.inj e2;have hth:th<ls.length:=gY (by rw[<- e1];simp)
     have ex:bw (nI ls) (th:Int)=some (.int ls[th]):=sk (bB (JV hth));have xk:ie (wT (i8 ls done).2).length (th:Int)=some th:=by
      unfold ie;rw[fE,vW,Ke (by lia),Ke (by lia)];simp
     have hlt:=hL.2.2 _ (K3 hth);have en:((aK ls th:Nat):Int)=ls[th]:=by
      unfold aK;rw[Kd,JV hth];simp;lia
     have hn20:aK ls th<=40:=by lia
     have eD:i8 ls (done++[th])=Cw.along Cw.eZ (aK ls) [th] (i8 ls done):=Cw.fz _ _ _;have fin:∀ y:List Nat,y.length<=40->i8 ls (done++[th])=(some y,(i8 ls done).2.set th y)->M [.tr (.tup (nI ls)),.bx (.lst ((wT (i8 ls done).2).set th (.str (wd y)))),.tr (.str (wd y)),.tr (.int (th:Int))]:=fun y hy e=>by
      refine k _ ⟨done++[th],todo,some (.int (th:Int)),by rw[<- e1];simp,rfl,fun v z=>by rw[e] at z;cases z;exact hy,?_⟩
      rw[e];unfold wT;rw[Ot];rfl
     have setI:∀ y:List Nat,bw ((wT (i8 ls done).2).set th (.str (wd y))) (th:Int)=some (.str (wd y)):=fun y=>bB (KH (by rw[fE,vW];exact hth))
     cases hs:i8 ls done with
     |mk a ws =>
      rw[hs] at fin eD xk setI hw;dsimp only at fin xk setI
      cases a with
      |none =>
       rfl';refine jY fun N2 h2=>?_;exists ex,xk,H_;refine⟨aK ls th,hn20,.inl ⟨by rw[en],?_⟩⟩
       rfl';rw[h2];clear h2 N2;exists xk,setI;exact fin _ (by rw[Kl];exact hn20) eD
      |some v =>
       rfl';refine jY fun N2 h2=>?_;exists ex,xk,H_;refine⟨aK ls th,hn20,.inr ⟨v,by rw[en],hw v rfl,?_⟩⟩
       rfl';rw[h2];clear h2 N2;exists xk,setI;exact fin _ (rn (hw v rfl) hn20) eD
  ·rintro t r acc μ M ⟨e1,e2,rfl⟩ k;rfl';rw[Kj] at e1;refine⟨trivial,Kx (show acc.length<=40 by have:=hL.2.1;lia) (by decide),k _ _ ⟨by rw[JX];simp;lia,?_,rfl⟩⟩
   rw[JX,KL,List.replicate_succ',wT,Kt,<- wT,<- e2];rfl
 ·exists ho;exact⟨ls,rfl,by have:=hL.2.1;lia,fun i hi=>by have:=hL.2.2 i hi;lia,fun _ _=>q⟩
namespace Cw
noncomputable def Dv(a b:List Nat):Prop:=∃ u,u++[48] <+: a/\u++[49] <+: b
theorem oJ{u v:List Nat}{c d:Nat}(h1:u++[c] <+: b)(h2:v++[d] <+: b)(hl:u.length<v.length):u++[c] <+: v:=by
 have h3:v <+: b:=(NG v [d]).trans h2;exact Mr h1 h3 (by rw[JX];exact hl)
theorem Dv.trans{c:List Nat}(h:Dv a b)(g:Dv b c):Dv a c:=by
 obtain⟨u,h1,h2⟩:=h;obtain⟨v,g1,g2⟩:=g;rcases Nat.lt_trichotomy u.length v.length with e|e|e
 ·exact⟨u,h1,(oJ h2 g1 e).trans ((NG v [49]).trans g2)⟩
 ·have p1:(u++[49]).length=(v++[48]).length:=by rw[JX,JX,e];rfl
  have p2:u++[49]=v++[48]:=(Mr h2 g1 (by lia)).eq_of_length p1
  have p3:[49]=[48]:=(List.append_inj' p2 rfl).2;exact absurd p3 (by decide)
 ·exact⟨v,(oJ g1 h2 e).trans ((NG u [48]).trans h1),g2⟩
theorem Dv.not(h:Dv a b):¬ a <+: b/\¬ b <+: a:=by
 obtain⟨u,h1,h2⟩:=h;have key:∀ c,u++[48] <+: c->u++[49] <+: c->False:=fun c p q=>by
  have e:u++[48]=u++[49]:=(Mr p q (by simp)).eq_of_length (by simp)
  exact absurd (List.append_cancel_left e) (by decide)
 exact⟨fun p=>key b (h1.trans p) h2,fun p=>key a h1 (h2.trans p)⟩
theorem Dv.lt(h:Dv a b):a<b:=by
 obtain⟨u,⟨x,rfl⟩,⟨y,rfl⟩⟩:=h
 induction u with
 |nil=>exact List.Lex.rel (by decide)
 |cons c u ih=>exact List.Lex.cons ih
theorem A9{w:List Nat}(hb:∀ c∈w,c=48\/c=49)(h:w.all (· == 49)=false):Dv w (eR w n):=by
 obtain⟨p,k,rfl⟩:=parts hb h;unfold eR pad;rw[f_];exact⟨p,⟨List.replicate k 49,by simp⟩,⟨List.replicate k 48++List.replicate (n-(p++49::List.replicate k 48).length) 48,by simp⟩⟩
noncomputable def kl(ln:Nat->Nat)(a:Option (List Nat))(t:Nat):List Nat:=match a with
 |none=>List.replicate (ln t) 48
 |some v=>eZ v (ln t)
noncomputable def jE(ln:Nat->Nat):Option (List Nat)->List Nat->List (List Nat)
 |_,[]=>[]
 |a,t::r=>kl ln a t::jE ln (some (kl ln a t)) r
theorem xt:∀(order done:List Nat) (a:Option (List Nat)),(order.Pairwise fun i j=>ln i<=ln j)->(∀ t∈order,ln t<=40)->(∀ v,a=some v->gE done v/\∀ t∈order,v.length<=ln t)->(a=none->done=[])->Kr.ks 40 (done++order.map ln)<=2^40 ->
  (∀ v,a=some v->∀ x∈jE ln a order,Dv v x)/\(jE ln a order).Pairwise Dv/\∀(i t:Nat),order[i]?=some t->∃ w,(jE ln a order)[i]?=some w/\w.length=ln t
 |[],_,_,_,_,_,_,_=>⟨fun _ _ x hx=>(by cases hx),List.Pairwise.nil,fun i t e=>(by cases e)⟩
 |t::r,done,a,hp,h40,ha,hn,hk=>by
  obtain⟨p1,p2⟩:=K7.mp hp;have ht:=h40 t Kk;have hk':Kr.ks 40 ((done++[ln t])++r.map ln)<=2^40:=by rw[Ku];exact hk
  have fin:∀ w:List Nat,w=kl ln a t->gE (done++[ln t]) w->w.length=ln t->(∀ v,a=some v->Dv v w) ->
    (∀ v,a=some v->∀ x∈jE ln a (t::r),Dv v x)/\(jE ln a (t::r)).Pairwise Dv/\∀(i s:Nat),(t::r)[i]?=some s->∃ w,(jE ln a (t::r))[i]?=some w/\w.length=ln s:=fun w ew hH hl hd=>by
   obtain⟨q1,q2,q3⟩:=xt r (done++[ln t]) (some w) p2 (fun x hx=>h40 x (Kh _ hx)) (fun v e=>by cases e;exact⟨hH,fun x hx=>by rw[hl];exact p1 x hx⟩) (fun e=>by cases e) hk'
   have es:jE ln a (t::r)=w::jE ln (some w) r:=by rw[ew];rfl
   rw[es];refine⟨fun v e x hx=>?_,K7.mpr ⟨fun x hx=>q1 w rfl x hx,q2⟩,fun i s e=>?_⟩
   ·rcases Ki.mp hx with rfl|hx
    ·exact hd v e
    ·exact (hd v e).trans (q1 w rfl x hx)
   ·cases i with
    |zero=>cases e;exact⟨w,rfl,hl⟩
    |succ i=>exact q3 i s (by simpa using e)
  cases a with
  |none =>
   have:=hn rfl;subst this;exact fin _ rfl (gE.first ht) (show (List.replicate (ln t) 48).length=ln t by rw[Kl]) (fun v e=>by cases e)
  |some v =>
   obtain⟨hv,hl⟩:=ha v rfl;have hvl:=hl t Kk;have hk2:Kr.ks 40 done+2^(40-ln t)<=2^40:=by
    rw[Kr.bH,Kr.bH] at hk';simp[Kr.ks] at hk'
    omega
   have z:=hv.zero (rest:=[]) hk2;have e:=kW hv.bits z hvl;refine fin _ rfl ?_ ?_ ?_
   ·show gE _ (eZ v (ln t));rw[e];exact hv.next hvl ht hk2
   ·show (eZ v (ln t)).length=_;rw[e];exact dW hvl
   ·intro u eu;cases eu;show Dv v (eZ v (ln t));rw[e];exact A9 hv.bits z
theorem oz:∀(order:List Nat) (a:Option (List Nat)) (ws:List (List Nat)),order.Nodup->(∀ t∈order,t<ws.length)->(∀(i t:Nat),order[i]?=some t->(along eZ ln order (a,ws)).2[t]?=(jE ln a order)[i]?)/\∀ t,t∉order->(along eZ ln order (a,ws)).2[t]?=ws[t]?
 |[],_,_,_,_=>⟨fun i t e=>(by cases e),fun _ _=>rfl⟩
 |t::r,a,ws,hn,hl=>by
  obtain⟨n1,n2⟩:=KQ.mp hn;have ht:=hl t Kk;have ea:along eZ ln (t::r) (a,ws)=along eZ ln r (some (kl ln a t),ws.set t (kl ln a t)):=by cases a<;>rfl
  rw[ea];obtain⟨q1,q2⟩:=oz r (some (kl ln a t)) (ws.set t (kl ln a t)) n2 (fun x hx=>by rw[K_];exact hl x (Kh _ hx))
  refine⟨fun i s e=>?_,fun s hs=>?_⟩
  ·cases i with
   |zero =>
    cases e;exact (q2 t n1).trans (by rw[KH ht];rfl)
   |succ i=>exact q1 i s (by simpa using e)
  ·have h1:s≠t:=fun z=>hs (by rw[z];exact Kk)
   have h2:s∉r:=fun z=>hs (Kh _ z);exact (q2 s h2).trans (by rw[KU (Ne.symm h1)])
noncomputable def Lx(p q:Int×Nat):Prop:=p.1<q.1\/(p.1=q.1/\p.2<q.2)
theorem yy{p:Int×Nat}:∀{l:List (Int×Nat)},l.Pairwise Lx->(∀ q∈l,p.2<q.2)->(h9 p l).Pairwise Lx
 |[],_,_=>O0 _ _
 |q::r,h,hp=>by
  obtain⟨h1,h2⟩:=K7.mp h;have hq:=hp q Kk;unfold h9;split
  ·rename_i c;refine K7.mpr ⟨fun z hz=>?_,h⟩;have hz2:=hp z hz;have:q.1<=z.1:=by
    rcases Ki.mp hz with rfl|hz
    ·exact MV _
    ·have:=h1 z hz;unfold Lx at this;omega
   unfold Lx;omega
  ·rename_i c;refine K7.mpr ⟨fun z hz=>?_,yy h2 fun z hz=>hp z (Kh _ hz)⟩;rcases Ki.mp ((gi p r).mem_iff.mp hz) with rfl|hz
   ·unfold Lx;omega
   ·exact h1 z hz
theorem sD:∀{l:List (Int×Nat)},(l.Pairwise fun p q=>p.2<q.2)->(e8 l).Pairwise Lx
 |[],_=>.nil
 |p::r,h=>by
  obtain⟨h1,h2⟩:=K7.mp h;exact yy (sD h2) fun q hq=>h1 q ((dJ r).mem_iff.mp hq)
end Cw
structure Canon (ls:List Int) (W:List (List Nat)):Prop where
 len:W.length=ls.length
 CQ:∀ t,t<ls.length->(W.getD t []).length=aK ls t
 part:∀ s t,s<ls.length->t<ls.length->(ls.getD s 0<ls.getD t 0\/(ls.getD s 0=ls.getD t 0/\s<t))->Cw.Dv (W.getD s []) (W.getD t [])
theorem lG(ls:List Int):ls.zip (List.range ls.length)=(List.range ls.length).map fun t=>(ls.getD t 0,t):=by
 apply Mm
 ·simp
 ·intro i h1 h2;simp at h1;simp[h1]
theorem canon(hL:jx ls)(hk:KS ls<=2^40):Canon ls (wordsOf Cw.eZ ls):=by
 have hS:(Cw.Lx · ·)=(Cw.Lx · ·):=rfl;have hlx:(e8 (ls.zip (List.range ls.length))).Pairwise Cw.Lx:=by
  refine Cw.sD ?_;rw[lG];exact LX.mpr MW
 have hmem:∀ p∈e8 (ls.zip (List.range ls.length)),p.1=ls.getD p.2 0/\p.2<ls.length:=fun p hp=>by
  have:=(dJ _).mem_iff.mp hp;rw[lG] at this;obtain⟨t,ht,rfl⟩:=KA.mp this;exact⟨rfl,LI.mp ht⟩
 have hord:(bF ls).Pairwise fun s t=>ls.getD s 0<ls.getD t 0\/(ls.getD s 0=ls.getD t 0/\s<t):=by
  unfold bF ic;refine LX.mpr (hlx.imp_of_mem fun {p q} hp hq h=>?_);rw[<- (hmem p hp).1,<- (hmem q hq).1];exact h
 have hperm:(bF ls).Perm (List.range ls.length):=jT (by rw[Ky])
 have hnd:(bF ls).Nodup:=hperm.nodup_iff.mpr List.nodup_range;have hb:∀ t,t<ls.length->1<=ls.getD t 0/\ls.getD t 0<=40:=fun t ht=>by
  rw[Kd,JV ht];exact hL.2.2 _ (K3 ht)
 have hmm:∀ t∈bF ls,t<ls.length:=fun t ht=>gY ht;have hks:Kr.ks 40 ([]++(bF ls).map (aK ls))<=2^40:=by
  rw[L9,Kr.hU (hperm.map (aK ls))];have e:(List.range ls.length).map (aK ls)=ls.map Int.toNat:=by
   apply Mm
   ·simp
   ·intro i h1 h2;simp at h1;simp[aK,h1]
  rw[e];exact hk
 obtain⟨_,q2,q3⟩:=Cw.xt (ln:=aK ls) (bF ls) [] none (hord.imp_of_mem fun {s t} hs ht h=>by
  have:=hb s (hmm s hs);have:=hb t (hmm t ht);unfold aK;omega) (fun t ht=>by have:=hb t (hmm t ht);unfold aK;omega) (fun v e=>by cases e) (fun _=>rfl) hks
 obtain⟨a1,_⟩:=Cw.oz (ln:=aK ls) (bF ls) none (List.replicate ls.length []) hnd (fun t ht=>by rw[Kl];exact hmm t ht)
 have hat:∀ t,t<ls.length->∃ i w,(bF ls)[i]?=some t/\(Cw.jE (aK ls) none (bF ls))[i]?=some w/\w.length=aK ls t/\(wordsOf Cw.eZ ls).getD t []=w:=fun t ht=>by
  obtain⟨i,hi⟩:=Nh.mp (hperm.mem_iff.mpr (LI.mpr ht));obtain⟨w,hw,hl⟩:=q3 i t hi;refine⟨i,w,hi,hw,hl,?_⟩;unfold wordsOf;rw[Kd,a1 i t hi,hw];rfl
 refine⟨?_,fun t ht=>?_,fun s t hs ht h=>?_⟩
 ·unfold wordsOf;rw[Cw.gb,Kl]
 ·obtain⟨i,w,_,_,hl,e⟩:=hat t ht;rw[e];exact hl
 ·obtain⟨i,w,h1,h2,_,e⟩:=hat s hs;obtain⟨j,v,g1,g2,_,e'⟩:=hat t ht;rw[e,e'];obtain⟨hi,rfl⟩:=Kf.mp h2;obtain⟨hj,rfl⟩:=Kf.mp g2;obtain⟨hi',ei⟩:=Kf.mp h1;obtain⟨hj',ej⟩:=Kf.mp g1;have hij:i<j:=by
   rcases Nat.lt_trichotomy i j with c|c|c
   ·exact c
   ·subst c;have est:s=t:=ei.symm.trans ej;subst est
    exfalso;omega
   ·have:=MI.mp hord j i hj' hi' c;rw[ei,ej] at this
    exfalso;omega
  exact MI.mp q2 i j hi hj hij
noncomputable def Bj:dE:=fun args Q=>∃ ns:List Int,args=[.ee (nI ns)]/\∀ v:Int,Q (.tr (.int v)) []
theorem t5(T:Txt K mg)(F:HasFn K mg "_law_folded" dk ["script"]):ae P w K mg base aU 1 "_law_folded" ["script"] (spT K [false] Bj):=by
 refine F.fG cM [false] rfl (by decide) ?_;left;obtain⟨ns,rfl,q⟩:=h;refine⟨_,(Y.af (Y.set (i:=1) cM.nd rfl (by right) (Y.cb (Y.aH K rfl) Y.bp rfl T.cI (by decide +kernel) (Y.cons (Y.vS 0) Y.nil)))
   (Y.af (Y.eU K9 rfl (Y.anyS K rfl (Y.vS 0)) (Y.aG (i:=2) cM.nd rfl (by right)) (Y.aA (Y.set (i:=1) cM.nd rfl (by right) (Y.op eI Y.cA (Y.op (Y.au K rfl) Y.av (Y.op (Y.dB K rfl) Y.cJ (Y.vS 1) Y.int) (Y.op eI Y.cA (Y.vS 2) Y.int)) Y.int))))
   (Y.aA (Y.ret (Y.vS 1))))),?_⟩
 refine aq fun N hN=>?_;exists bJ;symm;rfl';refine bz (fun rest μ=>∃(ms:List Int) (v:Int) (o:Option L2.T),rest=nI ms/\μ=[.tr (.ee (nI ns)),.tr (.int v),sl o]) ⟨ns,_,none,rfl,rfl⟩ ?_ ?_
 ·rintro μ ⟨ms,v,o,_,rfl⟩;show N _;ac_rfl;rfl';exact q v
 ·rintro t r μ M ⟨ms,v,o,e,rfl⟩ k
  cases ms with
  |nil=>cases e
  |cons m ms =>
   cases e;rfl';refine⟨.inr (by decide),by decide,by decide,k _ ⟨ms,_,some _,rfl,rfl⟩⟩
noncomputable def nk:dE:=fun args Q=>args=[]/\Q (.fr (.lst [.str "put",.str "add",.str "sub",.str "copy",.str "tell",.str "hear",.str "jump",.str "zero",.str "halt"])) []
abbrev k22z(P w K mg base):=ae P w K mg base aU 1 "_law_words" [] (spT K [] nk)
theorem uj(T:Txt K mg)(F:HasFn K mg "_law_words" d8 []):k22z P w K mg base:=by
 refine F.fG kD [] rfl (by decide) (fun args Qt hl h f cdv A outer s H E hr=>?_)
 obtain⟨rfl,q⟩:=h;refine⟨_,(Y.aA (Y.ret (Y.lst (Y.eC rfl rfl)))),?_⟩;rfl';exact⟨by decide,q⟩
noncomputable def sR:dE:=fun args Q=>∃ s:L2.T,args=[s]/\fD s/\∀(v:Nat) (s':L2.T),fD s'->v<65536->Q (.tr (.int (v:Int))) [s']
theorem tY(T:Txt K mg)(F:HasFn K mg "_law_number" dc ["seed"])(h_law_draw:k0z P w K mg base):ae P w K mg base aU 2 "_law_number" ["seed"] (spT K [true] sR):=by
 refine F.fG bX [true] rfl (by decide) ?_;left;obtain⟨sd,rfl,hs,q⟩:=h;have qi:∀(v:Int) (s':L2.T),fD s'->0<=v->v<65536->Qt (.tr (.int v)) [s']:=fun v s' h0 h1 h2=>by
  obtain⟨k,rfl⟩:∃ k:Nat,v=k:=⟨v.toNat,by lia⟩
  exact q k s' h0 (by lia)
 refine⟨_,(Y.af (Y.set (i:=1) bX.nd rfl (by right) (Y.fn K rfl h_law_draw (hr.mono (by decide)) rfl ax (Y.cons (Y.vS 0) (Y.cons Y.int Y.nil))))
   (Y.af (Y.eL (Y.aV (Y.b6 K rfl (Ks hu)) Y.cy (Y.vS 1) Y.int) (Y.aA (Y.ret (Y.fn K rfl h_law_draw (hr.mono (by decide)) rfl ax (Y.cons (Y.vS 0) (Y.cons Y.int Y.nil))))) Y.bN)
   (Y.af (Y.eL (Y.aV (Y.b6 K rfl (Ks hu)) Y.cy (Y.vS 1) Y.int) (Y.aA (Y.ret (Y.fn K rfl h_law_draw (hr.mono (by decide)) rfl ax (Y.cons (Y.vS 0) (Y.cons Y.int Y.nil))))) Y.bN)
   (Y.af (Y.eL (Y.aV (Y.b6 K rfl (Ks hu)) Y.cy (Y.vS 1) Y.int) (Y.aA (Y.ret (Y.op cY Y.cw Y.int (Y.fn K rfl h_law_draw (hr.mono (by decide)) rfl ax (Y.cons (Y.vS 0) (Y.cons Y.int Y.nil)))))) Y.bN)
   (Y.af (Y.set (i:=2) bX.nd rfl (by right) Y.int)
   (Y.af (Y.eU K9 rfl (Y.jk rfl T.dm (Y.cons (Y.fn K rfl h_law_draw (hr.mono (by decide)) rfl ax (Y.cons (Y.vS 0) (Y.cons Y.int Y.nil))) Y.nil)) (Y.aG (i:=3) bX.nd rfl (by right)) (Y.aA (Y.set (i:=2) bX.nd rfl (by right) (Y.op (Y.au K rfl) Y.av (Y.vS 2) (Y.vS 2)))))
   (Y.aA (Y.ret (Y.op cY Y.cw (Y.vS 2) (Y.fn K rfl h_law_draw (hr.mono (by decide)) rfl ax (Y.cons (Y.vS 0) (Y.cons Y.int Y.nil)))))))))))),?_⟩
 refine aq fun N hN=>?_;rfl';refine⟨sd,4,rfl,hs,by decide,by decide,fun way s1 hs1 w0 w1=>?_⟩
 rfl';symm;by_cases a0:way=0
 ·exists Ke a0;refine⟨s1,5,rfl,hs1,by decide,by decide,fun v s2 hs2 v0 v1=>?_⟩
  rfl';exact qi v s2 hs2 v0 (by lia)
 ·exists JZ a0;symm;by_cases a1:way=1
  ·exists Ke a1;refine⟨s1,65536,rfl,hs1,by decide,by decide,fun v s2 hs2 v0 v1=>?_⟩
   rfl';exact qi v s2 hs2 v0 v1
  ·exists JZ a1;symm;by_cases a2:way=2
   ·exists Ke a2;refine⟨s1,3,rfl,hs1,by decide,by decide,fun v s2 hs2 v0 v1=>?_⟩
    rfl';exact qi _ s2 hs2 (by lia) (by lia)
   ·exists JZ a2;symm;rfl';symm;rfl';refine⟨s1,16,rfl,hs1,by decide,by decide,fun m s2 hs2 m0 m1=>?_⟩
    rfl';refine⟨by lia,by lia,?_⟩
    refine bz (fun rest μ=>∃(j:Nat) (v:Int) (o:Option L2.T),j+rest.length=m.toNat/\v=2^j/\μ=[.pb s2,.tr (.int way),.tr (.int v),sl o]) ⟨0,1,none,by simp,rfl,rfl⟩ ?_ ?_
    ·rintro μ ⟨j,v,o,hj,hv,rfl⟩;show N _;ac_rfl;rfl';refine⟨s2,2,rfl,hs2,by decide,by decide,fun d s3 hs3 d0 d1=>?_⟩
     rfl';have h1:(1:Int)<=2^j:=Int.le_of_lt_add_one (by have:=N7 (n:=2) (m:=j) (by decide);lia)
     have h2:(2:Int)^j<=2^15:=by
      have:2^j<=2^15:=Ma (by decide) (by simp at hj;lia)
      exact_mod_cast this
     rw[hv];exact qi _ s3 hs3 (by lia) (by lia)
    ·rintro t r μ M ⟨j,v,o,hj,hv,rfl⟩ k;rfl';refine k _ ⟨j+1,v+v,some t,by rw[Kj] at hj;lia,by rw[hv,Nx];lia,rfl⟩
theorem Jz{b:Nat}(h:b<8):b=0\/b=1\/b=2\/b=3\/b=4\/b=5\/b=6\/b=7:=by lia
inductive Row where
 |put (b n:Nat)|two (w:Fin 3) (a b:Nat)|one (w:Fin 2) (b:Nat)|jump (g:Nat)|zero (b g:Nat)|halt
 deriving DecidableEq
noncomputable def fL(i:Nat):Str:=⟨#[97+i]⟩
noncomputable def w2:Fin 3->Str
 |0=>"add"
 |1=>"sub"
 |2=>"copy"
noncomputable def w1:Fin 2->Str
 |0=>"tell"
 |1=>"hear"
inductive GV where
 |s (z:Str)|n (k:Nat)
noncomputable def GV.t:GV->L2.T
 |.s z=>.str z
 |.n k=>.int (k:Nat)
noncomputable def Row.ps:Row->List GV
 |.put b n=>[.s "put",.s (fL b),.n n]
 |.two w a b=>[.s (w2 w),.s (fL a),.s (fL b)]
 |.one w b=>[.s (w1 w),.s (fL b)]
 |.jump g=>[.s "jump",.n g]
 |.zero b g=>[.s "zero",.s (fL b),.n g]
 |.halt=>[.s "halt"]
noncomputable def Row.t(r:Row):L2.T:=.tup (r.ps.map GV.t)
noncomputable def Row.Ok(size:Nat):Row->Prop
 |.put b n=>b<8/\n<65536
 |.two _ a b=>a<8/\b<8
 |.one _ b=>b<8
 |.jump g=>g<=size
 |.zero b g=>b<8/\g<=size
 |.halt=>True
theorem Row.Ok.mono{a b:Nat}{r:Row}(h:r.Ok a)(hm:a<=b):r.Ok b:=by
 cases r<;>simp only[Row.Ok] at h ⊢<;>lia
theorem yu{k:Int}(h0:0<=k)(h1:k<8):bw (Str.ofString "abcdefgh").cps.toList k=some (97+k.toNat):=by
 have e:(Str.ofString "abcdefgh").cps.toList=[97,98,99,100,101,102,103,104]:=by decide +kernel
 rw[e];obtain⟨n,rfl⟩:∃ n:Nat,k=n:=⟨k.toNat,by lia⟩
 unfold bw ie;have hn:n<8:=by lia
 rw[Ke (by lia),Ke (by simp;lia)]
 show [97,98,99,100,101,102,103,104][((n:Nat):Int).toNat]?=some (97+((n:Nat):Int).toNat);rw[K6];rcases Jz hn with rfl|rfl|rfl|rfl|rfl|rfl|rfl|rfl<;>rfl
theorem DU{i:Int}(h0:0<=i)(h1:i<xs.length):∃ t,t∈xs/\bw xs i=some t:=by
 obtain⟨n,rfl⟩:∃ n:Nat,i=n:=⟨i.toNat,by lia⟩
 have hn:n<xs.length:=by lia
 exact⟨xs[n],K3 hn,bB (JV hn)⟩
noncomputable def Fh:dE:=fun args Q=>∃(s:L2.T) (many:Nat),args=[s,.int (many:Int),.int 9]/\fD s/\many<1000/\∀(r:Row) (s':L2.T),r.Ok many->fD s'->Q (.tr r.t) [s']
abbrev k15z(P w K mg base):=ae P w K mg base aU 3 "_law_row" ["seed","many","words"] (spT K [true,false,false] Fh)
theorem DN(T:Txt K mg)(F:HasFn K mg "_law_row" fb ["seed","many","words"])(h_law_draw:k0z P w K mg base)(h_law_words:k22z P w K mg base)(h_law_number:ae P w K mg base aU 2 "_law_number" ["seed"] (spT K [true] sR)):
  k15z P w K mg base:=by
 refine F.fG fT [true,false,false] rfl (by decide) ?_;left;obtain⟨sd,many,rfl,hs,hmy,q⟩:=h;refine⟨_,(Y.af (Y.set (i:=3) fT.nd rfl (by right) (Y.ix (Y.aD K rfl) Y.ai (Y.Hn K rfl h_law_words (hr.mono (by decide)) rfl ax) (Y.fn K rfl h_law_draw (hr.mono (by decide)) rfl ax (Y.cons (Y.vS 0) (Y.cons (Y.vS 2) Y.nil)))))
   (Y.af (Y.set (i:=4) fT.nd rfl (by right) (Y.ix (Y.aD K rfl) Y.ai Y.str (Y.fn K rfl h_law_draw (hr.mono (by decide)) rfl ax (Y.cons (Y.vS 0) (Y.cons Y.int Y.nil)))))
   (Y.af (Y.eL (Y.aV (Y.b6 K rfl (Ks hu)) Y.cy (Y.vS 3) Y.str) (Y.aA (Y.ret (Y.tup (Y.cons (Y.vS 3) (Y.cons (Y.vS 4) (Y.cons (Y.fn K rfl h_law_number (hr.mono (by decide)) rfl ax (Y.cons (Y.vS 0) Y.nil)) Y.nil)))))) Y.bN)
   (Y.af (Y.eL (Y.aV (Y.j8 K rfl) Y.lP (Y.vS 3) (Y.tup (Y.eC rfl rfl))) (Y.aA (Y.ret (Y.tup (Y.cons (Y.vS 3) (Y.cons (Y.vS 4) (Y.cons (Y.ix (Y.aD K rfl) Y.ai Y.str (Y.fn K rfl h_law_draw (hr.mono (by decide)) rfl ax (Y.cons (Y.vS 0) (Y.cons Y.int Y.nil)))) Y.nil)))))) Y.bN)
   (Y.af (Y.eL (Y.aV (Y.j8 K rfl) Y.lP (Y.vS 3) (Y.tup (Y.eC rfl rfl))) (Y.aA (Y.ret (Y.tup (Y.cons (Y.vS 3) (Y.cons (Y.vS 4) Y.nil))))) Y.bN)
   (Y.af (Y.eL (Y.aV (Y.b6 K rfl (Ks hu)) Y.cy (Y.vS 3) Y.str) (Y.aA (Y.ret (Y.tup (Y.cons (Y.vS 3) (Y.cons (Y.fn K rfl h_law_draw (hr.mono (by decide)) rfl ax (Y.cons (Y.vS 0) (Y.cons (Y.op (Y.au K rfl) Y.av (Y.vS 1) Y.int) Y.nil))) Y.nil))))) Y.bN)
   (Y.af (Y.eL (Y.aV (Y.b6 K rfl (Ks hu)) Y.cy (Y.vS 3) Y.str) (Y.aA (Y.ret (Y.tup (Y.cons (Y.vS 3) (Y.cons (Y.vS 4) (Y.cons (Y.fn K rfl h_law_draw (hr.mono (by decide)) rfl ax (Y.cons (Y.vS 0) (Y.cons (Y.op (Y.au K rfl) Y.av (Y.vS 1) Y.int) Y.nil))) Y.nil)))))) Y.bN)
   (Y.aA (Y.ret (Y.tup (Y.cons (Y.vS 3) Y.nil))))))))))),?_⟩
 refine aq fun N hN=>?_;rfl';refine⟨rfl,?_⟩;rfl';refine⟨sd,9,rfl,hs,by decide,by decide,fun c s1 hs1 c0 c1=>?_⟩
 obtain⟨v,hv,ha⟩:=DU (xs:=[.str "put",.str "add",.str "sub",.str "copy",.str "tell",.str "hear",.str "jump",.str "zero",.str "halt"]) c0 c1;exists ha;clear ha c0 c1;symm;rfl';refine⟨s1,8,rfl,hs1,by decide,by decide,fun b s2 hs2 b0 b1=>?_⟩
 have hb:=yu b0 b1;exists hb;refine⟨by decide +kernel,?_⟩
 ac_rfl;obtain⟨bn,rfl⟩:∃ bn:Nat,b=bn:=⟨b.toNat,by lia⟩
 have hb8:bn<8:=by lia
 rw[K6];show Y.A7 _ _ _ [.pb s2,.tr (.int (many:Int)),.tr (.int 9),.tr v,.tr (.str (fL bn))];have hv6:v=.str "put"\/(∃ w,v=.str (w2 w))\/(∃ w,v=.str (w1 w))\/v=.str "jump"\/v=.str "zero"\/v=.str "halt":=by
  simp only[Ki,Ld,Mi] at hv;rcases hv with h|h|h|h|h|h|h|h|h<;>subst h<;>first|exact .inl rfl|exact .inr (.inl ⟨0,rfl⟩)|exact .inr (.inl ⟨1,rfl⟩)|exact .inr (.inl ⟨2,rfl⟩)|exact .inr (.inr (.inl ⟨0,rfl⟩))|exact .inr (.inr (.inl ⟨1,rfl⟩))|simp
 clear hv;refine aq fun N hN=>?_;rcases hv6 with rfl|⟨u,rfl⟩|⟨u,rfl⟩|hv
 ·exists (show (Str.ofString "put"=Str.ofString "put")=True from eq_true rfl),LS;refine⟨s2,rfl,hs2,fun k s3 hs3 k1=>?_⟩;rfl';exact⟨by decide,q (.put bn k) s3 ⟨hb8,k1⟩ hs3⟩
 ·have n1:∀ u,w2 u≠"put":=by decide +kernel
  have i1:∀ u,Y.eF (.str (w2 u)) [.str "add",.str "sub",.str "copy"]=true:=by decide +kernel
  exists JZ (n1 u);symm;exists i1 u;refine⟨by decide,rfl,rfl,s2,8,rfl,hs2,by decide,by decide,fun c s3 hs3 c0 c1=>?_⟩
  have hc:=yu c0 c1;exists hc;exact⟨by decide +kernel,by decide,q (.two u bn c.toNat) s3 ⟨hb8,by lia⟩ hs3⟩
 ·have n1:∀ u,w1 u≠"put":=by decide +kernel
  have i1:∀ u,Y.eF (.str (w1 u)) [.str "add",.str "sub",.str "copy"]=false:=by decide +kernel
  have i2:∀ u,Y.eF (.str (w1 u)) [.str "tell",.str "hear"]=true:=by decide +kernel
  exists JZ (n1 u);symm;exists i1 u;refine⟨by decide,rfl,rfl,?_⟩
  symm;exists i2 u;exact⟨by decide,rfl,rfl,by decide,q (.one u bn) s2 hb8 hs2⟩
 ·have n1:∀ z∈([("jump"),("zero"),("halt")]:List Str),z≠"put"/\Y.eF (.str z) [.str "add",.str "sub",.str "copy"]=false/\Y.eF (.str z) [.str "tell",.str "hear"]=false:=by decide +kernel
  obtain⟨z,hz,rfl⟩:∃ z∈([("jump"),("zero"),("halt")]:List Str),v=.str z:=by rcases hv with rfl|rfl|rfl<;>exact⟨_,by simp,rfl⟩
  obtain⟨e1,e2,e3⟩:=n1 z hz;exists JZ e1;symm;exists e2;refine⟨by decide,rfl,rfl,?_⟩
  symm;exists e3;refine⟨by decide,rfl,rfl,?_⟩
  symm;rcases hv with hv|hv
  ·cases hv;exists Ke (rfl:Str.ofString "jump"=Str.ofString "jump");refine⟨s2,(many:Int)+1,rfl,hs2,by lia,by lia,fun g s3 hs3 g0 g1=>?_⟩
   obtain⟨gn,rfl⟩:∃ gn:Nat,g=gn:=⟨g.toNat,by lia⟩
   rfl';exact⟨by decide,q (.jump gn) s3 (show gn<=many by lia) hs3⟩
  ·have nh:z≠"jump":=by rcases hv with hv|hv<;>cases hv<;>decide +kernel
   exists JZ nh;symm;rcases hv with hv|hv
   ·cases hv;exists Ke (rfl:Str.ofString "zero"=Str.ofString "zero");refine⟨s2,(many:Int)+1,rfl,hs2,by lia,by lia,fun g s3 hs3 g0 g1=>?_⟩
    obtain⟨gn,rfl⟩:∃ gn:Nat,g=gn:=⟨g.toNat,by lia⟩
    rfl';exact⟨by decide,q (.zero bn gn) s3 ⟨hb8,(show gn<=many by lia)⟩ hs3⟩
   ·cases hv;have nz:Str.ofString "halt"≠Str.ofString "zero":=by decide +kernel
    exists JZ nz;ac_rfl;rfl';exact⟨by decide,q .halt s2 trivial hs2⟩
noncomputable def oI:Option Nat->L2.T
 |none=>.aC
 |some k=>.int k
noncomputable def nO:List (Option Nat)->List L2.T:=List.map oI
noncomputable def gy:Option Nat->Int
 |none=>0
 |some 0=>5
 |some 1=>10
 |some _=>18
noncomputable def wZ:List Int->List (Option Nat)->Int->List Int
 |s::ss,w::ws,a=>(a+s+gy w)::wZ ss ws (a+s+gy w)
 |_,_,_=>[]
noncomputable def aF(ss:List Int)(ws:List (Option Nat)):List Int:=0::wZ ss ws 0
theorem rV:∀(ss:List Int) (ws:List (Option Nat)) (a:Int),ss.length=ws.length->(wZ ss ws a).length=ss.length
 |[],[],_,_=>rfl
 |s::ss,w::ws,a,h=>K4 (·+1) (rV ss ws _ (by simpa using h))
noncomputable def Ws(ws:List (Option Nat)):Prop:=∀ w∈ws,∀ k,w=some k->k<3
theorem o_{xs:List (Option Nat)}{v:Option Nat}(h:xs[j]?=some v):bw (nO xs) (j:Int)=some (oI v):=by
 refine bB ?_;unfold nO;rw[Kg,h];rfl
theorem fj(xs:List (Option Nat)):(nO xs).length=xs.length:=JY ..
noncomputable def Ge:dE:=fun args Q=>∃ w:Option Nat,args=[oI w]/\(∀ k,w=some k->k<3)/\Q (.tr (.int (gy w))) []
theorem oO(T:Txt K mg)(F:HasFn K mg "own_part" ft ["width"]):ae P w K mg base aU 1 "own_part" ["width"] (spT K [false] Ge):=by
 refine F.fG oU [false] rfl (by decide) ?_;left;obtain⟨w,rfl,hw,q⟩:=h;refine⟨_,(Y.aA (Y.ret (Y.CW (Y.aV fw Y.fq (Y.vS 0) Y.aC) Y.int (Y.op (Y.au K rfl) Y.av (Y.cb (Y.aH K rfl) Y.bp rfl T.cI (by decide +kernel) (Y.cons (Y.ix (Y.aD K rfl) Y.ai (Y.gQ rfl T.sj) (Y.vS 0)) Y.nil)) (Y.ix (Y.aD K rfl) Y.ai (Y.gQ rfl T.oH) (Y.vS 0)))))),?_⟩
 have l0:(Str.ofString "0").length=1:=by decide +kernel
 have l1:(Str.ofString "10").length=2:=by decide +kernel
 have l2:(Str.ofString "11").length=2:=by decide +kernel
 have sz:2<=sizeLine:=by decide
 match w,hw,q with
 |none,_,q=>exists oI;exact q
 |some 0,_,q=>exists oI,(show ((0:Nat):Int)=0 from rfl),l0;exact⟨by decide,q⟩
 |some 1,_,q=>exists oI,(show ((1:Nat):Int)=1 from rfl),l1;exact⟨by decide,q⟩
 |some 2,_,q=>exists oI,(show ((2:Nat):Int)=2 from rfl),l2;exact⟨by decide,q⟩
 |some (k+3),hw,_=>exact absurd (hw _ rfl) (by lia)
noncomputable def lZ:dE:=fun args Q=>∃(ss:List Int) (ws:List (Option Nat)) (t1 t2:L2.T),args=[t1,t2]/\(t1=.tup (nI ss)\/t1=.lst (nI ss))/\(t2=.tup (nO ws)\/t2=.lst (nO ws))/\ss.length=ws.length/\ss.length<=60/\Ws ws/\Q (.fr (.lst (nI (aF ss ws)))) []
theorem zA{pre:List Int}{a:Int}:bw (nI (pre++[a])) (-1)=some (.int a):=sk (vj pre a)
abbrev k5z(P w K mg base):=ae P w K mg base aU 2 "row_starts" ["sizes","widths"] (spT K [false,false] lZ)
theorem ku(T:Txt K mg)(F:HasFn K mg "row_starts" dG ["sizes","widths"])(hown_part:ae P w K mg base aU 1 "own_part" ["width"] (spT K [false] Ge)):k5z P w K mg base:=by
 refine F.fG cZ [false,false] rfl (by decide) ?_;left;obtain⟨ss,ws,t1,t2,rfl,h1,h2,hlen,hle,hw,q⟩:=h;refine⟨_,(Y.af (Y.set (i:=2) cZ.nd rfl (by right) (Y.lst (Y.cons Y.int Y.nil)))
   (Y.af (Y.eU K9 rfl (Y.zip K rfl rfl T.Bd (Y.cons (Y.vS 0) (Y.cons (Y.vS 1) Y.nil))) (Y.iO (n:=2) K rfl rfl (Y.bD (Y.aG (i:=3) cZ.nd rfl (by right)) (Y.bD (Y.aG (i:=4) cZ.nd rfl (by right)) Y.fF))) (Y.aA (Y.expr (Y.bm K rfl PySem.F.slot_list_append PySem.F.type_list_append bT Y.cq (Y.vS 2) (Y.cons (Y.op (Y.au K rfl) Y.av (Y.op (Y.au K rfl) Y.av (Y.ix (Y.aD K rfl) Y.ai (Y.vS 2) (Y.neg Y.int)) (Y.vS 3)) (Y.fn K rfl hown_part (hr.mono (by decide)) rfl ax (Y.cons (Y.vS 4) Y.nil))) Y.nil)))))
   (Y.aA (Y.ret (Y.vS 2))))),?_⟩
 have e1:nJ t1=some (nI ss):=by rcases h1 with rfl|rfl<;>rfl
 have e2:nJ t2=some (nO ws):=by rcases h2 with rfl|rfl<;>rfl
 refine jY fun N hN=>?_;rfl';refine⟨by decide,?_⟩
 rw[hN];clear hN N;refine jY fun N hN=>?_;exists e1,e2;refine bz (fun rest μ=>∃(ss':List Int) (ws':List (Option Nat)) (pre:List Int) (a:Int) (s3 s4:Option L2.T),rest=pq (nI ss') (nO ws')/\ss'.length=ws'.length/\Ws ws'/\μ=[.tr t1,.tr t2,.bx (.lst (nI (pre++[a]))),sl s3,sl s4]/\pre++[a]++wZ ss' ws' a=aF ss ws/\pre.length+ss'.length<=60)
  ⟨ss,ws,[],0,none,none,rfl,hlen,hw,rfl,rfl,by simpa using hle⟩ ?_ ?_
 ·rintro μ ⟨ss',ws',pre,a,s3,s4,e,hl',_,rfl,ep,_⟩;have:ss'=[]:=by
   cases ss' with
   |nil=>rfl
   |cons=>cases ws' with
    |nil=>cases hl'
    |cons=>cases e
  subst this
  cases ws' with
  |cons=>cases hl'
  |nil =>
   show N _;rw[hN];clear hN N;rfl';rw[show pre++[a]=aF ss ws by rw[<- ep];simp[wZ]]
   exact q
 ·rintro t ts μ M ⟨ss',ws',pre,a,s3,s4,e,hl',hw',rfl,ep,hz⟩ k
  cases ss' with
  |nil=>cases e
  |cons z ss'=>cases ws' with
   |nil=>cases hl'
   |cons v ws' =>
    cases e;exists zA;refine⟨v,rfl,hw' v (by simp),?_⟩
    rfl';refine⟨by rw[bJ];simp;exact Kx (show pre.length+1<=61 by simp at hz;lia) (by decide),?_⟩
    refine k _ ⟨ss',ws',pre++[a],a+z+gy v,some (.int z),some (oI v),rfl,by simpa using hl',fun x hx=>hw' x (by simp[hx]),?_,?_,by simp at hz ⊢;lia⟩
    ·rw[jm (pre++[a]) [a+z+gy v]];rfl
    ·rw[<- ep];simp[wZ]
noncomputable def gq:Nat->Int
 |0=>8
 |1=>128
 |_=>32768
noncomputable def gA(d:Int)(k:Nat):Bool:=decide (-gq k<=d) && decide (d<gq k)
theorem uf(h:k<3):bw [L2.T.int 8,.int 128,.int 32768] (k:Int)=some (.int (gq k)):=by
 match k,h with
 |0,_=>rfl
 |1,_=>rfl
 |2,_=>rfl
theorem lK{ps:List Int}{x:Int}(h:ps[j]?=some x):bw (nI ps) (j:Int)=some (.int x):=sk (bB h)
noncomputable def se:dE:=fun args Q=>∃(ps:List Int) (gs:List (Option Nat)) (t2:L2.T) (i g:Nat) (x y:Int),args=[.lst (nI ps),t2,.int i]/\(t2=.tup (nO gs)\/t2=.lst (nO gs))/\gs[i]?=some (some g)/\ps[g]?=some x/\ps[i+1]?=some y/\Q (.tr (.int (x-y))) []
abbrev k2z(P w K mg base):=ae P w K mg base aU 1 "distance_of" ["starts","goals","row"] (spT K [false,false,false] se)
theorem jK(T:Txt K mg)(F:HasFn K mg "distance_of" df ["starts","goals","row"]):k2z P w K mg base:=by
 refine F.fG jH [false,false,false] rfl (by decide) ?_;left;obtain⟨ps,gs,t2,i,g,x,y,rfl,h2,hg,hx,hy,q⟩:=h;refine⟨_,(Y.aA (Y.ret (Y.op cY Y.cw (Y.ix (Y.aD K rfl) Y.ai (Y.vS 0) (Y.ix (Y.aD K rfl) Y.ai (Y.vS 1) (Y.vS 2))) (Y.ix (Y.aD K rfl) Y.ai (Y.vS 0) (Y.op (Y.au K rfl) Y.av (Y.vS 2) Y.int))))),?_⟩;have a1:=o_ hg;have a2:=lK hx;have a3:bw (nI ps) ((i:Int)+1)=some (.int y):=lK (j:=i+1) hy;rcases h2 with rfl|rfl
 ·exists a1,oI,a2,a3;exact q
 ·exists a1,oI,a2,a3;exact q
noncomputable def B8:dE:=fun args Q=>∃(ps:List Int) (gs ws:List (Option Nat)) (t2 t3:L2.T) (i g k:Nat) (x y:Int),args=[.lst (nI ps),t2,t3,.int i]/\(t2=.tup (nO gs)\/t2=.lst (nO gs))/\(t3=.tup (nO ws)\/t3=.lst (nO ws))/\gs[i]?=some (some g)/\ws[i]?=some (some k)/\k<3/\ps[g]?=some x/\ps[i+1]?=some y/\Q (.tr (.bl (gA (x-y) k))) []
abbrev k7z(P w K mg base):=ae P w K mg base aU 2 "fits" ["starts","goals","widths","row"] (spT K [false,false,false,false] B8)
theorem zZ(T:Txt K mg)(F:HasFn K mg "fits" mE ["starts","goals","widths","row"])(hdistance_of:k2z P w K mg base):k7z P w K mg base:=by
 refine F.fG rL [false,false,false,false] rfl (by decide) ?_;left;obtain⟨ps,gs,ws,t2,t3,i,g,k,x,y,rfl,h2,h3,hg,hw,hk,hx,hy,q⟩:=h;refine⟨_,(Y.af (Y.set (i:=4) rL.nd rfl (by right) (Y.ix (Y.aD K rfl) Y.ai (Y.gQ rfl T.yo) (Y.ix (Y.aD K rfl) Y.ai (Y.vS 2) (Y.vS 3))))
   (Y.aA (Y.ret (Y.chain Fg Y.gp oi Y.gp (Y.neg (Y.vS 4)) (Y.fn K rfl hdistance_of (hr.mono (by decide)) rfl ax (Y.cons (Y.vS 0) (Y.cons (Y.vS 1) (Y.cons (Y.vS 3) Y.nil)))) (Y.vS 4))))),?_⟩
 have a1:=o_ hw;have a2:=uf hk;have fin:∀ t2 t3:L2.T,(t2=.tup (nO gs)\/t2=.lst (nO gs))->∀ Q:R->List L2.T->Prop,Q (.tr (.int (x-y))) []->se [.lst (nI ps),t2,.int i] Q:=fun t2 t3 h Q hq=>⟨ps,gs,t2,i,g,x,y,rfl,h,hg,hx,hy,hq⟩;rcases h3 with rfl|rfl
 all_goals
  refine jY fun N hN=>?_;exists a1,oI,a2;rw[hN];clear hN N;rfl';refine fin t2 t2 h2 _ ?_;rfl';unfold gA at q;by_cases c:-gq k<=x-y
  ·rw[KY c] at q ⊢;rfl';exact q
  ·rw[Kv c] at q ⊢;rfl';exact q
theorem cX{x:L2.T}(h:xs[i]?=some x):(pairs xs).drop i=.tup [.int (i:Nat),x]::(pairs xs).drop (i+1):=by
 have hi:i<xs.length:=(Kf.mp h).1;have hl:(pairs xs).length=xs.length:=by simp[pairs]
 rw[L_ (by rw[hl];exact hi)]
 congr 1;simp only[pairs,Oo,NB,h,Ov]
theorem i5(xs:List L2.T):(pairs xs).drop xs.length=[]:=by
 apply MY;simp[pairs]
noncomputable def dv(ps:List Int)(gs ws:List (Option Nat))(j:Nat):Bool:=match gs[j]?,ws[j]? with
 |some (some g),some (some k)=>!gA (ps.getD g 0-ps.getD (j+1) 0) k
 |_,_=>false
noncomputable def dQ(ps:List Int)(gs ws:List (Option Nat))(n i:Nat):Option Nat:=(List.range' i (n-i)).find? (dv ps gs ws)
theorem nG(ps:List Int)(gs ws:List (Option Nat))(n:Nat):dQ ps gs ws n n=none:=by unfold dQ;rw[M8];rfl
theorem kN{ps:List Int}(h:i<n):dQ ps gs ws n i=if dv ps gs ws i=true then some i else dQ ps gs ws n (i+1):=by
 unfold dQ;obtain⟨m,hm⟩:∃ m,n-i=m+1:=⟨n-i-1,by lia⟩
 rw[hm,Lj,show n-(i+1)=m by lia,List.find?_cons]
 cases dv ps gs ws i<;>simp
structure GW (ss:List Int) (gs ws:List (Option Nat)):Prop where
 lg:gs.length=ss.length
 lw:ws.length=ss.length
 le:ss.length<=60
 w3:Ws ws
 go:∀(j g:Nat),gs[j]?=some (some g)->g<=ss.length/\∃ k,ws[j]?=some (some k)
theorem fI(h:ss.length=ws.length):(aF ss ws).length=ss.length+1:=by
 unfold aF;rw[Kj,rV _ _ _ h]
theorem Ws.at(h:Ws ws)(e:ws[j]?=some (some k)):k<3:=h _ (KW e) k rfl
theorem dn{ps:List Int}(h:j<ps.length):ps[j]?=some (ps.getD j 0):=by
 rw[JV h];simp[List.getD,JV h]
noncomputable def rN:Option Nat->L2.T
 |none=>.aC
 |some j=>.int j
noncomputable def mU:dE:=fun args Q=>∃(ss:List Int) (gs ws:List (Option Nat)) (t1 t2 t3:L2.T),args=[t1,t2,t3]/\(t1=.tup (nI ss)\/t1=.lst (nI ss))/\(t2=.tup (nO gs)\/t2=.lst (nO gs))/\(t3=.tup (nO ws)\/t3=.lst (nO ws))/\GW ss gs ws/\Q (.tr (rN (dQ (aF ss ws) gs ws ss.length 0))) []
abbrev k1z(P w K mg base):=ae P w K mg base aU 3 "first_too_narrow" ["sizes","goals","widths"] (spT K [false,false,false] mU)
theorem uV(T:Txt K mg)(F:HasFn K mg "first_too_narrow" bO ["sizes","goals","widths"])(hrow_starts:k5z P w K mg base)(hfits:k7z P w K mg base):
  k1z P w K mg base:=by
 refine F.fG aL [false,false,false] rfl (by decide) ?_;left;obtain⟨ss,gs,ws,t1,t2,t3,rfl,h1,h2,h3,gw,q⟩:=h;rcases h2 with rfl|rfl
 ·refine⟨_,(Y.af (Y.set (i:=3) aL.nd rfl (by right) (Y.fn K rfl hrow_starts (hr.mono (by decide)) rfl ax (Y.cons (Y.vS 0) (Y.cons (Y.vS 2) Y.nil))))
   (Y.af (Y.eU K9 rfl (Y.enum K rfl rfl T.fP (Y.cons (Y.vS 1) Y.nil)) (Y.iO (n:=2) K rfl rfl (Y.bD (Y.aG (i:=4) aL.nd rfl (by right)) (Y.bD (Y.aG (i:=5) aL.nd rfl (by right)) Y.fF))) (Y.aA (Y.eL (Y.tw (Y.tO (Y.aV ji Y.ja (Y.vS 5) Y.aC) (Y.lh (Y.mO (Y.iK K rfl (Y.fn K rfl hfits (hr.mono (by decide)) rfl ax (Y.cons (Y.vS 3) (Y.cons (Y.vS 1) (Y.cons (Y.vS 2) (Y.cons (Y.vS 4) Y.nil)))))))))) (Y.aA (Y.ret (Y.vS 4))) Y.bN)))
   (Y.aA (Y.ret Y.aC)))),?_⟩
  have hlp:=fI (ss:=ss) (ws:=ws) gw.lw.symm;refine jY fun N hN=>?_;rfl';refine⟨ss,ws,t1,t3,rfl,h1,h3,gw.lw.symm,gw.le,gw.w3,?_⟩;rfl';rw[hN];clear hN N;refine jY fun N hN=>?_;rfl';refine bz (fun rest μ=>∃(i:Nat) (s4 s5:Option L2.T),rest=(pairs (nO gs)).drop i/\i<=ss.length/\μ=[.tr t1,.tr (.tup (nO gs)),.tr t3,.bx (.lst (nI (aF ss ws))),sl s4,sl s5]/\dQ (aF ss ws) gs ws ss.length 0=dQ (aF ss ws) gs ws ss.length i)
   ⟨0,none,none,rfl,KN _,rfl,rfl⟩ ?_ ?_
  ·rintro μ ⟨i,s4,s5,e,hi,rfl,eb⟩;have hi2:i=ss.length:=by
    rcases KR i ss.length with z|z
    ·rw[cX (x:=oI (gs[i]'(by rw[gw.lg];exact z))) (by unfold nO;rw[Kg,JV (by rw[gw.lg];exact z)];rfl)] at e
     cases e
    ·lia
   subst hi2;rw[nG] at eb;show N _;rw[hN];clear hN N;rw[eb] at q;rfl';exact q
  ·rintro t ts μ M ⟨i,s4,s5,e,hi,rfl,eb⟩ k;have hi2:i<ss.length:=by
    rcases KR i ss.length with z|z
    ·exact z
    ·have:i=(nO gs).length:=by rw[fj,gw.lg];lia
     rw[this,i5] at e;cases e
   have eg:gs[i]?=some (gs[i]'(by rw[gw.lg];exact hi2)):=JV _
   generalize gs[i]'(by rw[gw.lg];exact hi2)=go at eg
   rw[cX (x:=oI go) (by unfold nO;rw[Kg,eg];rfl)] at e
   cases e;rw[kN hi2] at eb
   cases go with
   |none =>
    have nb:dv (aF ss ws) gs ws i=false:=by unfold dv;rw[eg]
    rw[nb] at eb;exists oI;exact k _ ⟨i+1,some _,some _,rfl,hi2,rfl,by simpa using eb⟩
   |some g =>
    obtain⟨hg,kk,ek⟩:=gw.go i g eg;have hk:=gw.w3.at ek;have bd:dv (aF ss ws) gs ws i=!gA ((aF ss ws).getD g 0-(aF ss ws).getD (i+1) 0) kk:=by unfold dv;rw[eg,ek]
    exists oI;refine⟨aF ss ws,gs,ws,.tup (nO gs),t3,i,g,kk,_,_,rfl,.inl rfl,h3,eg,ek,hk,dn (by rw[hlp];lia),dn (by rw[hlp];lia),?_⟩
    rfl';refine⟨.inr ⟨rfl,rfl⟩,?_⟩
    cases c:gA ((aF ss ws).getD g 0-(aF ss ws).getD (i+1) 0) kk with
    |true =>
     rw[c] at bd;rw[bd] at eb;rfl';exact k _ ⟨i+1,some _,some _,rfl,hi2,rfl,by simpa using eb⟩
    |false =>
     rw[c] at bd;rw[bd] at eb;rw[eb] at q;rfl';exact q
 ·refine⟨_,(Y.af (Y.set (i:=3) aL.nd rfl (by right) (Y.fn K rfl hrow_starts (hr.mono (by decide)) rfl ax (Y.cons (Y.vS 0) (Y.cons (Y.vS 2) Y.nil))))
   (Y.af (Y.eU K9 rfl (Y.BA K rfl rfl T.fP (Y.cons (Y.vS 1) Y.nil)) (Y.iO (n:=2) K rfl rfl (Y.bD (Y.aG (i:=4) aL.nd rfl (by right)) (Y.bD (Y.aG (i:=5) aL.nd rfl (by right)) Y.fF))) (Y.aA (Y.eL (Y.tw (Y.tO (Y.aV ji Y.ja (Y.vS 5) Y.aC) (Y.lh (Y.mO (Y.iK K rfl (Y.fn K rfl hfits (hr.mono (by decide)) rfl ax (Y.cons (Y.vS 3) (Y.cons (Y.vS 1) (Y.cons (Y.vS 2) (Y.cons (Y.vS 4) Y.nil)))))))))) (Y.aA (Y.ret (Y.vS 4))) Y.bN)))
   (Y.aA (Y.ret Y.aC)))),?_⟩
  have hlp:=fI (ss:=ss) (ws:=ws) gw.lw.symm;refine jY fun N hN=>?_;rfl';refine⟨ss,ws,t1,t3,rfl,h1,h3,gw.lw.symm,gw.le,gw.w3,?_⟩;rfl';rw[hN];clear hN N;refine jY fun N hN=>?_;rfl';refine bz (fun rest μ=>∃(i:Nat) (s4 s5:Option L2.T),rest=(pairs (nO gs)).drop i/\i<=ss.length/\μ=[.tr t1,.tr (.lst (nO gs)),.tr t3,.bx (.lst (nI (aF ss ws))),sl s4,sl s5]/\dQ (aF ss ws) gs ws ss.length 0=dQ (aF ss ws) gs ws ss.length i)
   ⟨0,none,none,rfl,KN _,rfl,rfl⟩ ?_ ?_
  ·rintro μ ⟨i,s4,s5,e,hi,rfl,eb⟩;have hi2:i=ss.length:=by
    rcases KR i ss.length with z|z
    ·rw[cX (x:=oI (gs[i]'(by rw[gw.lg];exact z))) (by unfold nO;rw[Kg,JV (by rw[gw.lg];exact z)];rfl)] at e
     cases e
    ·lia
   subst hi2;rw[nG] at eb;show N _;rw[hN];clear hN N;rw[eb] at q;rfl';exact q
  ·rintro t ts μ M ⟨i,s4,s5,e,hi,rfl,eb⟩ k;have hi2:i<ss.length:=by
    rcases KR i ss.length with z|z
    ·exact z
    ·have:i=(nO gs).length:=by rw[fj,gw.lg];lia
     rw[this,i5] at e;cases e
   have eg:gs[i]?=some (gs[i]'(by rw[gw.lg];exact hi2)):=JV _
   generalize gs[i]'(by rw[gw.lg];exact hi2)=go at eg
   rw[cX (x:=oI go) (by unfold nO;rw[Kg,eg];rfl)] at e
   cases e;rw[kN hi2] at eb
   cases go with
   |none =>
    have nb:dv (aF ss ws) gs ws i=false:=by unfold dv;rw[eg]
    rw[nb] at eb;exists oI;exact k _ ⟨i+1,some _,some _,rfl,hi2,rfl,by simpa using eb⟩
   |some g =>
    obtain⟨hg,kk,ek⟩:=gw.go i g eg;have hk:=gw.w3.at ek;have bd:dv (aF ss ws) gs ws i=!gA ((aF ss ws).getD g 0-(aF ss ws).getD (i+1) 0) kk:=by unfold dv;rw[eg,ek]
    exists oI;refine⟨aF ss ws,gs,ws,.lst (nO gs),t3,i,g,kk,_,_,rfl,.inr rfl,h3,eg,ek,hk,dn (by rw[hlp];lia),dn (by rw[hlp];lia),?_⟩
    rfl';refine⟨.inr ⟨rfl,rfl⟩,?_⟩
    cases c:gA ((aF ss ws).getD g 0-(aF ss ws).getD (i+1) 0) kk with
    |true =>
     rw[c] at bd;rw[bd] at eb;rfl';exact k _ ⟨i+1,some _,some _,rfl,hi2,rfl,by simpa using eb⟩
    |false =>
     rw[c] at bd;rw[bd] at eb;rw[eb] at q;rfl';exact q
noncomputable def goodW(ss:List Int)(gs ws:List (Option Nat)):Bool:=(dQ (aF ss ws) gs ws ss.length 0).isNone
noncomputable def kT(gs:List (Option Nat)):List (Option Nat):=gs.map (Option.map fun _=>0)
theorem qy(h1:gs.length=ss.length)(h2:ss.length<=60)(hg:∀(j g:Nat),gs[j]?=some (some g)->g<=ss.length):GW ss gs (kT gs):=by
 refine⟨h1,by unfold kT;rw[JY];exact h1,h2,fun w hw k e=>?_,fun j g e=>⟨hg j g e,0,by unfold kT;rw[Kg,e];rfl⟩⟩
 unfold kT at hw;obtain⟨x,_,rfl⟩:=KA.mp hw
 cases x with
 |none=>cases e
 |some y=>cases e;show 0<3;decide
theorem GW.set(h:GW ss gs ws)(hk:k<2)(e:ws[j]?=some (some k)):GW ss gs (ws.set j (some (k+1))):=by
 refine⟨h.lg,by rw[K_];exact h.lw,h.le,fun w hw m em=>?_,fun i g eg=>⟨(h.go i g eg).1,?_⟩⟩
 ·rcases Mb hw with z|z
  ·exact h.w3 w z m em
  ·rw[z] at em;cases em;lia
 ·obtain⟨m,em⟩:=(h.go i g eg).2;by_cases z:j=i
  ·subst z;exact⟨k+1,by rw[KH (Kf.mp e).1]⟩
  ·exact⟨m,by rw[KU z];exact em⟩
theorem Dh:(nO ws).set j (.int ((k:Int)+1))=nO (ws.set j (some (k+1))):=by
 unfold nO;rw[Ot];rfl
noncomputable def Gm:dE:=fun args Q=>∃(gs:List (Option Nat)) (t:L2.T),args=[t]/\(t=.tup (nO gs)\/t=.lst (nO gs))/\gs.length<=60/\Q (.fr (.lst (nO (kT gs)))) []
theorem nc(T:Txt K mg)(F:HasFn K mg "narrowest" dy ["goals"]):ae P w K mg base aU 1 "narrowest" ["goals"] (spT K [false] Gm):=by
 refine F.fG m_ [false] rfl (by decide) ?_;left;obtain⟨gs,t2,rfl,h2,hg,q⟩:=h;have it2:∀ μ,yF (R.tr t2) μ=some (nO gs,none):=fun μ=>by rcases h2 with rfl|rfl<;>rfl
 refine⟨_,(Y.aA (Y.ret (Y.iD (osc:=aa dy) (ON:=["goals"]) (own:=["goal"]) (N:=["goal","goals"]) ⟨rfl,by decide +kernel,rfl,by decide +kernel,by decide +kernel,by decide +kernel,by decide +kernel,by decide +kernel⟩ rfl rfl rfl rfl (Y.anyS K rfl (Y.vS 0)) (fun _ _ _ _=>(Z.aG (i:=0) (show List.Nodup (["goal","goals"]:List Str) by decide +kernel) rfl (by right))) (fun _ _ _ _=>Y.rF) (fun _ _ _ _=>(Y.CW (Y.aV fw Y.fq (Y.vS 0) Y.aC) Y.aC Y.int))))),?_⟩
 exists it2;refine bU (fun rest acc μ=>∃ gs1 gs2:List (Option Nat),gs=gs1++gs2/\rest=nO gs2/\acc=nO (kT gs1)/\μ=[.tr t2]) ⟨[],gs,rfl,rfl,rfl,rfl⟩ ?_ ?_
 ·rintro acc μ ⟨gs1,gs2,e,e2,rfl,rfl⟩
  cases gs2 with
  |cons=>cases e2
  |nil =>
   rw[Kw] at e;subst e;refine⟨trivial,?_⟩;rfl';exact q
 ·rintro t r acc μ N ⟨gs1,gs2,e,e2,rfl,rfl⟩ k
  cases gs2 with
  |nil=>cases e2
  |cons g gs2 =>
   cases e2;have hz:(nO (kT gs1)).length<sizeLine:=by rw[fj];unfold kT;rw[JY];exact Kx (show gs1.length<=60 by rw[e] at hg;simp at hg;lia) (by decide)
   refine⟨trivial,hz,?_⟩;have st:∀ x,x=Option.map (fun _=>0) g->N (nO (kT gs1)++[oI x]) [.tr t2]:=fun x hx=>k _ _ ⟨gs1++[g],gs2,by simp[e],rfl,by simp[nO,kT,hx],rfl⟩
   cases g with
   |none=>exists oI;exact st none rfl
   |some g'=>exists oI;exact st (some 0) rfl
noncomputable def wt:Option Nat->Nat
 |none=>0
 |some k=>2-k
noncomputable def lefW(ws:List (Option Nat)):Nat:=(ws.map wt).sum
theorem jO:∀{ws:List (Option Nat)} {j k:Nat},ws[j]?=some (some k)->k<2->lefW (ws.set j (some (k+1)))+1=lefW ws
 |[],_,_,e,_=>by simp at e
 |w::ws,0,k,e,h=>by
  have e':w=some k:=by simpa using e
  subst e';show 2-(k+1)+lefW ws+1=2-k+lefW ws;lia
 |w::ws,j+1,k,e,h=>by
  have:=jO (ws:=ws) (j:=j) (k:=k) (by simpa using e) h
  show wt w+lefW (ws.set j (some (k+1)))+1=wt w+lefW ws;lia
theorem q_:∀ ws:List (Option Nat),lefW ws<=2*ws.length
 |[]=>Kc _
 |w::ws=>by
  have:=q_ ws;show wt w+lefW ws<=2*(ws.length+1);have:wt w<=2:=by cases w with|none=>exact KN _|some k=>exact OU _ _
  lia
noncomputable def nL(ss:List Int)(gs:List (Option Nat)):Nat->List (Option Nat)->List Int->Option (List (Option Nat)×List Int)
 |0,_,_=>none
 |f+1,ws,ps=>match dQ (aF ss ws) gs ws ss.length 0 with
  |none=>some (ws,ps)
  |some j=>match ws[j]? with
   |some (some k)=>if k=2 then none else nL ss gs f (ws.set j (some (k+1))) (ps++[(j:Int)])
   |_=>none
noncomputable def iU(ss:List Int)(gs:List (Option Nat)):Option (List (Option Nat)×List Int):=nL ss gs (lefW (kT gs)+1) (kT gs) []
theorem iy{ps:List Int}(h:dQ ps gs ws n 0=some j):dv ps gs ws j=true/\j<n:=by
 unfold dQ at h;refine⟨List.find?_some h,?_⟩;have:=List.mem_of_find?_eq_some h;simp at this;lia
theorem jr(gw:GW ss gs ws)(h:dQ (aF ss ws) gs ws ss.length 0=some j):∃ g k,gs[j]?=some (some g)/\ws[j]?=some (some k)/\k<3:=by
 obtain⟨hb,hj⟩:=iy h;unfold dv at hb
 split at hb
 ·rename_i g k eg ek;exact⟨g,k,eg,ek,gw.w3.at ek⟩
 ·cases hb
noncomputable def om(mg:Str->Option Value):yG:=fun args Q Et=>∃(ss:List Int) (gs:List (Option Nat)) (t1 t2:L2.T),args=[t1,t2]/\(t1=.tup (nI ss)\/t1=.lst (nI ss))/\(t2=.tup (nO gs)\/t2=.lst (nO gs))/\gs.length=ss.length/\ss.length<=60/\(∀(j g:Nat),gs[j]?=some (some g)->g<=ss.length) /\
 (∀ ws ps,iU ss gs=some (ws,ps)->GW ss gs ws->goodW ss gs ws=true->Q (.tr (.tup [.tup (nO ws),.tup (nI ps)])) [])/\(iU ss gs=none->∀ C,mg "NoReach"=some (.ref C)->Et (.exc (.ref C) none))
abbrev k9z(P w K mg base):=ae P w K mg base (uN P w) 4 "raised_till_good" ["sizes","goals"] (zN K [false,false] (om mg))
theorem qN(T:Txt K mg)(F:HasFn K mg "raised_till_good" bP ["sizes","goals"])(hnarrowest:ae P w K mg base aU 1 "narrowest" ["goals"] (spT K [false] Gm))
  (hfirst_too_narrow:k1z P w K mg base):k9z P w K mg base:=by
 obtain⟨C_NoReach,hC_NoReach,kC_NoReach⟩:=T.u9;refine F.Jv bo [false,false] rfl rfl (by decide) (fun args Qt Et hl h f cdv A outer s H E hr=>?_)
 have hu:=aS hr;obtain⟨ss,gs,t1,t2,rfl,h1,h2,hgl,hle,hgo,q,qx⟩:=h;refine⟨_,(Y.dX (Y.xP (Y.set (i:=2) bo.nd rfl (by right) (Y.fn K rfl hnarrowest (hr.mono (by decide)) rfl ax (Y.cons (Y.vS 1) Y.nil))))
   (Y.dX (Y.xP (Y.set (i:=3) bo.nd rfl (by right) (Y.lst Y.nil)))
   (Y.dX (Y.xP (Y.set (i:=4) bo.nd rfl (by right) (Y.fn K rfl hfirst_too_narrow (hr.mono (by decide)) rfl ax (Y.cons (Y.vS 0) (Y.cons (Y.vS 1) (Y.cons (Y.vS 2) Y.nil))))))
   (Y.dX (Y.Ak PassesOwn.leaving (Y.aV ji Y.ja (Y.vS 4) Y.aC) (Y.dX (Y.Fe (Y.aV (Y.b6 K rfl (Ks hu)) Y.cy (Y.ix (Y.aD K rfl) Y.ai (Y.vS 2) (Y.vS 4)) (Y.gQ rfl T.xi)) (Y.kX (Y.wc rfl hC_NoReach kC_NoReach rfl rfl (Y.cons (Y.Gi (Y.CM (Y.IA (Y.vS 4) (Y.CM Y.E5)))) Y.nil))) Y.AN)
   (Y.dX (Y.xP (Y.asg (Y.op (Y.au K rfl) Y.av (Y.ix (Y.aD K rfl) Y.ai (Y.vS 2) (Y.vS 4)) Y.int) (Y.oZ (Y.vS 2) (Y.vS 4))))
   (Y.dX (Y.xP (Y.expr (Y.bm K rfl PySem.F.slot_list_append PySem.F.type_list_append bT Y.cq (Y.vS 3) (Y.cons (Y.vS 4) Y.nil))))
   (Y.kX (Y.xP (Y.set (i:=4) bo.nd rfl (by right) (Y.fn K rfl hfirst_too_narrow (hr.mono (by decide)) rfl ax (Y.cons (Y.vS 0) (Y.cons (Y.vS 1) (Y.cons (Y.vS 2) Y.nil)))))))))))
   (Y.kX (Y.xP (Y.ret (Y.tup (Y.cons (Y.ct (Y.bM K rfl) Y.bZ rfl T.cu (by decide +kernel) (Y.cons (Y.vS 2) Y.nil)) (Y.cons (Y.ct (Y.bM K rfl) Y.bZ rfl T.cu (by decide +kernel) (Y.cons (Y.vS 3) Y.nil)) Y.nil)))))))))),?_⟩
 have gw0:=qy hgl hle hgo;refine ka fun N hN=>?_;rfl';refine⟨gs,t2,rfl,h2,by lia,?_⟩
 rfl';rw[hN];clear hN N;refine ka fun N hN=>?_;rfl';rw[hN];clear hN N;refine ka fun N hN=>?_;rfl';refine⟨ss,gs,kT gs,_,_,_,rfl,h1,h2,.inr rfl,gw0,?_⟩;rfl';have flr:∀ o:Option Nat,gv (R.tr (rN o))=true:=fun o=>by cases o<;>rfl
 refine⟨.inr ⟨flr _,rfl⟩,?_⟩;rw[hN];clear hN N;refine ka fun N hN=>?_;refine⟨fun m μ=>∃(ws:List (Option Nat)) (ps:List Int),GW ss gs ws/\ps.length+lefW ws<=1000/\m=lefW ws/\nL ss gs (lefW ws+1) ws ps=iU ss gs/\μ=[.tr t1,.tr t2,.bx (.lst (nO ws)),.bx (.lst (nI ps)),.tr (rN (dQ (aF ss ws) gs ws ss.length 0))],
  ⟨_,kT gs,[],gw0,?_,rfl,rfl,rfl⟩,?_⟩
 ·have:=q_ (kT gs);have:=gw0.lw
  simp;lia
 rintro m μ ⟨ws,ps,gw,hps,rfl,hrun,rfl⟩;have hrun':(match dQ (aF ss ws) gs ws ss.length 0 with
  |none=>some (ws,ps)
  |some j=>match ws[j]? with
   |some (some k)=>if k=2 then none else nL ss gs (lefW ws) (ws.set j (some (k+1))) (ps++[(j:Int)])
   |_=>none)=iU ss gs:=hrun
 cases c:dQ (aF ss ws) gs ws ss.length 0 with
 |none =>
  rw[c] at hrun';exists rN;rw[hN];clear hN N;rfl';refine⟨by decide,q ws ps hrun'.symm gw ?_⟩
  unfold goodW;rw[c];rfl
 |some j =>
  rw[c] at hrun';obtain⟨g,k,eg,ek,k3⟩:=jr gw c;have ak:=o_ ek;simp only[ek] at hrun';exists rN;refine ka fun M hM=>?_;have ht2:=h2;by_cases h2:k=2
  ·subst h2;exists ak,oI,(show ((2:Nat):Int)=2 from rfl),decide_true;have hj60:j<60:=by have:=(iy c).2;lia
   refine⟨?_,fun z hz=>qx ?_ _ hC_NoReach⟩
   ·rw[LQ];exact Kz (show j<2^6 by lia) (Ma (by decide) (by decide))
   ·rw[<- hrun'];simp
  ·have h2':¬ ((k:Int)=2):=by lia
   simp only[JZ h2] at hrun';exists ak,oI,JZ h2';rw[hM];clear hM M;have xk:ie (nO ws).length (j:Int)=some j:=by
    have hj:=(Kf.mp ek).1;unfold ie;rw[fj,Ke (by lia),Ke (by lia)];simp
   refine ka fun M hM=>?_;exists ak,oI,xk,Dh;rw[hM];clear hM M;refine ka fun M hM=>?_;rfl';have hleft:=jO ek (by lia)
   refine⟨Kx (show _<=1000 by rw[bJ];lia) (by decide),?_⟩
   rw[hM];clear hM M;have gw2:=gw.set (by lia) ek
   rfl';refine⟨ss,gs,ws.set j (some (k+1)),_,_,_,rfl,h1,ht2,.inr rfl,gw2,?_⟩;rfl';refine⟨.inr ⟨flr _,rfl⟩,_,?_,ws.set j (some (k+1)),ps++[(j:Int)],gw2,?_,rfl,?_,?_⟩
   ·lia
   ·rw[JX,KL];lia
   ·rw[hleft];exact hrun'
   ·rw[jm];rfl
noncomputable def rZ(mg:Str->Option Value):yG:=fun args Q Et=>∃(ss:List Int) (gs:List (Option Nat)) (t1 t2:L2.T),args=[t1,t2]/\(t1=.tup (nI ss)\/t1=.lst (nI ss))/\(t2=.tup (nO gs)\/t2=.lst (nO gs))/\gs.length=ss.length/\ss.length<=60/\(∀(j g:Nat),gs[j]?=some (some g)->g<=ss.length) /\
 (∀ ws ps,iU ss gs=some (ws,ps)->GW ss gs ws->goodW ss gs ws=true->Q (.tr (.tup (nO ws))) [])/\(iU ss gs=none->∀ C,mg "NoReach"=some (.ref C)->Et (.exc (.ref C) none))
theorem uz(T:Txt K mg)(F:HasFn K mg "least_widths" cL ["sizes","goals"])(hraised_till_good:k9z P w K mg base):ae P w K mg base (uN P w) 5 "least_widths" ["sizes","goals"] (zN K [false,false] (rZ mg)):=by
 refine F.Jv iR [false,false] rfl rfl (by decide) (fun args Qt Et hl h f cdv A outer s H E hr=>?_)
 have hu:=aS hr;obtain⟨ss,gs,t1,t2,rfl,h1,h2,hgl,hle,hgo,q,qx⟩:=h;refine⟨_,(Y.kX (Y.HQ (Y.JD (Y.aD K rfl) Y.ai (Y.JK K rfl hraised_till_good (hr.mono (by decide)) rfl rfl (Y.cons (Y.vS 0) (Y.cons (Y.vS 1) Y.nil))) Y.int))),?_⟩
 rfl';refine⟨ss,gs,t1,t2,rfl,h1,h2,hgl,hle,hgo,fun ws ps h1 h2 h3=>?_,qx⟩;rfl';exact q ws ps h1 h2 h3
noncomputable def yd:dE:=fun args Q=>∃(ss:List Int) (gs ws:List (Option Nat)),args=[.tup (nI ss),.tup (nO gs),.tup (nO ws)]/\GW ss gs ws/\Q (.tr (.bl (goodW ss gs ws))) []
abbrev k12z(P w K mg base):=ae P w K mg base aU 4 "are_good" ["sizes","goals","widths"] (spT K [false,false,false] yd)
theorem vQ(T:Txt K mg)(F:HasFn K mg "are_good" f7 ["sizes","goals","widths"])(hfirst_too_narrow:k1z P w K mg base):k12z P w K mg base:=by
 refine F.fG oK [false,false,false] rfl (by decide) ?_;left;obtain⟨ss,gs,ws,rfl,gw,q⟩:=h;refine⟨_,(Y.aA (Y.ret (Y.cmp fw Y.fq (Y.fn K rfl hfirst_too_narrow (hr.mono (by decide)) rfl ax (Y.cons (Y.vS 0) (Y.cons (Y.vS 1) (Y.cons (Y.vS 2) Y.nil)))) Y.aC))),?_⟩
 rfl';refine⟨ss,gs,ws,_,_,_,rfl,.inl rfl,.inl rfl,.inl rfl,gw,?_⟩;unfold goodW at q
 cases c:dQ (aF ss ws) gs ws ss.length 0 with
 |none =>
  rw[c] at q;exists rN;exact q
 |some j =>
  rw[c] at q;exists rN;exact q
noncomputable def dg(n:Int):Nat:=48+(n % 2).toNat
noncomputable def bu:Int->Nat->List Nat->List Nat
 |_,0,acc=>acc
 |n,k+1,acc=>bu (n / 2) k (dg n::acc)
theorem bK:∀(k:Nat) (n:Int) (acc:List Nat),(bu n k acc).length=k+acc.length
 |0,_,_=>by rw[bu,LO]
 |k+1,n,acc=>by rw[bu,bK k,Kj];lia
theorem fe:∀(k:Nat) (n:Int) (acc:List Nat),∃ d,bu n (k+1) acc=d::bu n k acc
 |0,n,acc=>⟨dg n,rfl⟩
 |k+1,n,acc=>by
  obtain⟨d,e⟩:=fe k (n / 2) (dg n::acc);exact⟨d,e⟩
theorem y9(n:Int):dg n=48\/dg n=49:=by
 unfold dg;have:n % 2=0\/n % 2=1:=by lia
 rcases this with e|e<;>rw[e]
 ·exact .inl rfl
 ·exact .inr rfl
theorem cD:∀(k:Nat) (n:Int) (acc:List Nat),(∀ c∈acc,c=48\/c=49)->∀ c∈bu n k acc,c=48\/c=49
 |0,_,_,h=>h
 |k+1,n,acc,h=>cD k (n / 2) (dg n::acc) fun c hc=>by
  rcases Ki.mp hc with rfl|hc
  ·exact y9 n
  ·exact h c hc
theorem EH(n:Int):bw (Str.ofString "01").cps.toList (n % 2)=some (dg n):=by
 have:n % 2=0\/n % 2=1:=by lia
 unfold dg;rcases this with e|e<;>rw[e]
 ·exact (by decide +kernel)
 ·exact (by decide +kernel)
theorem Ek(n:Int):Str.ofString (toString (n % 2))=wd [dg n]:=by
 have:n % 2=0\/n % 2=1:=by lia
 unfold dg;rcases this with e|e<;>rw[e]
 ·exact (by decide +kernel)
 ·exact (by decide +kernel)
theorem gD(a b:List Nat):wd a++wd b=wd (a++b):=by
 apply AW;show (a.toArray++b.toArray).toList=_;simp
theorem ig:Str.ofString ""=wd []:=by decide +kernel
noncomputable def xX:dE:=fun args Q=>∃(n k:Int),args=[.int n,.int k]/\-1<=k/\k<=16/\Q (.tr (.str (wd (bu n k.toNat [])))) []
noncomputable def yb:dE:=fun args Q=>∃(n:Int) (k:Nat),args=[.int n,.int (k:Int)]/\k<=40/\Q (.tr (.str (wd (bu n k [])))) []
abbrev k4z(P w K mg base):=ae P w K mg base aU 1 "last_figures" ["number","many"] (spT K [false,false] xX)
theorem zj(T:Txt K mg)(F:HasFn K mg "last_figures" cG ["number","many"]):k4z P w K mg base:=by
 refine F.fG b9 [false,false] rfl (by decide) ?_;left;obtain⟨n,k,rfl,hk0,hk,q⟩:=h;refine⟨_,(Y.af (Y.set (i:=2) b9.nd rfl (by right) Y.str)
   (Y.af (Y.set (i:=3) b9.nd rfl (by right) (Y.vS 0))
   (Y.af (Y.eU K9 rfl (Y.jk rfl T.dm (Y.cons (Y.vS 1) Y.nil)) (Y.aG (i:=4) b9.nd rfl (by right)) (Y.af (Y.set (i:=2) b9.nd rfl (by right) (Y.op (Y.au K rfl) Y.av (Y.ct tH Y.CJ rfl T.wN (by decide +kernel) (Y.cons (Y.op eI Y.cA (Y.vS 3) Y.int) Y.nil)) (Y.vS 2)))
   (Y.aA (Y.set (i:=3) b9.nd rfl (by right) (Y.op Y.fS Y.cA (Y.vS 3) Y.int)))))
   (Y.aA (Y.ret (Y.vS 2)))))),?_⟩
 refine aq fun N hN=>?_;rfl';symm;rfl';symm;rfl';refine⟨by lia,by lia,?_⟩
 refine bz (fun rest μ=>∃(m:Int) (acc:List Nat) (o:Option L2.T),bu m rest.length acc=bu n k.toNat []/\rest.length+acc.length=k.toNat/\μ=[.tr (.int n),.tr (.int k),.tr (.str (wd acc)),.tr (.int m),sl o]) ⟨n,[],none,by rw[JY,Ky],by rw[JY,Ky];rfl,by rw[ig];rfl⟩ ?_ ?_
 ·rintro μ ⟨m,acc,o,e,_,rfl⟩;show N _;ac_rfl;rfl';rw[<- e] at q;exact q
 ·rintro t ts μ M ⟨m,acc,o,e,hl,rfl⟩ kk;rw[Kj] at e hl;rfl';refine aq fun M' hM=>?_;rfl';have h2:(m % 2).natAbs.log2<1920:=by
   have:m % 2=0\/m % 2=1:=by lia
   rcases this with e|e<;>rw[e]<;>decide
  rw[Ek,bE,bE,gD];refine⟨by decide,h2,Kq (show _<=20 by simp;lia) (by decide),?_⟩
  refine hM _ ?_;clear hM M';rfl';exact⟨⟨by decide,by decide⟩,kk _ ⟨m / 2,dg m::acc,some _,e,by rw[Kj];lia,rfl⟩⟩
noncomputable def aQ(n:Nat):Nat:=Builtin.Int.intBits (n:Int)
noncomputable def cR(n:Nat):List Nat:=bu (n:Int) (aQ n) []
theorem je{n:Nat}(h:n<65536):aQ n<17:=by
 unfold aQ Builtin.Int.intBits;split
 ·decide
 ·rename_i hz;have h0:n≠0:=fun z=>hz (by rw[z];rfl)
  show (n:Int).natAbs.log2+1<17;rw[LQ];have:=(OC (n:=n) (k:=16) h0).mpr (by lia)
  lia
noncomputable def Ec:dE:=fun args Q=>∃ n:Nat,args=[.int (n:Int)]/\n<65536/\Q (.tr (.str (wd (cR n).tail))) []
abbrev k23z(P w K mg base):=ae P w K mg base aU 2 "figures_behind_first" ["number"] (spT K [false] Ec)
theorem Cj(T:Txt K mg)(F:HasFn K mg "figures_behind_first" bq ["number"])(hlast_figures:k4z P w K mg base):k23z P w K mg base:=by
 refine F.fG eV [false] rfl (by decide) ?_;left;obtain⟨n,rfl,hn,q⟩:=h;refine⟨_,(Y.aA (Y.ret (Y.fn K rfl hlast_figures (hr.mono (by decide)) rfl ax (Y.cons (Y.vS 0) (Y.cons (Y.op cY Y.cw (Y.bits (Y.vS 0)) Y.int) Y.nil))))),?_⟩
 rfl';have hb:=je hn;unfold aQ at hb;refine⟨(n:Int),_,rfl,by lia,by lia,?_⟩
 have e:bu (n:Int) ((Builtin.Int.intBits (n:Int):Int)-1).toNat []=(cR n).tail:=by
  unfold cR aQ
  cases c:Builtin.Int.intBits (n:Int) with
  |zero=>rfl
  |succ k =>
   obtain⟨d,e⟩:=fe k (n:Int) [];rw[e,List.tail_cons,show ((k+1:Nat):Int)-1=(k:Int) by lia,K6]
 rw[e];exact q
abbrev k20z(P w K mg base):=ae P w K mg base aU 1 "_law_bits" ["number","width"] (spT K [false,false] yb)
theorem yA(T:Txt K mg)(F:HasFn K mg "_law_bits" ef ["number","width"]):k20z P w K mg base:=by
 refine F.fG cQ [false,false] rfl (by decide) ?_;left;obtain⟨n,k,rfl,hk,q⟩:=h;refine⟨_,(Y.af (Y.set (i:=2) cQ.nd rfl (by right) Y.str)
   (Y.af (Y.eU K9 rfl (Y.jk rfl T.dm (Y.cons (Y.vS 1) Y.nil)) (Y.aG (i:=3) cQ.nd rfl (by right)) (Y.af (Y.set (i:=2) cQ.nd rfl (by right) (Y.op (Y.au K rfl) Y.av (Y.ix (Y.aD K rfl) Y.ai Y.str (Y.op eI Y.cA (Y.vS 0) Y.int)) (Y.vS 2)))
   (Y.aA (Y.set (i:=0) cQ.nd rfl (by right) (Y.op Y.fS Y.cA (Y.vS 0) Y.int)))))
   (Y.aA (Y.ret (Y.vS 2))))),?_⟩
 refine aq fun N hN=>?_;rfl';symm;rfl';refine⟨by lia,by lia,?_⟩
 rw[K6];refine bz (fun rest μ=>∃(m:Int) (acc:List Nat) (o:Option L2.T),bu m rest.length acc=bu n k []/\rest.length+acc.length=k/\μ=[.tr (.int m),.tr (.int (k:Int)),.tr (.str (wd acc)),sl o]) ⟨n,[],none,by rw[JY,Ky],by rw[JY,Ky];rfl,by rw[ig];rfl⟩ ?_ ?_
 ·rintro μ ⟨m,acc,o,e,_,rfl⟩;show N _;ac_rfl;rfl';rw[<- e] at q;exact q
 ·rintro t ts μ M ⟨m,acc,o,e,hl,rfl⟩ kk;rw[Kj] at e hl;rfl';refine aq fun M' hM=>?_;exists EH;rw[show (⟨#[dg m]⟩:Str)=wd [dg m] from rfl,bE,bE,gD];refine⟨by decide,by decide +kernel,Kq (show _<=50 by simp;lia) (by decide),?_⟩
  refine hM _ ?_;clear hM M';rfl';exact⟨⟨by decide,by decide⟩,kk _ ⟨m / 2,dg m::acc,some _,e,by rw[Kj];lia,rfl⟩⟩
noncomputable def cz:Nat->List Nat
 |0=>[48]
 |1=>[49,48]
 |_=>[49,49]
noncomputable def fJ:Nat->Nat
 |0=>4
 |1=>8
 |_=>16
noncomputable def cP(k:Nat)(d:Int):List Nat:=cz k++bu d (fJ k) []
noncomputable def Be:dE:=fun args Q=>∃(k:Nat) (d:Int),args=[.int (k:Int),.int d]/\k<3/\Q (.tr (.str (wd (cP k d)))) []
abbrev k17z(P w K mg base):=ae P w K mg base aU 2 "jump_written" ["width","distance"] (spT K [false,false] Be)
theorem yN(T:Txt K mg)(F:HasFn K mg "jump_written" cN ["width","distance"])(hlast_figures:k4z P w K mg base):k17z P w K mg base:=by
 refine F.fG iT [false,false] rfl (by decide) ?_;left;obtain⟨k,d,rfl,hk,q⟩:=h;refine⟨_,(Y.aA (Y.ret (Y.op (Y.au K rfl) Y.av (Y.ix (Y.aD K rfl) Y.ai (Y.gQ rfl T.sj) (Y.vS 0)) (Y.fn K rfl hlast_figures (hr.mono (by decide)) rfl ax (Y.cons (Y.vS 1) (Y.cons (Y.ix (Y.aD K rfl) Y.ai (Y.gQ rfl T.oH) (Y.vS 0)) Y.nil)))))),?_⟩
 have a1:bw [L2.T.str (Str.ofString "0"),L2.T.str (Str.ofString "10"),L2.T.str (Str.ofString "11")] (k:Int)=some (.str (wd (cz k))):=by
  rcases (show k=0\/k=1\/k=2 by lia) with rfl|rfl|rfl
  ·rw[show wd (cz 0)=Str.ofString "0" by decide +kernel];rfl
  ·rw[show wd (cz 1)=Str.ofString "10" by decide +kernel];rfl
  ·rw[show wd (cz 2)=Str.ofString "11" by decide +kernel];rfl
 have a2:bw [L2.T.int 4,L2.T.int 8,L2.T.int 16] (k:Int)=some (.int (fJ k:Nat)):=by
  rcases (show k=0\/k=1\/k=2 by lia) with rfl|rfl|rfl<;>rfl
 have s16:fJ k<=16:=by
  rcases (show k=0\/k=1\/k=2 by lia) with rfl|rfl|rfl<;>decide
 have h2:(cz k).length<=2:=by
  rcases (show k=0\/k=1\/k=2 by lia) with rfl|rfl|rfl<;>decide
 exists a1,a2;refine⟨d,_,rfl,by lia,by lia,?_⟩
 rw[K6];rfl';rw[bE,bE,gD,bK];exact⟨Kq (show _<=20 by simp;lia) (by decide),q⟩
theorem lC(h:0<n):Builtin.Int.intBits (n:Int)=Builtin.Int.intBits ((n / 2:Nat):Int)+1:=by
 unfold Builtin.Int.intBits;rw[JZ (by simp;lia)]
 show (n:Int).natAbs.log2+1=_;rw[LQ,Nat.log2_def];split
 ·rw[JZ (by simp;lia),LQ]
 ·have e:n / 2=0:=by lia
  rw[e];rfl
theorem ye{α β:Type}{f:α->β}{o m:List β}(h:o.Perm m):∀ l:List α,l.map f=m->∃ k:List α,k.map f=o/\k.Perm l:=by
 induction h with
 |nil =>
  intro l e
  cases l with
  |nil=>exact⟨[],rfl,.nil⟩
  |cons=>cases e
 |cons x p ih =>
  intro l e
  cases l with
  |nil=>cases e
  |cons a l =>
   obtain⟨rfl,e2⟩:=List.cons.inj e;obtain⟨k,e3,p3⟩:=ih l e2;exact⟨a::k,by rw[KD,e3],p3.cons a⟩
 |swap x y l0 =>
  intro l e;rcases l with _|⟨a,_|⟨b,l⟩⟩
  ·cases e
  ·cases e
  ·obtain⟨rfl,e2⟩:=List.cons.inj e;obtain⟨rfl,e3⟩:=List.cons.inj e2;exact⟨b::a::l,by rw[<- e3];rfl,.swap ..⟩
 |trans p q ih1 ih2 =>
  intro l e;obtain⟨k,e1,p1⟩:=ih2 l e;obtain⟨k',e2,p2⟩:=ih1 k e1;exact⟨k',e2,p2.trans p1⟩
theorem zd{p:List Nat}(hp:p.Perm (List.range ls.length))(hr:p.Pairwise (SP.R fun i=>ls.getD i 0)):bF ls=p:=by
 have ez:(List.range ls.length).map (fun i=>(ls.getD i 0,i))=ls.zip (List.range ls.length):=by
  apply Mm
  ·rw[JY,Ky,O6,Ky,M7]
  ·intro i h1 h2;rw[JY,Ky] at h1;rw[Oo,NB,List.getElem_zip];simp[h1]
 have e1:p.map (fun i=>(ls.getD i 0,i))=e8 (ls.zip (List.range ls.length)):=by
  refine oW ?_ fun a=>?_
  ·exact LX.mpr (hr.imp fun h=>h.le)
  ·have fl:∀ l:List Nat,atK a (l.map fun i=>(ls.getD i 0,i))=(l.filter fun i=>decide (ls.getD i 0=a)).map fun i=>(ls.getD i 0,i):=fun l=>by
    unfold atK;rw[List.filter_map];rfl
   rw[<- ez,fl,fl];congr 1;refine Oq (le:=(· < ·)) (fun a b _ _ h g=>absurd h (Nat.lt_asymm g)) ?_ (MW.filter _) (hp.filter _);rw[List.pairwise_filter];refine hr.imp fun {i j} h hi hj=>?_;have hi:=LD hi;have hj:=LD hj;rcases h with h|h
   ·exfalso;have h':ls.getD i 0<ls.getD j 0:=h;lia
   ·exact h.2
 unfold bF ic;rw[<- e1,LA];exact List.map_id _
noncomputable def xO(ls:List Int)(i:Nat):Int×Int:=(ls.getD i 0,(i:Int))
theorem uX{out:List (Int×Int)}(hp:out.Perm ((List.range ls.length).map (xO ls)))(hu:Ex out):out=(bF ls).map (xO ls)/\(bF ls).Pairwise (SP.R fun i=>ls.getD i 0):=by
 obtain⟨p,rfl,pp⟩:=ye hp (List.range ls.length) rfl;have hr:p.Pairwise (SP.R fun i=>ls.getD i 0):=by
  have nd:p.Nodup:=pp.nodup_iff.mpr List.nodup_range;unfold Ex at hu;rw[LX] at hu;refine (hu.and nd).imp fun {i j} h=>?_;have h1:¬ ((xO ls j).1<(xO ls i).1\/((xO ls j).1=(xO ls i).1/\(xO ls j).2<(xO ls i).2)):=of_decide_eq_false h.1;have h1':¬ (ls.getD j 0<ls.getD i 0\/(ls.getD j 0=ls.getD i 0/\(j:Int)<(i:Int))):=h1;show ls.getD i 0<ls.getD j 0\/(ls.getD i 0=ls.getD j 0/\i<j);have:=h.2;lia
 rw[zd pp hr];exact⟨rfl,hr⟩
theorem Dk(h:(bF ls).Pairwise (SP.R fun i=>ls.getD i 0)):(bF ls).Pairwise fun i j=>aK ls i<=aK ls j:=h.imp fun {i j} h=>by
 have h':ls.getD i 0<=ls.getD j 0:=h.le;unfold aK;lia
theorem sZ:∀(k:Nat) (w acc:List Nat),w.length=k->(∀ c∈w,c=48\/c=49)->bu (Cw.val w:Int) k acc=w++acc:=by
 intro k
 induction k with
 |zero=>intro w acc h _;rw[Oz.mp h];rfl
 |succ k ih =>
  intro w acc h hb;obtain⟨v,c,rfl⟩:∃ v c,w=v++[c]:=by
   rcases OR w with e|⟨v,c,e⟩
   ·rw[e] at h;cases h
   ·exact⟨v,c,by rw[e,List.concat_eq_append]⟩
  have hc:=hb c (by simp)
  have ev:Cw.val (v++[c])=2*Cw.val v+(c-48):=by
   rw[Cw.fo];rcases hc with rfl|rfl
   ·simp[Cw.val];lia
   ·simp[Cw.val];lia
  rw[bu];have e1:((Cw.val (v++[c]):Nat):Int) / 2=(Cw.val v:Int):=by rw[ev];lia
  have e2:dg ((Cw.val (v++[c]):Nat):Int)=c:=by
   unfold dg;rw[ev];rcases hc with rfl|rfl
   ·have:((2*Cw.val v+(48-48):Nat):Int) % 2=0:=by lia
    rw[this];rfl
   ·have:((2*Cw.val v+(49-48):Nat):Int) % 2=1:=by lia
    rw[this];rfl
  rw[e1,e2,ih v (c::acc) (by rw[JX,KL] at h;lia) (fun x hx=>hb x (by simp[hx])),Ku]
  rfl
theorem wU(ls:List Int):Kr.ks 40 ((bF ls).map (aK ls))=KS ls:=by
 unfold KS;refine Kr.hU ?_;have e:ls.map Int.toNat=(List.range ls.length).map (aK ls):=by
  apply Mm
  ·simp
  ·intro i h1 h2;have hi:i<ls.length:=by simpa using h1
   simp[aK,hi]
 rw[e];exact (jT (by rw[Ky])).map _
structure At (ls:List Int) (done todo:List Nat) (a:Option (List Nat)) (n h:Int):Prop where
 all:done++todo=bF ls
 st:(a=none/\done=[]/\n=-1/\h=0)\/∃ w,a=some w/\n=(Cw.val w:Int)/\h=(w.length:Int)/\Cw.gE (done.map (aK ls)) w/\∀ t∈todo,w.length<=aK ls t
noncomputable def kl(a:Option (List Nat))(l:Nat):List Nat:=match a with|none=>List.replicate l 48|some v=>Cw.eR v l
theorem At.next{ls:List Int}{todo:List Nat}{a:Option (List Nat)}{n h:Int}{t:Nat}(x:At ls done (t::todo) a n h)(hL:jx ls)(ho:ng ls=true)(hu:(bF ls).Pairwise fun i j=>aK ls i<=aK ls j):
  ∃ d:Nat,(aK ls t:Int)-h=d/\d<=aK ls t/\(n+1)*2^d=(Cw.val (kl a (aK ls t)):Int)/\(kl a (aK ls t)).length=aK ls t/\(∀ c∈kl a (aK ls t),c=48\/c=49)/\At ls (done++[t]) todo (some (kl a (aK ls t))) (Cw.val (kl a (aK ls t)):Int) (aK ls t:Int):=by
 have hall:(done++[t])++todo=bF ls:=by rw[Ku];exact x.all
 have htl:aK ls t<=40:=by
  have h:=gY (ls:=ls) (t:=t) (by rw[<- x.all];simp)
  have:=hL.2.2 _ (K3 h);unfold aK;rw[Kd,JV h];show ls[t].toNat<=40;lia
 have hk:Kr.ks 40 ((done++[t]++todo).map (aK ls))<=2^40:=by rw[hall,wU];exact LD ho
 rw[Kt,Kt,Kr.bH,Kr.bH] at hk;have hle:∀ u∈todo,aK ls t<=aK ls u:=fun u hu'=>by
  rw[<- x.all] at hu;exact (K7.mp (Lo.mp hu).2.1).1 u hu'
 rcases x.st with ⟨rfl,rfl,rfl,rfl⟩|⟨w,rfl,rfl,rfl,hH,hw⟩
 ·refine⟨aK ls t,by lia,Kc _,?_,Kl ..,fun c hc=>.inl (Lv.mp hc).2,hall,.inr ⟨_,rfl,rfl,by rw[show kl none (aK ls t)=List.replicate (aK ls t) 48 from rfl,Kl],Cw.gE.first htl,fun u hu'=>by rw[show kl none (aK ls t)=List.replicate (aK ls t) 48 from rfl,Kl];exact hle u hu'⟩⟩
  rw[show kl none (aK ls t)=List.replicate (aK ls t) 48 from rfl,Cw.eQ];simp
 ·have hwt:=hw t Kk;have hk2:Kr.ks 40 (done.map (aK ls))+2^(40-aK ls t)<=2^40:=by
   simp only[KD,List.map_nil,Kr.ks] at hk;lia
  have hz:=hH.zero (rest:=[]) hk2;have hN:=hH.next hwt htl hk2;refine⟨aK ls t-w.length,by lia,OU _ _,?_,Cw.dW hwt,Cw.lI hH.bits,hall,.inr ⟨_,rfl,rfl,by rw[show kl (some w) (aK ls t)=Cw.eR w (aK ls t) from rfl,Cw.dW hwt],by rw[Kt];exact hN,fun u hu'=>by rw[show kl (some w) (aK ls t)=Cw.eR w (aK ls t) from rfl,Cw.dW hwt];exact hle u hu'⟩⟩
  rw[show kl (some w) (aK ls t)=Cw.eR w (aK ls t) from rfl,Cw.n9 hH.bits hz];simp
noncomputable def ve:dE:=fun args Q=>∃ ls:List Int,args=[.tup (nI ls)]/\jx ls/\ng ls=true/\Q (.fr (.lst (wT (wordsOf Cw.eZ ls)))) []
theorem yi(T:Txt K mg)(F:HasFn K mg "_law_code" du ["lengths"])(h_law_bits:k20z P w K mg base):ae P w K mg base aU 2 "_law_code" ["lengths"] (spT K [false] ve):=by
 refine F.fG aY [false] rfl (by decide) ?_;left;obtain⟨ls,rfl,hL,ho,q⟩:=h;refine⟨_,(Y.af (Y.set (i:=1) aY.nd rfl (by right) (Y.op (Y.dB K rfl) Y.cJ (Y.lst (Y.cons Y.str Y.nil)) (Y.cb (Y.aH K rfl) Y.bp rfl T.cI (by decide +kernel) (Y.cons (Y.vS 0) Y.nil))))
   (Y.af (Y.set (i:=2) aY.nd rfl (by right) (Y.neg Y.int))
   (Y.af (Y.set (i:=3) aY.nd rfl (by right) Y.int)
   (Y.af (Y.eU K9 rfl (Y.anyS K rfl (Y.cb (Y.pK K rfl) Y.xZ rfl T.jG (by decide +kernel) (Y.cons (Y.iD (osc:=aa du) (ON:=["lengths","words","number","ahead","length","k","step"]) (own:=["k"]) (N:=["k","lengths","words","number","ahead","length",".k","step"]) ⟨rfl,by decide +kernel,rfl,by decide +kernel,by decide +kernel,by decide +kernel,by decide +kernel,by decide +kernel⟩ rfl rfl rfl rfl (Y.jk rfl T.dm (Y.cons (Y.cb (Y.aH K rfl) Y.bp rfl T.cI (by decide +kernel) (Y.cons (Y.vS 0) Y.nil)) Y.nil)) (fun _ _ _ _=>(Z.aG (i:=0) (show List.Nodup (["k","lengths","words","number","ahead","length",".k","step"]:List Str) by decide +kernel) rfl (by right))) (fun _ _ _ _=>Y.rF) (fun _ _ _ _=>(Y.tup (Y.cons (Y.ix (Y.aD K rfl) Y.ai (Y.vS 1) (Y.vS 0)) (Y.cons (Y.vS 0) Y.nil))))) Y.nil))) (Y.iO (n:=2) K rfl rfl (Y.bD (Y.aG (i:=4) aY.nd rfl (by right)) (Y.bD (Y.aG (i:=5) aY.nd rfl (by right)) Y.fF))) (Y.af (Y.set (i:=2) aY.nd rfl (by right) (Y.op (Y.au K rfl) Y.av (Y.vS 2) Y.int))
   (Y.af (Y.eU K9 rfl (Y.jk rfl T.dm (Y.cons (Y.op cY Y.cw (Y.vS 4) (Y.vS 3)) Y.nil)) (Y.aG (i:=6) aY.nd rfl (by right)) (Y.aA (Y.set (i:=2) aY.nd rfl (by right) (Y.op (Y.au K rfl) Y.av (Y.vS 2) (Y.vS 2)))))
   (Y.af (Y.set (i:=3) aY.nd rfl (by right) (Y.vS 4))
   (Y.aA (Y.asg (Y.fn K rfl h_law_bits (hr.mono (by decide)) rfl ax (Y.cons (Y.vS 2) (Y.cons (Y.vS 4) Y.nil))) (Y.oZ (Y.vS 1) (Y.vS 5))))))))
   (Y.aA (Y.ret (Y.vS 1))))))),?_⟩
 refine aq fun N hN=>?_;exists bJ;have hl20:=hL.2.1;refine⟨by decide,by lia,by lia,Kq (show _<=20 by lia) (by decide),?_⟩
 have er:(List.replicate ls.length [L2.T.str (Str.ofString "")]).flatten=wT (List.replicate ls.length []):=by
  rw[ig];unfold wT;rw[List.map_replicate];generalize ls.length=n
  induction n with
  |zero=>rfl
  |succ n ih=>rw[KG,Lk,ih];rfl
 rw[K6,er];refine hN _ ?_;clear hN N er;refine aq fun N hN=>?_;rfl';symm;rfl';symm;exists bJ;refine⟨by lia,by lia,?_⟩
 rw[K6,Lw];refine bU (fun rest acc μ=>∃ i:Nat,i<=ls.length/\(rest=(List.range' i (ls.length-i)).map fun k:Nat=>L2.T.int (0+(k:Int)))/\acc=((List.range i).map (xO ls)).map Y.uT/\μ=[.tr (.tup (nI ls)),.bx (.lst (wT (List.replicate ls.length []))),.tr (.int (-1)),.tr (.int 0),.un,.un,.un]) ⟨0,KN _,rfl,rfl,rfl⟩ ?_ ?_
 ·rintro acc μ ⟨i,hi,e,rfl,rfl⟩;have hi2:i=ls.length:=by
   have:=K4 List.length e;rw[JY,Lu,K8] at this;lia
  subst hi2;refine⟨trivial,?_⟩;rfl';refine⟨_,rfl,by rw[JY,Ky];lia,fun out hp hup=>?_⟩
  obtain⟨eo,hR⟩:=uX hp hup;have hup2:=Dk hR;subst eo;rfl';have h40:∀ t∈bF ls,ls.getD t 0=(aK ls t:Int)/\aK ls t<=40/\t<ls.length:=fun t ht=>by
   have h:=gY ht;have:=hL.2.2 _ (K3 h);unfold aK;rw[Kd,JV h];show ls[t]=((ls[t].toNat:Nat):Int)/\ls[t].toNat<=40/\_;exact⟨by lia,by lia,h⟩
  refine bz (fun rest μ=>∃(done todo:List Nat) (a:Option (List Nat)) (ws:List (List Nat)) (n h:Int) (o4 o5 o6:Option L2.T),rest=(todo.map (xO ls)).map Y.uT/\At ls done todo a n h/\Cw.along Cw.eR (aK ls) done (none,List.replicate ls.length [])=(a,ws)/\ws.length=ls.length/\μ=[.tr (.tup (nI ls)),.bx (.lst (wT ws)),.tr (.int n),.tr (.int h),sl o4,sl o5,sl o6]) ⟨[],bF ls,none,_,-1,0,none,none,none,rfl,⟨rfl,.inl ⟨rfl,rfl,rfl,rfl⟩⟩,rfl,Kl ..,rfl⟩ ?_ ?_
  ·rintro μ ⟨done,todo,a,ws,n,h,o4,o5,o6,e,hA,hal,_,rfl⟩;have e0:todo=[]:=by
    cases todo with
    |nil=>rfl
    |cons=>cases e
   subst e0;have ed:done=bF ls:=by have:=hA.all;rw[Kw] at this;exact this
   have ew:wordsOf Cw.eZ ls=ws:=by
    unfold wordsOf;rw[Cw.gC (bF ls) [] none _ hup2 (fun t ht=>(h40 t ht).2.1) (fun v z=>by cases z) (fun _=>rfl) (by rw[L9,wU];exact LD ho),<- ed,hal]
   show N _;ac_rfl;rfl';rw[ew] at q;exact q
  ·rintro t ts μ M ⟨done,todo,a,ws,n,h,o4,o5,o6,e,hA,hal,hwl,rfl⟩ k
   cases todo with
   |nil=>cases e
   |cons x todo =>
    obtain⟨rfl,rfl⟩:=List.cons.inj e;obtain⟨hx1,hx2,hx3⟩:=h40 x (by rw[<- hA.all];simp)
    obtain⟨d,e1,e0,e2,e3,e4,hA2⟩:=hA.next hL ho hup2;have hal2:Cw.along Cw.eR (aK ls) (done++[x]) (none,List.replicate ls.length [])=(some (kl a (aK ls x)),ws.set x (kl a (aK ls x))):=by
     rw[Cw.fz,hal]
     cases a<;>rfl
    unfold xO Y.uT;rw[hx1];generalize aK ls x=l at *;generalize hw':kl a l=w' at *;rfl';refine aq fun M2 h2=>?_;rfl';refine h2 _ ?_;clear h2 M2;refine aq fun M2 h2=>?_;exists e1;refine⟨by lia,by lia,?_⟩
    rw[K6];refine bz (fun rest μ=>∃(j:Nat) (o6:Option L2.T),j+rest.length=d/\μ=[.tr (.tup (nI ls)),.bx (.lst (wT ws)),.tr (.int ((n+1)*2^j)),.tr (.int h),.tr (.int (l:Int)),.tr (.int (x:Int)),sl o6]) ⟨0,o6,by rw[JY,Ky,LO],by rw[MM,MU]⟩ ?_ ?_
    ·rintro μ ⟨j,o6,hj,rfl⟩;have hj2:j=d:=by simpa using hj
     subst hj2;rw[e2];show M2 _;refine h2 _ ?_;clear h2 M2;refine aq fun M2 h2=>?_;rfl';refine h2 _ ?_;clear h2 M2;rfl';refine⟨_,l,rfl,hx2,?_⟩;rw[sZ l w' [] e3 e4,Kw];have ixw:ie (wT ws).length (x:Int)=some x:=by
      rw[Dy (by lia) (by rw[fE,hwl];lia)];simp
     have sw:(wT ws).set x (.str (wd w'))=wT (ws.set x w'):=by unfold wT;rw[Ot]
     exists ixw,sw;exact k _ ⟨done++[x],todo,some w',ws.set x w',_,_,some _,some _,o6,rfl,hA2,hal2,by rw[K_,hwl],rfl⟩
    ·rintro t ts μ M3 ⟨j,o6,hj,rfl⟩ k3;rfl';refine k3 _ ⟨j+1,some t,by rw[Kj] at hj;lia,?_⟩
     rw[show (n+1)*2^j+(n+1)*2^j=(n+1)*2^(j+1) from by rw[Nx,<- OZ];lia]
     rfl
 ·rintro t r acc μ M ⟨i,hi,e,rfl,rfl⟩ k;have hi2:i<ls.length:=by
   have:=K4 List.length e;rw[JY,Lu,Kj] at this;lia
  rw[show ls.length-i=(ls.length-(i+1))+1 by lia,Lj,KD] at e
  obtain⟨rfl,rfl⟩:=List.cons.inj e;clear e;refine⟨trivial,by rw[JY,JY,Ky];exact Kx (show i<=20 by lia) (by decide),?_⟩
  rw[Ny];have ea:bw (nI ls) (i:Int)=some (.int (ls.getD i 0)):=bB (by unfold nI;rw[Kg,Kd,JV hi2];rfl)
  exists ea;refine⟨by decide,k _ _ ⟨i+1,hi2,rfl,?_,rfl⟩⟩
  rw[Mz,Kt,Kt];rfl
noncomputable def Row.wi:Row->Nat
 |.put _ _=>0
 |.two u _ _=>1+u
 |.one u _=>4+u
 |.jump _=>6
 |.zero _ _=>7
 |.halt=>8
theorem Row.sG(r:Row):r.wi<9:=by
 cases r with
 |two u a b=>exact (by decide:∀ u:_root_.Fin 3,1+(u:Nat)<9) u
 |one u b=>exact (by decide:∀ u:_root_.Fin 2,4+(u:Nat)<9) u
 |put b n=>exact (by decide:0<9)
 |jump g=>exact (by decide:6<9)
 |zero b g=>exact (by decide:7<9)
 |halt=>exact (by decide:8<9)
inductive Pk where
 |box (b:Nat)|num (n:Nat)|goal (g:Nat)
noncomputable def Pk.kd:Pk->Str
 |.box _=>"box"
 |.num _=>"number"
 |.goal _=>"goal"
noncomputable def Pk.t:Pk->L2.T
 |.box b=>.str (fL b)
 |.num n=>.int (n:Nat)
 |.goal g=>.int (g:Nat)
noncomputable def Pk.Ok:Pk->Prop
 |.box b=>b<8
 |.num n=>n<65536
 |.goal _=>True
noncomputable def Pk.Ao:Pk->List (Nat×Nat)
 |.box b=>[(2,b)]
 |.num n=>[(1,aQ n)]
 |.goal _=>[]
noncomputable def Row.wd:Row->Str
 |.put _ _=>"put"
 |.two u _ _=>w2 u
 |.one u _=>w1 u
 |.jump _=>"jump"
 |.zero _ _=>"zero"
 |.halt=>"halt"
noncomputable def Row.fC:Row->List Pk
 |.put b n=>[.box b,.num n]
 |.two _ a b=>[.box a,.box b]
 |.one _ b=>[.box b]
 |.jump g=>[.goal g]
 |.zero b g=>[.box b,.goal g]
 |.halt=>[]
theorem Row.uS(r:Row):r.t=.tup (.str r.wd::r.fC.map Pk.t):=by cases r<;>rfl
theorem Row.p7{r:Row}(h:r.Ok k):∀ p∈r.fC,p.Ok:=by
 cases r with
 |put b n=>simp only[Row.fC,Ki,Ld,Mi];exact fun p z=>z.elim (fun e=>e ▸ h.1) fun e=>e ▸ h.2
 |two u a b=>simp only[Row.fC,Ki,Ld,Mi];exact fun p z=>z.elim (fun e=>e ▸ h.1) fun e=>e ▸ h.2
 |one u b=>simp only[Row.fC,Ki,Ld,Mi];rintro p rfl;exact h
 |jump g=>simp only[Row.fC,Ki,Ld,Mi];rintro p rfl;exact trivial
 |zero b g=>simp only[Row.fC,Ki,Ld,Mi];exact fun p z=>z.elim (fun e=>e ▸ h.1) fun e=>e ▸ trivial
 |halt=>simp[Row.fC]
noncomputable def eG(r:Row):List (Nat×Nat):=(0,r.wi)::r.fC.flatMap Pk.Ao
noncomputable def fM:List Str:=["put","add","sub","copy","tell","hear","jump","zero","halt"]
theorem Fq:∀ k,k<9->∀ m,m<k->fM[m]?≠fM[k]?:=by decide +kernel
theorem qY(r:Row):fM[r.wi]?=some r.wd/\∀ m,m<r.wi->fM[m]?≠some r.wd:=by
 have h1:fM[r.wi]?=some r.wd:=by
  cases r with
  |two u a b=>exact (by decide +kernel:∀ u:_root_.Fin 3,fM[1+(u:Nat)]?=some (w2 u)) u
  |one u b=>exact (by decide +kernel:∀ u:_root_.Fin 2,fM[4+(u:Nat)]?=some (w1 u)) u
  |put b n=>rfl
  |jump g=>rfl
  |zero b g=>rfl
  |halt=>rfl
 exact⟨h1,fun m hm=>by rw[<- h1];exact Fq _ r.sG m hm⟩
theorem IX{b:Nat}(h:b<8):Builtin.Str.occurrences (Str.ofString "abcdefgh") (fL b) 0 (Str.ofString "abcdefgh").length 1=[b]:=by
 rcases Jz h with rfl|rfl|rfl|rfl|rfl|rfl|rfl|rfl<;>decide +kernel
theorem nR(t:L2.T)(ts:List L2.T):Y.cg (t::ts) (some 1) none=ts:=by
 unfold Y.cg;rw[HT.gW,show (some (1:Int))=some ((1:Nat):Int) from rfl,HT.i_];simp
noncomputable def cT(l:List (Nat×Nat)):List L2.T:=l.map fun p=>.tup [.int (p.1:Nat),.int (p.2:Nat)]
noncomputable def vf:dE:=fun args Q=>∃(r:Row) (k:Nat),args=[r.t]/\r.Ok k/\Q (.fr (.lst (cT (eG r)))) []
noncomputable def dF:List (Str×List Str):=[("put",["box","number"]),("add",["box","box"]),("sub",["box","box"]),("copy",["box","box"]),("tell",["box"]),("hear",["box"]),("jump",["goal"]),("zero",["box","goal"]),("halt",[])]
theorem kZ(r:Row):KTD.datumAt r.wd dF=some (r.fC.map Pk.kd):=by
 cases r with
 |two u a b=>exact (by decide +kernel:∀ u:_root_.Fin 3,KTD.datumAt (w2 u) dF=some [("box":Str),"box"]) u
 |one u b=>exact (by decide +kernel:∀ u:_root_.Fin 2,KTD.datumAt (w1 u) dF=some [("box":Str)]) u
 |put b n=>exact (by decide +kernel:KTD.datumAt ("put":Str) dF=some [("box":Str),"number"])
 |jump g=>exact (by decide +kernel:KTD.datumAt ("jump":Str) dF=some [("goal":Str)])
 |zero b g=>exact (by decide +kernel:KTD.datumAt ("zero":Str) dF=some [("box":Str),"goal"])
 |halt=>exact (by decide +kernel:KTD.datumAt ("halt":Str) dF=some ([]:List Str))
theorem vO:∀ ps:List Pk,pq ((ps.map Pk.kd).map L2.T.str) (ps.map Pk.t)=ps.map fun p=>.tup [.str p.kd,p.t]
 |[]=>rfl
 |p::ps=>K4 (_::·) (vO ps)
noncomputable def Gq:List Str:=["a","b","c","d","e","f","g","h"]
theorem vR{b:Nat}(h:b<8):Gq[b]?=some (fL b)/\∀ m,m<b->Gq[m]?≠some (fL b):=(by decide +kernel:∀ b,b<8->Gq[b]?=some (fL b)/\∀ m,m<b->Gq[m]?≠some (fL b)) b h
theorem vD(a b:List (Nat×Nat)):cT (a++b)=cT a++cT b:=Kt
theorem wy(T:Txt K mg)(F:HasFn K mg "coded_things" cF ["row"]):ae P w K mg base aU 1 "coded_things" ["row"] (spT K [false] vf):=by
 refine F.fG cB [false] rfl (by decide) ?_;left;obtain⟨r,k,rfl,aO,q⟩:=h;refine⟨_,(Y.af (Y.set (i:=1) cB.nd rfl (by right) (Y.lst (Y.cons (Y.tup (Y.cons (Y.gQ rfl T.pQ) (Y.cons (Y.Jl K rfl rfl rfl T.j6 rfl T.xg (Y.ix (Y.aD K rfl) Y.ai (Y.vS 0) Y.int)) Y.nil))) Y.nil)))
   (Y.af (Y.eU K9 rfl (Y.zip K rfl rfl T.Bd (Y.cons (Y.J5 K rfl rfl T.j6 (Y.ix (Y.aD K rfl) Y.ai (Y.vS 0) Y.int)) (Y.cons (Y.dS K rfl (Y.vS 0) (Y.mT Y.int) Y.DF) Y.nil))) (Y.iO (n:=2) K rfl rfl (Y.bD (Y.aG (i:=2) cB.nd rfl (by right)) (Y.bD (Y.aG (i:=3) cB.nd rfl (by right)) Y.fF))) (Y.aA (Y.eL (Y.aV (Y.b6 K rfl (Ks hu)) Y.cy (Y.vS 2) Y.str) (Y.aA (Y.expr (Y.bm K rfl PySem.F.slot_list_append PySem.F.type_list_append bT Y.cq (Y.vS 1) (Y.cons (Y.tup (Y.cons (Y.gQ rfl T.pP) (Y.cons (Y.Ii K rfl rfl T.A8 T.Ab (Y.vS 3)) Y.nil))) Y.nil)))) (Y.aA (Y.eL (Y.aV (Y.b6 K rfl (Ks hu)) Y.cy (Y.vS 2) Y.str) (Y.aA (Y.expr (Y.bm K rfl PySem.F.slot_list_append PySem.F.type_list_append bT Y.cq (Y.vS 1) (Y.cons (Y.tup (Y.cons (Y.gQ rfl T.mJ) (Y.cons (Y.bits (Y.vS 3)) Y.nil))) Y.nil)))) Y.bN)))))
   (Y.aA (Y.ret (Y.vS 1))))),?_⟩
 rw[Row.uS];refine aq fun N hN=>?_;rfl';refine⟨r.wi,(qY r).1,(qY r).2,by decide,by decide,?_⟩
 symm;have e1:=kZ r;unfold dF at e1;exists e1,nR;show Y.fH _ _ _ (pq ((r.fC.map Pk.kd).map L2.T.str) (r.fC.map Pk.t)) _;rw[vO];refine bz (fun rest μ=>∃(ps:List Pk) (l:List (Nat×Nat)) (o2 o3:Option L2.T),rest=ps.map (fun p=>.tup [.str p.kd,p.t])/\(∀ p∈ps,p.Ok)/\l.length+ps.length<=10/\eG r=l++ps.flatMap Pk.Ao/\μ=[.tr (.tup (.str r.wd::r.fC.map Pk.t)),.bx (.lst (cT l)),sl o2,sl o3]) ⟨r.fC,[(0,r.wi)],none,none,rfl,Row.p7 aO,by cases r<;>simp[Row.fC],rfl,rfl⟩ ?_ ?_
 ·rintro μ ⟨ps,l,o2,o3,e1,_,_,ea,rfl⟩;have e2:ps=[]:=Lq.mp e1.symm;subst e2;rw[List.flatMap_nil,Kw] at ea;rw[ea] at q;show N _;ac_rfl;rfl';exact q
 ·rintro t rest μ M ⟨ps,l,o2,o3,e1,hp,l10,ea,rfl⟩ k;obtain⟨p,ps',rfl,rfl,rfl⟩:=List.map_eq_cons_iff.mp e1.symm;have hp0:=hp p (Kk ..);have hp1:∀ q∈ps',q.Ok:=fun q hq=>hp q (Kh _ hq);rw[Kj] at l10;clear hN q e1
  cases p with
  |box b =>
   show Y.Ez _ _ (R.tr (.tup [.str "box",.str (fL b)])) _ _;exists (show (Str.ofString "box"=Str.ofString "box")=True from eq_true rfl),LS;refine⟨Gq,b,rfl,(vR hp0).1,(vR hp0).2,by decide,?_,?_⟩
   ·exact Kx (by unfold cT;rw[JY];lia) (show 10<sizeLine by decide)
   refine k _ ⟨ps',l++[(2,b)],some (.str "box"),some (.str (fL b)),rfl,hp1,by rw[JX];simp only[Kj,K8];lia,by rw[ea,LF,Ku];rfl,by rw[vD];rfl⟩
  |num n =>
   show Y.Ez _ _ (R.tr (.tup [.str "number",.int (n:Nat)])) _ _;have n1:(Str.ofString "number")≠(Str.ofString "box"):=by decide +kernel
   exists JZ n1,(show (Str.ofString "number"=Str.ofString "number")=True from eq_true rfl),LS;refine⟨by decide,?_,?_⟩
   ·exact Kx (by unfold cT;rw[JY];lia) (show 10<sizeLine by decide)
   refine k _ ⟨ps',l++[(1,aQ n)],some (.str "number"),some (.int (n:Nat)),rfl,hp1,by rw[JX];simp only[Kj,K8];lia,by rw[ea,LF,Ku];rfl,by rw[vD];rfl⟩
  |goal n =>
   show Y.Ez _ _ (R.tr (.tup [.str "goal",.int (n:Nat)])) _ _;have n1:(Str.ofString "goal")≠(Str.ofString "box"):=by decide +kernel
   have n2:(Str.ofString "goal")≠(Str.ofString "number"):=by decide +kernel
   exists JZ n1,JZ n2;exact k _ ⟨ps',l,some (.str "goal"),some (.int (n:Nat)),rfl,hp1,by lia,by rw[ea,LF];rfl,rfl⟩
theorem jU:∀(o:List Nat) (a:Option (List Nat)) (ws:List (List Nat)),(∀ t∈o,ln t<=40)->(∀ v,a=some v->v.length<=40)->(∀ x∈ws,x.length<=40)->∀ x∈(Cw.along Cw.eZ ln o (a,ws)).2,x.length<=40
 |[],_,_,_,_,h=>h
 |t::o,a,ws,ho,ha,hw=>by
  have ht:=ho t Kk;have h2:=fun t h=>ho t (Kh _ h)
  cases a with
  |none =>
   refine jU o (some (List.replicate (ln t) 48)) _ h2 (fun v e=>by cases e;rw[Kl];exact ht) fun x hx=>?_
   rcases Mb hx with z|z
   ·exact hw x z
   ·rw[z,Kl];exact ht
  |some v =>
   have hv:=rn (ha v rfl) ht;refine jU o (some (Cw.eZ v (ln t))) _ h2 (fun v e=>by cases e;exact hv) fun x hx=>?_
   rcases Mb hx with z|z
   ·exact hw x z
   ·rw[z];exact hv
theorem x6(hL:jx ls):∀ x∈wordsOf Cw.eZ ls,x.length<=40:=by
 refine jU _ _ _ (fun t ht=>?_) (fun v e=>by cases e) fun x hx=>by rw[(Lv.mp hx).2];decide
 have h:=gY ht;have:=hL.2.2 _ (K3 h);unfold aK;rw[Kd,JV h];show ls[t].toNat<=40;lia
theorem iq(ls:List Int):(wordsOf Cw.eZ ls).length=ls.length:=(Cw.gb _ _).trans (Kl ..)
structure Cd (cd:List (List (List Nat))):Prop where
 ex:∃ a b c,cd=[a,b,c]/\a.length=9/\b.length=17/\c.length=8
 le:∀ ws∈cd,∀ x∈ws,x.length<=40
noncomputable def dw(cd:List (List (List Nat)))(p:Nat×Nat):List Nat:=(cd.getD p.1 []).getD p.2 []
noncomputable def gr:Row->List Nat
 |.put _ n=>(cR n).tail
 |_=>[]
noncomputable def aN(cd:List (List (List Nat)))(r:Row):List Nat:=(eG r).flatMap (dw cd)++gr r
noncomputable def Bk(bk:List (List Int)):Prop:=∃ a b c,bk=[a,b,c]/\a.length=9/\b.length=17/\c.length=8/\∀ l∈bk,jx l/\ng l=true
noncomputable def yE(bk:List (List Int)):L2.T:=.tup (bk.map fun l=>.tup (nI l))
noncomputable def cW(bk:List (List Int)):List (List (List Nat)):=bk.map (wordsOf Cw.eZ)
theorem Bk.cd{bk:List (List Int)}(h:Bk bk):Cd (cW bk):=by
 obtain⟨a,b,c,rfl,h1,h2,h3,h4⟩:=h;refine⟨⟨_,_,_,rfl,by rw[iq,h1],by rw[iq,h2],by rw[iq,h3]⟩,fun ws hw=>?_⟩
 obtain⟨l,hl,rfl⟩:=KA.mp hw;exact x6 (h4 l hl).1
noncomputable def vk:dE:=fun args Q=>∃ bk:List (List Int),args=[yE bk]/\Bk bk/\Q (.fr (.lst ((cW bk).map fun ws=>.tup (wT ws)))) []
noncomputable def xf:dE:=fun args Q=>∃ ls:List Int,args=[.tup (nI ls)]/\jx ls/\ng ls=true/\Q (.tr (.tup (wT (wordsOf Cw.eZ ls)))) []
theorem xp(T:Txt K mg)(F:HasFn K mg "codes_of" dN ["book"])(hcalm_code_of:ae P w K mg base aU 5 "code_of" ["lengths"] (spT K [false] xf)):ae P w K mg base aU 6 "codes_of" ["book"] (spT K [false] vk):=by
 refine F.fG oM [false] rfl (by decide) ?_;left;obtain⟨bk,rfl,hB,q⟩:=h;obtain⟨a,b,c,e,h1,h2,h3,h4⟩:=hB;refine⟨_,(Y.aA (Y.ret (Y.iD (osc:=aa dN) (ON:=["book"]) (own:=["lengths"]) (N:=["lengths","book"]) ⟨rfl,by decide +kernel,rfl,by decide +kernel,by decide +kernel,by decide +kernel,by decide +kernel,by decide +kernel⟩ rfl rfl rfl rfl (Y.anyS K rfl (Y.vS 0)) (fun _ _ _ _=>(Z.aG (i:=0) (show List.Nodup (["lengths","book"]:List Str) by decide +kernel) rfl (by right))) (fun _ _ _ _=>Y.rF) (fun _ _ _ _=>(Y.fn K rfl hcalm_code_of (hr.mono (by decide)) rfl ax (Y.cons (Y.vS 0) Y.nil)))))),?_⟩
 unfold yE;rfl';refine bU (fun rest acc μ=>∃(done todo:List (List Int)),done++todo=bk/\(rest=todo.map fun l=>L2.T.tup (nI l))/\(acc=(cW done).map fun ws=>L2.T.tup (wT ws))/\μ=[.tr (yE bk)]) ⟨[],bk,rfl,rfl,rfl,rfl⟩ ?_ ?_
 ·rintro acc μ ⟨done,todo,e1,e2,rfl,rfl⟩;have e3:todo=[]:=by
   cases todo with
   |nil=>rfl
   |cons=>cases e2
  subst e3;rw[Kw] at e1;subst e1;refine⟨trivial,?_⟩;rfl';exact q
 ·rintro t r acc μ M ⟨done,todo,e1,e2,rfl,rfl⟩ k
  cases todo with
  |nil=>cases e2
  |cons x todo =>
   obtain⟨rfl,rfl⟩:=List.cons.inj e2;have hx:=h4 x (by rw[<- e1];simp)
   have hd:done.length<=3:=by
    have:=K4 List.length e1;rw[JX,e] at this;simp at this;lia
   refine⟨trivial,by unfold cW;rw[JY,JY];exact Kx hd (by decide),?_⟩
   rfl';refine⟨x,rfl,hx.1,hx.2,?_⟩;rfl';refine k _ _ ⟨done++[x],todo,by rw[<- e1];simp,rfl,?_,rfl⟩
   unfold cW;rw[Kt,Kt];rfl
theorem nu:∀ l:List (List Nat),(Str.ofString "").join (l.map wd)=wd l.flatten
 |[]=>rfl
 |[x]=>by simp[Str.join]
 |x::y::r=>by
  show wd x++Str.ofString ""++(Str.ofString "").join ((y::r).map wd)=_;rw[nu (y::r),ig,gD,gD,Kw];rfl
theorem wu{r:Row}(h:r.Ok k):∀ p∈eG r,(p.1=0/\p.2<9)\/(p.1=1/\p.2<17)\/(p.1=2/\p.2<8):=by
 intro p hp;unfold eG at hp;rcases Ki.mp hp with rfl|hp
 ·exact .inl ⟨rfl,r.sG⟩
 ·obtain⟨q,hq,hp⟩:=Ow.mp hp;have:=Row.p7 h q hq
  cases q with
  |box b=>rw[Ko.mp hp];exact .inr (.inr ⟨rfl,this⟩)
  |num n=>rw[Ko.mp hp];exact .inr (.inl ⟨rfl,je this⟩)
  |goal n=>cases hp
theorem Cd.at{cd:List (List (List Nat))}(h:Cd cd){p:Nat×Nat}(hp:(p.1=0/\p.2<9)\/(p.1=1/\p.2<17)\/(p.1=2/\p.2<8)):cd[p.1]?=some (cd.getD p.1 [])/\(cd.getD p.1 [])[p.2]?=some (dw cd p)/\(dw cd p).length<=40:=by
 obtain⟨a,b,c,rfl,h1,h2,h3⟩:=h.ex;have key:∀(l:List (List Nat)) (i:Nat),i<l.length->l[i]?=some (l.getD i [])/\l.getD i []∈l:=fun l i hi=>by
  rw[Kd,JV hi];exact⟨rfl,K3 hi⟩
 obtain⟨x,y⟩:=p;rcases hp with ⟨rfl,hy⟩|⟨rfl,hy⟩|⟨rfl,hy⟩
 ·have:=key a y (by rw[h1];exact hy)
  exact⟨rfl,this.1,h.le a (by simp) _ this.2⟩
 ·have:=key b y (by rw[h2];exact hy)
  exact⟨rfl,this.1,h.le b (by simp) _ this.2⟩
 ·have:=key c y (by rw[h3];exact hy)
  exact⟨rfl,this.1,h.le c (by simp) _ this.2⟩
theorem qQ(r:Row):(eG r).length<=3:=by cases r<;>simp[eG,Row.fC,Pk.Ao]
theorem jP{cd:List (List (List Nat))}{r:Row}(hC:Cd cd)(h:r.Ok k):((eG r).flatMap (dw cd)).length<=120/\(gr r).length<=16:=by
 refine⟨?_,?_⟩
 ·have:∀ l:List (Nat×Nat),(∀ p∈l,(dw cd p).length<=40)->(l.flatMap (dw cd)).length<=40*l.length:=fun l=>by
   induction l with
   |nil=>exact fun _=>Kc _
   |cons p l ih =>
    intro h;have h1:=h p Kk;have h2:=ih fun q hq=>h q (Kh _ hq);rw[LF,JX,Kj];lia
  have h1:=this (eG r) fun p hp=>(hC.at (wu h p hp)).2.2;have h2:=qQ r;lia
 ·cases r with
  |put b n =>
   have:=je (n:=n) h.2;show (cR n).tail.length<=16;rw[Of];unfold cR;rw[bK];simp only[K8];lia
  |_=>exact KN _
noncomputable def AV:dE:=fun args Q=>∃(r:Row) (k:Nat) (cd:List (List (List Nat))),args=[r.t,.lst (cd.map fun ws=>.tup (wT ws))]/\r.Ok k/\Cd cd/\Q (.tr (.str (wd (aN cd r)))) []
abbrev k16z(P w K mg base):=ae P w K mg base aU 3 "bits_ahead_of_goal" ["row","codes"] (spT K [false,false] AV)
theorem vM(T:Txt K mg)(F:HasFn K mg "bits_ahead_of_goal" a_ ["row","codes"])(hcoded_things:ae P w K mg base aU 1 "coded_things" ["row"] (spT K [false] vf))(hfigures_behind_first:k23z P w K mg base):k16z P w K mg base:=by
 refine F.fG cU [false,false] rfl (by decide) ?_;left;obtain⟨r,k,cd,rfl,aO,hC,q⟩:=h;refine⟨_,(Y.af (Y.set (i:=2) cU.nd rfl (by right) (Y.sm K rfl PySem.F.slot_str_join PySem.F.type_str_join (Y.oF K rfl) Y.rd Y.str (Y.cons (Y.Fb K rfl (osc:=aa a_) (ON:=["row","codes","bits"]) (own:=["which","thing"]) (N:=["which","thing","row","codes","bits"]) ⟨rfl,by decide +kernel,rfl,by decide +kernel,by decide +kernel,by decide +kernel,by decide +kernel,by decide +kernel⟩ rfl rfl rfl rfl (Y.anyS K rfl (Y.fn K rfl hcoded_things (hr.mono (by decide)) rfl ax (Y.cons (Y.vS 0) Y.nil))) (fun _ _ _ _=>(Z.D_ (n:=2) K rfl rfl (Z.bD (Z.aG (i:=0) (show List.Nodup (["which","thing","row","codes","bits"]:List Str) by decide +kernel) rfl (by right)) (Z.bD (Z.aG (i:=1) (show List.Nodup (["which","thing","row","codes","bits"]:List Str) by decide +kernel) rfl (by right)) Z.fF)))) (fun _ _ _ _=>Y.rF) (fun _ _ _ _=>(Y.ix (Y.aD K rfl) Y.ai (Y.ix (Y.aD K rfl) Y.ai (Y.vS 3) (Y.vS 0)) (Y.vS 1)))) Y.nil)))
   (Y.aA (Y.ret (Y.CW (Y.aV (Y.b6 K rfl (Ks hu)) Y.cy (Y.ix (Y.aD K rfl) Y.ai (Y.vS 0) Y.int) Y.str) (Y.op (Y.au K rfl) Y.av (Y.vS 2) (Y.fn K rfl hfigures_behind_first (hr.mono (by decide)) rfl ax (Y.cons (Y.ix (Y.aD K rfl) Y.ai (Y.vS 0) (Y.neg Y.int)) Y.nil))) (Y.vS 2))))),?_⟩
 refine aq fun N hN=>?_;rfl';refine⟨r,k,rfl,aO,?_⟩;rfl';refine bU (fun rest acc μ=>∃(done todo:List (Nat×Nat)),done++todo=eG r/\rest=cT todo/\(acc=(done.map (dw cd)).map fun x=>L2.T.str (wd x))/\μ=[.tr r.t,.tr (.lst (cd.map fun ws=>.tup (wT ws))),.un]) ⟨[],eG r,rfl,rfl,rfl,rfl⟩ ?_ ?_
 ·rintro acc μ ⟨done,todo,e1,e2,rfl,rfl⟩;have e3:todo=[]:=by
   cases todo with
   |nil=>rfl
   |cons=>cases e2
  subst e3;rw[Kw] at e1;subst e1;refine⟨trivial,?_⟩;rfl';refine⟨((eG r).map (dw cd)).map wd,by rw[LA (g:=L2.T.str)];rfl,?_,?_⟩
  ·have e:(((eG r).map (dw cd)).map wd).map (fun x=>x.length)=((eG r).map (dw cd)).map List.length:=by
    rw[LA];exact Mo fun x _=>bE x
   rw[e,<- List.length_flatten,<- List.flatMap_def,ig,bE];have:=(jP hC aO).1;simp only[K8,Nat.mul_zero];lia
  rw[nu,<- List.flatMap_def];ac_rfl;have hh:=jP hC aO;have other:r.wd≠"put"->gr r=[]->Y.tW (Y.E9 (Y.jF (Y.n8 (Y.ou (Y.Ei false)) (Y.n8 Y.yh (Y.eN 0) (Y.uC (L2.T.int 0))) (Y.uC (L2.T.str (Str.ofString "put"))))) (Y.n8 Y.iI (Y.eN 2) (Y.CK [false] Ec (Y.kJ (Y.n8 Y.yh (Y.eN 0) (Y.wF (Y.uC (L2.T.int 1)))) Y.pN))) (Y.eN 2)) (m6 [false,false] Qt) [Sl.tr r.t,Sl.tr (L2.T.lst (List.map (fun ws=>L2.T.tup (wT ws)) cd)),Sl.tr (L2.T.str (wd ((eG r).flatMap (dw cd))))]:=fun n1 n2=>by
   have q':=q;unfold aN at q';rw[n2,Kw] at q';rw[Row.uS];exists JZ n1;exact q'
  cases r with
  |put b n =>
   have a2:bw [L2.T.str (Str.ofString "put"),L2.T.str (fL b),L2.T.int (n:Nat)] (-1)=some (.int (n:Nat)):=rfl;show Y.tW _ _ [Sl.tr (.tup [L2.T.str (Str.ofString "put"),L2.T.str (fL b),L2.T.int (n:Nat)]),_,_];exists (show (Str.ofString "put"=Str.ofString "put")=True from eq_true rfl),LS,a2;refine⟨n,rfl,aO.2,?_⟩;rfl';rw[bE,bE,gD];exact⟨Kq (show _<=200 by have h1:=hh.1;have h2:(cR n).tail.length<=16:=hh.2;lia) (by decide),q⟩
  |two u a b=>exact other ((by decide +kernel:∀ u,w2 u≠"put") u) rfl
  |one u b=>exact other ((by decide +kernel:∀ u,w1 u≠"put") u) rfl
  |jump g=>exact other (show Str.ofString "jump"≠Str.ofString "put" by decide +kernel) rfl
  |zero b g=>exact other (show Str.ofString "zero"≠Str.ofString "put" by decide +kernel) rfl
  |halt=>exact other (by decide +kernel) rfl
 ·rintro t rs acc μ M ⟨done,todo,e1,e2,rfl,rfl⟩ kk
  cases todo with
  |nil=>cases e2
  |cons p todo =>
   obtain⟨rfl,rfl⟩:=List.cons.inj e2;obtain⟨a1,a2,a3⟩:=hC.at (wu aO p (by rw[<- e1];simp))
   have hd:done.length<=3:=by
    have:=K4 List.length e1;have:=qQ r;rw[JX] at *;lia
   have b1:bw (cd.map fun ws=>L2.T.tup (wT ws)) (p.1:Int)=some (.tup (wT (cd.getD p.1 []))):=bB (by rw[Kg,a1];rfl)
   have b2:bw (wT (cd.getD p.1 [])) (p.2:Int)=some (.str (wd (dw cd p))):=bB (by unfold wT;rw[Kg,a2];rfl)
   refine⟨trivial,by rw[JY,JY];exact Kx hd (by decide),?_⟩
   exists b1,b2;refine kk _ _ ⟨done++[p],todo,by rw[<- e1];simp,rfl,?_,rfl⟩
   rw[Kt,Kt];rfl
noncomputable def aT:Row->Option Nat
 |.jump g=>some g
 |.zero _ g=>some g
 |_=>none
noncomputable def rT(rs:List Row):List L2.T:=rs.map Row.t
theorem qM(rs:List Row):(rT rs).length=rs.length:=JY ..
noncomputable def B9:dE:=fun args Q=>∃ r:Row,args=[r.t]/\Q (.tr (oI (aT r))) []
theorem yS(T:Txt K mg)(F:HasFn K mg "goal_of" fW ["row"]):ae P w K mg base aU 1 "goal_of" ["row"] (spT K [false] B9):=by
 refine F.fG pE [false] rfl (by decide) ?_;left;obtain⟨r,rfl,q⟩:=h;refine⟨_,(Y.aA (Y.ret (Y.CW (Y.aV (Y.j8 K rfl) Y.lP Y.str (Y.J5 K rfl rfl T.j6 (Y.ix (Y.aD K rfl) Y.ai (Y.vS 0) Y.int))) (Y.ix (Y.aD K rfl) Y.ai (Y.vS 0) (Y.neg Y.int)) Y.aC))),?_⟩;rw[Row.uS];have e1:=kZ r;unfold dF at e1;exists e1;refine⟨rfl,?_,?_⟩
 ·rw[Ln];intro x hx;obtain⟨z,_,rfl⟩:=KA.mp hx;rfl
 have two:(Y.eF (L2.T.str (Str.ofString "goal")) ((r.fC.map Pk.kd).map L2.T.str)=false/\aT r=none)\/(Y.eF (L2.T.str (Str.ofString "goal")) ((r.fC.map Pk.kd).map L2.T.str)=true/\bw (.str r.wd::r.fC.map Pk.t) (-1)=some (oI (aT r))):=by
  cases r with
  |put b n=>exact .inl ⟨show Y.eF (L2.T.str (Str.ofString "goal")) [L2.T.str (Str.ofString "box"),L2.T.str (Str.ofString "number")]=false by decide +kernel,rfl⟩
  |two u a b=>exact .inl ⟨show Y.eF (L2.T.str (Str.ofString "goal")) [L2.T.str (Str.ofString "box"),L2.T.str (Str.ofString "box")]=false by decide +kernel,rfl⟩
  |one u b=>exact .inl ⟨show Y.eF (L2.T.str (Str.ofString "goal")) [L2.T.str (Str.ofString "box")]=false by decide +kernel,rfl⟩
  |jump g=>exact .inr ⟨show Y.eF (L2.T.str (Str.ofString "goal")) [L2.T.str (Str.ofString "goal")]=true by decide +kernel,rfl⟩
  |zero b g=>exact .inr ⟨show Y.eF (L2.T.str (Str.ofString "goal")) [L2.T.str (Str.ofString "box"),L2.T.str (Str.ofString "goal")]=true by decide +kernel,rfl⟩
  |halt=>exact .inl ⟨show Y.eF (L2.T.str (Str.ofString "goal")) []=false by decide +kernel,rfl⟩
 rcases two with ⟨n1,n2⟩|⟨n1,n2⟩
 ·rw[n1,JZ (by decide)]
  rw[n2] at q;exact q
 ·rw[n1,Ke rfl,n2];exact q
noncomputable def rK:dE:=fun args Q=>∃ rs:List Row,args=[.tup (rT rs)]/\rs.length<=60/\Q (.tr (.tup (nO (rs.map aT)))) []
theorem uJ(T:Txt K mg)(F:HasFn K mg "_law_goals" cO ["program"]):ae P w K mg base aU 1 "_law_goals" ["program"] (spT K [false] rK):=by
 refine F.fG kx [false] rfl (by decide) ?_;left;obtain⟨rs,rfl,h60,q⟩:=h;refine⟨_,(Y.aA (Y.ret (Y.ct (Y.bM K rfl) Y.bZ rfl T.cu (by decide +kernel) (Y.cons (Y.iD (osc:=aa cO) (ON:=["program"]) (own:=["row"]) (N:=["row","program"]) ⟨rfl,by decide +kernel,rfl,by decide +kernel,by decide +kernel,by decide +kernel,by decide +kernel,by decide +kernel⟩ rfl rfl rfl rfl (Y.anyS K rfl (Y.vS 0)) (fun _ _ _ _=>(Z.aG (i:=0) (show List.Nodup (["row","program"]:List Str) by decide +kernel) rfl (by right))) (fun _ _ _ _=>Y.rF) (fun _ _ _ _=>(Y.CW (Y.aV (Y.j8 K rfl) Y.lP (Y.ix (Y.aD K rfl) Y.ai (Y.vS 0) Y.int) (Y.tup (Y.eC rfl rfl))) (Y.ix (Y.aD K rfl) Y.ai (Y.vS 0) (Y.neg Y.int)) Y.aC))) Y.nil)))),?_⟩
 rfl';refine bU (fun rest acc μ=>∃(done todo:List Row),done++todo=rs/\rest=rT todo/\acc=nO (done.map aT)/\μ=[.tr (.tup (rT rs))]) ⟨[],rs,rfl,rfl,rfl,rfl⟩ ?_ ?_
 ·rintro acc μ ⟨done,todo,e1,e2,rfl,rfl⟩;have e3:todo=[]:=Lq.mp e2.symm;subst e3;rw[Kw] at e1;subst e1;refine⟨trivial,?_⟩;rfl';exact q
 ·rintro t r acc μ M ⟨done,todo,e1,e2,rfl,rfl⟩ k
  cases todo with
  |nil=>cases e2
  |cons x todo =>
   obtain⟨rfl,rfl⟩:=List.cons.inj e2;have hd:done.length<=60:=by
    have:=K4 List.length e1;rw[JX] at this;lia
   refine⟨trivial,by rw[fj,JY];exact Kx hd (by decide),?_⟩
   have fin:M (nO (done.map aT)++[oI (aT x)]) [.tr (.tup (rT rs))]:=k _ _ ⟨done++[x],todo,by rw[<- e1];simp,rfl,by rw[Kt];unfold nO;rw[Kt];rfl,rfl⟩
   have two:(Y.eF (.str x.wd) [.str "jump",.str "zero"]=false/\aT x=none)\/(Y.eF (.str x.wd) [.str "jump",.str "zero"]=true/\bw (.str x.wd::x.fC.map Pk.t) (-1)=some (oI (aT x))):=by
    cases x with
    |put b n=>exact .inl ⟨show Y.eF (L2.T.str (Str.ofString "put")) _=false by decide +kernel,rfl⟩
    |two u a b=>exact .inl ⟨(by decide +kernel:∀ u,Y.eF (.str (w2 u)) [.str "jump",.str "zero"]=false) u,rfl⟩
    |one u b=>exact .inl ⟨(by decide +kernel:∀ u,Y.eF (.str (w1 u)) [.str "jump",.str "zero"]=false) u,rfl⟩
    |jump g=>exact .inr ⟨show Y.eF (L2.T.str (Str.ofString "jump")) _=true by decide +kernel,rfl⟩
    |zero b g=>exact .inr ⟨show Y.eF (L2.T.str (Str.ofString "zero")) _=true by decide +kernel,rfl⟩
    |halt=>exact .inl ⟨show Y.eF (L2.T.str (Str.ofString "halt")) _=false by decide +kernel,rfl⟩
   rw[Row.uS];rcases two with ⟨n1,n2⟩|⟨n1,n2⟩
   ·exists n1;rw[n2] at fin;exact⟨by decide,rfl,rfl,fin⟩
   ·exists n1,n2;exact⟨by decide,rfl,rfl,fin⟩
noncomputable def Jp:Option Nat->Option Nat->Prop
 |none,none=>True
 |some a,some b=>a<=b
 |_,_=>False
noncomputable def Eo(ws zs:List (Option Nat)):Prop:=ws.length=zs.length/\∀(j:Nat) (w z:Option Nat),ws[j]?=some w->zs[j]?=some z->Jp w z
theorem xT{w z:Option Nat}(h:Jp w z):gy w<=gy z:=by
 cases w with
 |none=>cases z with
  |none=>exact MV _
  |some b=>exact h.elim
 |some a=>cases z with
  |none=>exact h.elim
  |some b =>
   have hab:a<=b:=h
   match a,b,hab with
   |0,0,_=>decide
   |0,1,_=>decide
   |0,(n+2),_=>show (5:Int)<=18;decide
   |1,1,_=>decide
   |1,(n+2),_=>show (10:Int)<=18;decide
   | (m+2),(n+2),_=>exact MV _
theorem wA(w:Option Nat):0<=gy w:=by
 match w with
 |none=>decide
 |some 0=>decide
 |some 1=>decide
 |some (n+2)=>show (0:Int)<=18;decide
theorem mF:∀(ss:List Int) (ws:List (Option Nat)) (a:Int) (i:Nat) (s:Int) (w:Option Nat),ss[i]?=some s->ws[i]?=some w->(a::wZ ss ws a).getD (i+1) 0=(a::wZ ss ws a).getD i 0+s+gy w
 |s::ss,w::ws,a,0,s',w',h1,h2=>by
  simp at h1 h2;subst h1;subst h2;rfl
 |s::ss,w::ws,a,i+1,s',w',h1,h2=>by
  have:=mF ss ws (a+s+gy w) i s' w' (by simpa using h1) (by simpa using h2)
  show (wZ (s::ss) (w::ws) a).getD (i+1) 0=(wZ (s::ss) (w::ws) a).getD i 0+s'+gy w';exact this
 |[],_,_,_,_,_,h,_=>by simp at h
 |_::_,[],_,_,_,_,_,h=>by simp at h
theorem mw(hn:∀ x∈ss,0<=x)(h1:ws.length=ss.length)(h:Eo ws zs)(i:Nat):∀ d:Nat,i+d<=ss.length ->
  0<=(aF ss ws).getD (i+d) 0-(aF ss ws).getD i 0/\(aF ss ws).getD (i+d) 0-(aF ss ws).getD i 0<=(aF ss zs).getD (i+d) 0-(aF ss zs).getD i 0
 |0,_=>by simp
 |d+1,hd=>by
  obtain⟨a1,a2⟩:=mw hn h1 h i d (by lia)
  have hs:=JV (show i+d<ss.length by lia)
  have hw:=JV (show i+d<ws.length by lia)
  have hz:=JV (show i+d<zs.length by rw[<- h.1];lia)
  have e1:=mF ss ws 0 (i+d) _ _ hs hw;have e2:=mF ss zs 0 (i+d) _ _ hs hz;have e3:=xT (h.2 _ _ _ hw hz);have e4:=wA ws[i+d];have e5:=hn _ (K3 (show i+d<ss.length by lia))
  unfold aF at a1 a2 ⊢;rw[<- NK,e1,e2]
  constructor<;>lia
theorem v7(hn:∀ x∈ss,0<=x)(h1:ws.length=ss.length)(h:Eo ws zs){g:Nat}(hg:g<=ss.length)(hj:j+1<=ss.length)
  (hb:gA ((aF ss ws).getD g 0-(aF ss ws).getD (j+1) 0) k=false):gA ((aF ss zs).getD g 0-(aF ss zs).getD (j+1) 0) k=false:=by
 have hh:0<gq k:=by
  match k with
  |0=>decide
  |1=>decide
  |n+2=>show (0:Int)<32768;decide
 unfold gA at hb ⊢;rw[Bool.and_eq_false_iff,MP,MP] at hb ⊢;rcases Nat.le_total (j+1) g with c|c
 ·obtain⟨d,rfl⟩:∃ d,g=j+1+d:=⟨g-(j+1),by lia⟩
  obtain⟨a1,a2⟩:=mw hn h1 h (j+1) d hg;rcases hb with hb|hb
  ·lia
  ·exact .inr (by lia)
 ·obtain⟨d,hd⟩:∃ d,j+1=g+d:=⟨j+1-g,by lia⟩
  rw[hd] at hb ⊢;obtain⟨a1,a2⟩:=mw hn h1 h g d (by lia)
  rcases hb with hb|hb
  ·exact .inl (by lia)
  ·lia
theorem kO(gz:goodW ss gs zs=true){g:Nat}(hj:j<ss.length)(eg:gs[j]?=some (some g))(ek:zs[j]?=some (some k)):gA ((aF ss zs).getD g 0-(aF ss zs).getD (j+1) 0) k=true:=by
 unfold goodW dQ at gz;rw[NZ,List.find?_eq_none] at gz;have:=gz j (by simp;lia)
 unfold dv at this;rw[eg,ek] at this
 simpa using this
theorem lR(hn:∀ x∈ss,0<=x)(gz:GW ss gs zs)(good:goodW ss gs zs=true):∀(f:Nat) (ws:List (Option Nat)) (ps:List Int),GW ss gs ws->lefW ws<f->Eo ws zs->∃ ws' ps',nL ss gs f ws ps=some (ws',ps')/\Eo ws' zs
 |0,ws,ps,_,h,_=>by lia
 |f+1,ws,ps,gw,h,le=>by
  unfold nL
  cases c:dQ (aF ss ws) gs ws ss.length 0 with
  |none=>exact⟨ws,ps,rfl,le⟩
  |some j =>
   obtain⟨hb,hj⟩:=iy c;obtain⟨g,k,eg,ek,k3⟩:=jr gw c;obtain⟨hg,k',ek'⟩:=gz.go j g eg;have hkk:k<=k':=le.2 j _ _ ek ek';have hk3:=gz.w3.at ek';have hnf:gA ((aF ss ws).getD g 0-(aF ss ws).getD (j+1) 0) k=false:=by
    unfold dv at hb;rw[eg,ek] at hb
    simpa using hb
   have hne:k≠k':=fun z=>by
    subst z;have h1:=v7 hn gw.lw le hg (by lia) hnf
    rw[kO good hj eg ek'] at h1;cases h1
   simp only[ek];rw[JZ (by lia)]
   refine lR hn gz good f _ _ (gw.set (by lia) ek) ?_ ⟨by rw[K_];exact le.1,fun i w z e1 e2=>?_⟩
   ·have:=jO ek (by lia);lia
   ·by_cases q:j=i
    ·subst q;rw[KH (Kf.mp ek).1] at e1;cases e1;rw[ek'] at e2;cases e2;show k+1<=k';lia
    ·rw[KU q] at e1;exact le.2 i w z e1 e2
noncomputable def yP(gs zs:List (Option Nat)):Prop:=zs.map Option.isSome=gs.map Option.isSome
theorem Dl(h:yP gs zs):Eo (kT gs) zs:=by
 have hl:zs.length=gs.length:=by have:=K4 List.length h;simpa using this
 refine⟨by unfold kT;rw[JY,hl],fun j w z e1 e2=>?_⟩
 unfold kT at e1;rw[Kg] at e1;have hj:(zs.map Option.isSome)[j]?=(gs.map Option.isSome)[j]?:=by rw[show zs.map Option.isSome=gs.map Option.isSome from h]
 rw[Kg,Kg,e2] at hj
 cases c:gs[j]? with
 |none=>rw[c] at e1;cases e1
 |some g =>
  rw[c] at e1 hj;cases e1;have hz:z.isSome=g.isSome:=by simpa using hj
  cases g with
  |none=>cases z with
   |none=>trivial
   |some b=>cases hz
  |some g=>cases z with
   |none=>cases hz
   |some b=>exact KN _
theorem uM(hn:∀ x∈ss,0<=x)(hgl:gs.length=ss.length)(hle:ss.length<=60)(hgo:∀(j g:Nat),gs[j]?=some (some g)->g<=ss.length)(gz:GW ss gs zs)(hp:yP gs zs)(good:goodW ss gs zs=true):
  ∃ ws ps,iU ss gs=some (ws,ps)/\Eo ws zs:=lR hn gz good _ _ _ (qy hgl hle hgo) (Oe _) (Dl hp)
noncomputable def CF(ss:List Int)(gs ws:List (Option Nat))(n:Nat):List Nat:=(List.range n).filter (dv (aF ss ws) gs ws)
theorem zL(ek:ws[j]?=some (some k)):(ws.set j (some (k+1))).map Option.isSome=ws.map Option.isSome:=by
 have hp:=(Kf.mp ek).1;rw[Ot];refine LC fun i=>?_;by_cases z:j=i
 ·subst z;rw[KH (by simpa using hp),Kg,ek];rfl
 ·rw[KU z]
theorem A0(gs:List (Option Nat)):(kT gs).map Option.isSome=gs.map Option.isSome:=by
 unfold kT;rw[LA];refine Mo fun g _=>?_
 cases g<;>rfl
theorem me(h:CF ss gs ws ss.length=[]):goodW ss gs ws=true:=by
 unfold goodW dQ;rw[NZ,List.find?_eq_none];intro j hj;unfold CF at h;rw[OI] at h;exact h j (by simp at hj ⊢;lia)
theorem wO:∀(f:Nat) (ws:List (Option Nat)) (ps:List Int) {ws':List (Option Nat)} {ps':List Int},GW ss gs ws->yP gs ws->nL ss gs f ws ps=some (ws',ps')->GW ss gs ws'/\yP gs ws'/\goodW ss gs ws'=true
 |0,ws,ps,ws',ps',_,_,h=>by cases h
 |f+1,ws,ps,ws',ps',gw,hw,h=>by
  unfold nL at h
  cases c:dQ (aF ss ws) gs ws ss.length 0 with
  |none =>
   rw[c] at h;cases h;exact⟨gw,hw,by unfold goodW;rw[c];rfl⟩
  |some j =>
   rw[c] at h;obtain⟨g,k,eg,ek,k3⟩:=jr gw c;simp only[ek] at h;by_cases k2:k=2
   ·rw[Ke k2] at h;cases h
   ·rw[JZ k2] at h;exact wO f _ _ (gw.set (by lia) ek) ((zL ek).trans hw) h
theorem qL{ps:List Int}(hgl:gs.length=ss.length)(hle:ss.length<=60)(hgo:∀(j g:Nat),gs[j]?=some (some g)->g<=ss.length)(h:iU ss gs=some (ws,ps)):GW ss gs ws/\yP gs ws/\goodW ss gs ws=true:=wO _ _ _ (qy hgl hle hgo) (A0 gs) h
theorem Eg(w:Option Nat):gy w<=18:=by
 unfold gy
 split<;>decide
theorem x9:∀(ss:List Int) (ws:List (Option Nat)) (a:Int),(∀ x∈ss,0<=x/\x<=150)->∀ v∈wZ ss ws a,a<=v/\v<=a+168*(ss.length:Int)
 |[],_,_,_,v,h=>by cases h
 |s::ss,[],_,_,v,h=>by cases h
 |s::ss,w::ws,a,hs,v,h=>by
  have h1:=hs s Kk;have h2:=wA w;have h3:=Eg w;rcases Ki.mp h with rfl|h
  ·rw[Kj];lia
  ·have:=x9 ss ws _ (fun x hx=>hs x (Kh _ hx)) v h;rw[Kj];lia
theorem mY(hs:∀ x∈ss,0<=x/\x<=150)(hl:ss.length<=60)(i:Nat):0<=(aF ss ws).getD i 0/\(aF ss ws).getD i 0<=10080:=by
 have key:∀ v∈aF ss ws,0<=v/\v<=10080:=fun v hv=>by
  rcases Ki.mp hv with rfl|hv
  ·decide
  ·have:=x9 ss ws 0 hs v hv;lia
 rw[Kd]
 cases c:(aF ss ws)[i]? with
 |none=>decide
 |some v=>exact key v (KW c)
theorem yL{ws:List (Option Nat)}(hs:∀ x∈ss,0<=x/\x<=150)(hl:ss.length<=60)(i j:Nat):gA ((aF ss ws).getD i 0-(aF ss ws).getD j 0) 2=true:=by
 have h1:=mY (ws:=ws) hs hl i;have h2:=mY (ws:=ws) hs hl j;unfold gA;rw[KY (show -gq 2<=_ by show -32768<=_;lia),KY (show _<gq 2 by show _<32768;lia)]
 rfl
noncomputable def wide(gs:List (Option Nat)):List (Option Nat):=gs.map (Option.map fun _=>2)
theorem res_some(hs:∀ x∈ss,0<=x/\x<=150)(hgl:gs.length=ss.length)(hle:ss.length<=60)(hgo:∀(j g:Nat),gs[j]?=some (some g)->g<=ss.length):∃ ws ps,iU ss gs=some (ws,ps):=by
 have at_:∀(j:Nat) (w:Option Nat),(wide gs)[j]?=some w->∃ g,gs[j]?=some g/\w=g.map fun _=>2:=fun j w h=>by
  unfold wide at h;rw[Kg] at h
  cases c:gs[j]? with
  |none=>rw[c] at h;cases h
  |some g=>rw[c] at h;cases h;exact⟨g,rfl,rfl⟩
 have gz:GW ss gs (wide gs):=by
  refine⟨hgl,by unfold wide;rw[JY,hgl],hle,fun w hw k e=>?_,fun j g e=>⟨hgo j g e,2,?_⟩⟩
  ·obtain⟨g,_,rfl⟩:=KA.mp hw
   cases g with
   |none=>cases e
   |some g=>cases e;exact (by decide:2<3)
  ·unfold wide;rw[Kg,e];rfl
 have hp:yP gs (wide gs):=by
  unfold yP wide;rw[LA];refine Mo fun g _=>?_
  cases g<;>rfl
 have good:goodW ss gs (wide gs)=true:=by
  refine me ?_;unfold CF;rw[OI];intro j _ hb;unfold dv at hb
  split at hb
  ·rename_i g k eg ek;obtain⟨g',e1,e2⟩:=at_ j _ ek;rw[eg] at e1;cases e1;cases e2;rw[yL hs hle] at hb;cases hb
  ·cases hb
 obtain⟨ws,ps,e,_⟩:=uM (fun x hx=>(hs x hx).1) hgl hle hgo gz hp good;exact⟨ws,ps,e⟩
noncomputable def iA(P:List Int)(gs ws:List (Option Nat))(i:Nat):List Nat:=match gs.getD i none,ws.getD i none with
 |some g,some k=>cP k (P.getD g 0-P.getD (i+1) 0)
 |_,_=>[]
noncomputable def cV(P:List Int)(gs ws:List (Option Nat))(hs:List (List Nat))(n:Nat):List Nat:=(List.range n).flatMap fun j=>hs.getD j []++iA P gs ws j
theorem eO(P:List Int)(gs ws:List (Option Nat))(hs:List (List Nat))(n:Nat):cV P gs ws hs (n+1)=cV P gs ws hs n++(hs.getD n []++iA P gs ws n):=by
 unfold cV;rw[Mz,List.flatMap_append];simp
theorem xx(h:k<3)(d:Int):(cP k d).length<=18:=by
 unfold cP;rw[JX,bK];rcases (show k=0\/k=1\/k=2 by lia) with rfl|rfl|rfl<;>decide
noncomputable def aE(hs:List (List Nat)):List Int:=hs.map fun x=>(x.length:Int)
noncomputable def ny:dE:=fun args Q=>∃(ss:List Int) (gs ws:List (Option Nat)) (ps:List Int) (t1 t2:L2.T),args=[t1,t2]/\(t1=.tup (nI ss)\/t1=.lst (nI ss))/\(t2=.tup (nO gs)\/t2=.lst (nO gs))/\gs.length=ss.length/\ss.length<=60/\(∀(j g:Nat),gs[j]?=some (some g)->g<=ss.length)/\iU ss gs=some (ws,ps)/\Q (.tr (.tup (nO ws))) []
structure Ea (rs:List Row) (cd:List (List (List Nat))):Prop where
 le:rs.length<=60
 ok:∀ r∈rs,r.Ok rs.length
 cd:Cd cd
theorem Ea.sz{rs:List Row}{cd:List (List (List Nat))}(h:Ea rs cd):∀ x∈aE (rs.map (aN cd)),0<=x/\x<=150:=fun x hx=>by
 obtain⟨y,hy,rfl⟩:=KA.mp hx;obtain⟨r,hr,rfl⟩:=KA.mp hy;have:=jP h.cd (h.ok r hr);unfold aN;rw[JX];lia
theorem Ea.go{rs:List Row}{cd:List (List (List Nat))}(h:Ea rs cd):∀(j g:Nat),(rs.map aT)[j]?=some (some g)->g<=(aE (rs.map (aN cd))).length:=fun j g e=>by
 unfold aE;rw[JY,JY];rw[Kg] at e
 cases c:rs[j]? with
 |none=>rw[c] at e;cases e
 |some r =>
  rw[c] at e;have hk:=h.ok r (KW c)
  cases r with
  |jump g'=>cases e;exact hk
  |zero b g'=>cases e;exact hk.2
  |_=>cases e
noncomputable def BE:dE:=fun args Q=>∃(rs:List Row) (bk:List (List Int)) (ws:List (Option Nat)) (ps:List Int),args=[.tup (rT rs),yE bk]/\Bk bk/\Ea rs (cW bk)/\iU (aE (rs.map (aN (cW bk)))) (rs.map aT)=some (ws,ps)/\Q (.tr (.tup [.str (wd (cV (aF (aE (rs.map (aN (cW bk)))) ws) (rs.map aT) ws (rs.map (aN (cW bk))) rs.length)),.tup (nI (aF (aE (rs.map (aN (cW bk)))) ws).dropLast)])) []
abbrev k19z(P w K mg base):=ae P w K mg base aU 5 "least_widths" ["sizes","goals"] (spT K [false,false] ny)
abbrev k21z(P w K mg base):=ae P w K mg base aU 7 "pack_rows" ["program","book"] (spT K [false,false] BE)
theorem zt(T:Txt K mg)(F:HasFn K mg "pack_rows" bW ["program","book"])(hcodes_of:ae P w K mg base aU 6 "codes_of" ["book"] (spT K [false] vk))(hbits_ahead_of_goal:k16z P w K mg base)(hgoal_of:ae P w K mg base aU 1 "goal_of" ["row"] (spT K [false] B9))(hcalm_least_widths:k19z P w K mg base)
  (hrow_starts:k5z P w K mg base) (hdistance_of:k2z P w K mg base) (hjump_written:k17z P w K mg base):k21z P w K mg base:=by
 refine F.fG aW [false,false] rfl (by decide) ?_;left;obtain⟨rs,bk,ws,ps,rfl,hB,hP,hres,q⟩:=h;refine⟨_,(Y.af (Y.FO (i:=2) aW.nd rfl (by right) (Y.fn K rfl hcodes_of (hr.mono (by decide)) rfl ax (Y.cons (Y.vS 1) Y.nil)))
   (Y.af (Y.qj (j:=3) aW.nd rfl (by right) (osc:=aa bW) (ON:=["program","book","codes","firsts","sizes","goals","widths","starts","bits","row","first"]) (own:=["row"]) (N:=["row","program","book","codes","firsts","sizes","goals","widths","starts","bits",".row","first"]) ⟨rfl,by decide +kernel,rfl,by decide +kernel,by decide +kernel,by decide +kernel,by decide +kernel,by decide +kernel⟩ rfl rfl rfl rfl (Y.anyS K rfl (Y.vS 0)) (fun _ _ _ _=>(Z.aG (i:=0) (show List.Nodup (["row","program","book","codes","firsts","sizes","goals","widths","starts","bits",".row","first"]:List Str) by decide +kernel) rfl (by right))) (fun _ _ _ _=>Y.rF) (fun _ _ _ _=>(Y.fn K rfl hbits_ahead_of_goal (hr.mono (by decide)) rfl ax (Y.cons (Y.vS 0) (Y.cons (Y.vS 3) Y.nil)))))
   (Y.af (Y.qj (j:=4) aW.nd rfl (by right) (osc:=aa bW) (ON:=["program","book","codes","firsts","sizes","goals","widths","starts","bits","row","first"]) (own:=["first"]) (N:=["first","program","book","codes","firsts","sizes","goals","widths","starts","bits","row",".first"]) ⟨rfl,by decide +kernel,rfl,by decide +kernel,by decide +kernel,by decide +kernel,by decide +kernel,by decide +kernel⟩ rfl rfl rfl rfl (Y.anyS K rfl (Y.vS 3)) (fun _ _ _ _=>(Z.aG (i:=0) (show List.Nodup (["first","program","book","codes","firsts","sizes","goals","widths","starts","bits","row",".first"]:List Str) by decide +kernel) rfl (by right))) (fun _ _ _ _=>Y.rF) (fun _ _ _ _=>(Y.cb (Y.aH K rfl) Y.bp rfl T.cI (by decide +kernel) (Y.cons (Y.vS 0) Y.nil))))
   (Y.af (Y.qj (j:=5) aW.nd rfl (by right) (osc:=aa bW) (ON:=["program","book","codes","firsts","sizes","goals","widths","starts","bits","row","first"]) (own:=["row"]) (N:=["row","program","book","codes","firsts","sizes","goals","widths","starts","bits",".row","first"]) ⟨rfl,by decide +kernel,rfl,by decide +kernel,by decide +kernel,by decide +kernel,by decide +kernel,by decide +kernel⟩ rfl rfl rfl rfl (Y.anyS K rfl (Y.vS 0)) (fun _ _ _ _=>(Z.aG (i:=0) (show List.Nodup (["row","program","book","codes","firsts","sizes","goals","widths","starts","bits",".row","first"]:List Str) by decide +kernel) rfl (by right))) (fun _ _ _ _=>Y.rF) (fun _ _ _ _=>(Y.fn K rfl hgoal_of (hr.mono (by decide)) rfl ax (Y.cons (Y.vS 0) Y.nil))))
   (Y.af (Y.set (i:=6) aW.nd rfl (by right) (Y.fn K rfl hcalm_least_widths (hr.mono (by decide)) rfl ax (Y.cons (Y.vS 4) (Y.cons (Y.vS 5) Y.nil))))
   (Y.af (Y.FO (i:=7) aW.nd rfl (by right) (Y.fn K rfl hrow_starts (hr.mono (by decide)) rfl ax (Y.cons (Y.vS 4) (Y.cons (Y.vS 6) Y.nil))))
   (Y.af (Y.set (i:=8) aW.nd rfl (by right) (Y.lst Y.nil))
   (Y.af (Y.eU K9 rfl (Y.BA K rfl rfl T.fP (Y.cons (Y.vS 3) Y.nil)) (Y.iO (n:=2) K rfl rfl (Y.bD (Y.aG (i:=9) aW.nd rfl (by right)) (Y.bD (Y.aG (i:=10) aW.nd rfl (by right)) Y.fF))) (Y.af (Y.expr (Y.bm K rfl PySem.F.slot_list_append PySem.F.type_list_append bT Y.cq (Y.vS 8) (Y.cons (Y.vS 10) Y.nil)))
   (Y.aA (Y.eL (Y.aV ji Y.ja (Y.ix (Y.aD K rfl) Y.ai (Y.vS 5) (Y.vS 9)) Y.aC) (Y.aA (Y.expr (Y.bm K rfl PySem.F.slot_list_append PySem.F.type_list_append bT Y.cq (Y.vS 8) (Y.cons (Y.fn K rfl hjump_written (hr.mono (by decide)) rfl ax (Y.cons (Y.ix (Y.aD K rfl) Y.ai (Y.vS 6) (Y.vS 9)) (Y.cons (Y.fn K rfl hdistance_of (hr.mono (by decide)) rfl ax (Y.cons (Y.vS 7) (Y.cons (Y.vS 5) (Y.cons (Y.vS 9) Y.nil)))) Y.nil))) Y.nil)))) Y.bN))))
   (Y.aA (Y.ret (Y.tup (Y.cons (Y.sm K rfl PySem.F.slot_str_join PySem.F.type_str_join (Y.oF K rfl) Y.rd Y.str (Y.cons (Y.vS 8) Y.nil)) (Y.cons (Y.ct (Y.bM K rfl) Y.bZ rfl T.cu (by decide +kernel) (Y.cons (Y.dS K rfl (Y.vS 7) Y.DF (Y.mT (Y.neg Y.int))) Y.nil)) Y.nil))))))))))))),?_⟩
 refine aq fun N hN=>?_;rfl';refine⟨bk,rfl,hB,?_⟩;rfl';ac_rfl;have hcd:=hB.cd;generalize cW bk=cd at *;obtain⟨ct,ect⟩:∃ ct,ct=L2.T.lst (cd.map fun ws=>L2.T.tup (wT ws)):=⟨_,rfl⟩;rw[<- ect];refine aq fun N hN=>?_;rfl';refine bU (fun rest acc μ=>∃(done todo:List Row),done++todo=rs/\rest=rT todo/\acc=wT (done.map (aN cd))/\μ=[.tr (.tup (rT rs)),.tr (yE bk),.tr ct,.un,.un,.un,.un,.un,.un,.un,.un]) ⟨[],rs,rfl,rfl,rfl,rfl⟩ ?_ ?_
 case refine_2 =>
  rintro t r acc μ M ⟨done,todo,e1,e2,rfl,rfl⟩ k
  cases todo with
  |nil=>cases e2
  |cons x todo =>
   obtain⟨rfl,rfl⟩:=List.cons.inj e2;have hd:done.length<=60:=by
    have:=K4 List.length e1;have:=hP.le;rw[JX] at *;lia
   refine⟨trivial,by rw[fE,JY];exact Kx hd (by decide),?_⟩
   rfl';refine⟨x,rs.length,cd,by rw[ect],hP.ok x (by rw[<- e1];simp),hcd,?_⟩
   rfl';refine k _ _ ⟨done++[x],todo,by rw[<- e1];simp,rfl,?_,rfl⟩
   rw[Kt];unfold wT;rw[Kt];rfl
 rintro acc μ ⟨done,todo,e1,e2,rfl,rfl⟩;have e3:todo=[]:=Lq.mp e2.symm;subst e3;rw[Kw] at e1;subst e1;refine⟨trivial,?_⟩;rfl';ac_rfl;have hsz:=hP.sz;have hgo:=hP.go;have h60:=hP.le;have hhl:(done.map (aN cd)).length=done.length:=JY ..;have hgl:(done.map aT).length=done.length:=JY ..;generalize ehs:done.map (aN cd)=hs at *;obtain⟨gs,egs⟩:∃ gs,gs=done.map aT:=⟨_,rfl⟩;rw[<- egs] at hgo hgl hres q;have hsl:(aE hs).length=done.length:=by unfold aE;rw[JY,hhl]
 refine aq fun N hN=>?_;rfl';refine bU (fun rest acc μ=>∃(d t:List (List Nat)),d++t=hs/\rest=wT t/\acc=nI (aE d)/\μ=[.tr (.tup (rT done)),.tr (yE bk),.tr ct,.tr (.lst (wT hs)),.un,.un,.un,.un,.un,.un,.un]) ⟨[],hs,rfl,rfl,rfl,rfl⟩ ?_ ?_
 case refine_2 =>
  rintro t r acc μ M ⟨d,td,e1,e2,rfl,rfl⟩ k
  cases td with
  |nil=>cases e2
  |cons x td =>
   obtain⟨rfl,rfl⟩:=List.cons.inj e2;have hd:d.length<=60:=by
    have:=K4 List.length e1;rw[JX] at this;lia
   have hx:x.length<=150:=by
    have:=hsz (x.length:Int) (KA.mpr ⟨x,by rw[<- e1];simp,rfl⟩)
    lia
   refine⟨trivial,by rw[bJ];unfold aE;rw[JY];exact Kx hd (by decide),?_⟩
   exists bE;refine⟨Kq (show _<=150 by lia) (by decide),k _ _ ⟨d++[x],td,by rw[<- e1];simp,rfl,?_,rfl⟩⟩
   unfold aE;rw[Kt,jm];rfl
 rintro acc μ ⟨d,td,e1,e2,rfl,rfl⟩;have e3:td=[]:=Lq.mp e2.symm;subst e3;rw[Kw] at e1;subst e1;refine⟨trivial,?_⟩;rfl';symm;rfl';refine bU (fun rest acc μ=>∃(x y:List Row),x++y=done/\rest=rT y/\acc=nO (x.map aT)/\μ=[.tr (.tup (rT done)),.tr (yE bk),.tr ct,.tr (.lst (wT d)),.tr (.lst (nI (aE d))),.un,.un,.un,.un,.un,.un]) ⟨[],done,rfl,rfl,rfl,rfl⟩ ?_ ?_
 case refine_2 =>
  rintro t r acc μ M ⟨x,y,e1,e2,rfl,rfl⟩ k
  cases y with
  |nil=>cases e2
  |cons z y =>
   obtain⟨rfl,rfl⟩:=List.cons.inj e2;have hd:x.length<=60:=by
    have:=K4 List.length e1;rw[JX] at this;lia
   refine⟨trivial,by rw[fj,JY];exact Kx hd (by decide),?_⟩
   rfl';refine⟨z,rfl,?_⟩;rfl';refine k _ _ ⟨x++[z],y,by rw[<- e1];simp,rfl,?_,rfl⟩
   rw[Kt];unfold nO;rw[Kt];rfl
 rintro acc μ ⟨x,y,e1,e2,rfl,rfl⟩;have e3:y=[]:=Lq.mp e2.symm;subst e3;rw[Kw] at e1;subst e1;refine⟨trivial,?_⟩;rw[<- egs];rfl';symm;rfl';obtain⟨gw,hpat,good⟩:=qL (hgl.trans hsl.symm) (by rw[hsl];exact h60) hgo hres
 refine⟨aE d,gs,ws,ps,_,_,rfl,.inr rfl,.inr rfl,hgl.trans hsl.symm,by rw[hsl];exact h60,hgo,hres,?_⟩
 rfl';symm;rfl';refine⟨aE d,ws,_,_,rfl,.inr rfl,.inl rfl,gw.lw.symm,gw.le,gw.w3,?_⟩;rfl';ac_rfl;obtain⟨Pl,ePl⟩:∃ Pl,Pl=aF (aE d) ws:=⟨_,rfl⟩;have hPl:Pl.length=x.length+1:=by rw[ePl,fI gw.lw.symm,hsl]
 rw[<- ePl] at q ⊢;refine aq fun N hN=>?_;rfl';symm;rfl';have hdl:d.length=x.length:=hhl;have hdx:∀ i,i<x.length->(d.getD i []).length<=150:=fun i hi=>by
  have h1:i<d.length:=by lia
  have:=hsz ((d.getD i []).length:Int) (KA.mpr ⟨d.getD i [],by rw[Kd,JV h1];exact K3 h1,rfl⟩)
  lia
 refine bz (fun rest μ=>∃(i:Nat) (xs:List (List Nat)) (o9 o10:Option L2.T),rest=(pairs (wT d)).drop i/\i<=x.length/\xs.flatten=cV Pl gs ws d i/\xs.length<=2*i/\xs.flatten.length<=200*i/\μ=[.tr (.tup (rT x)),.tr (yE bk),.tr ct,.tr (.lst (wT d)),.tr (.lst (nI (aE d))),.tr (.lst (nO gs)),.tr (.tup (nO ws)),.tr (.lst (nI Pl)),.bx (.lst (wT xs)),sl o9,sl o10]) ⟨0,[],none,none,rfl,KN _,rfl,Kc _,Kc _,rfl⟩ ?_ ?_
 ·rintro μ ⟨i,xs,o9,o10,e,hi,hfl,hxl,hxf,rfl⟩;have hi2:i=x.length:=by
   rcases KR i x.length with z|z
   ·rw[cX (x:=L2.T.str (wd d[i])) (by unfold wT;rw[Kg,JV (by lia)];rfl)] at e
    cases e
   ·lia
  subst hi2;show N _;ac_rfl;rfl';have ecut:Y.cg (nI Pl) none (some (-1))=nI Pl.dropLast:=by
   rw[yY];unfold Y.cg;rw[HT.gW,MO,Oh,OT];congr 2;show (if (-1:Int)<0 then ((-1:Int)+(Pl.length:Int)).toNat else min (-1:Int).toNat Pl.length)=_
   rw[Ke (by decide)]
   lia
  refine⟨xs.map wd,by unfold wT;rw[LA];rfl,?_,by decide,?_⟩
  ·have e:(xs.map wd).map (fun x=>x.length)=xs.map List.length:=by
    rw[LA];exact Mo fun x _=>bE x
   rw[e,<- List.length_flatten,ig,bE];simp only[K8,Nat.mul_zero];lia
  rw[nu,ecut,hfl];exact q
 ·rintro t ts μ M ⟨i,xs,o9,o10,e,hi,hfl,hxl,hxf,rfl⟩ k;have hi2:i<x.length:=by
   rcases KR i x.length with z|z
   ·exact z
   ·have:i=(wT d).length:=by rw[fE,hdl];lia
    rw[this,i5] at e;cases e
  have hid:i<d.length:=by lia
  have ed:d.getD i []=d[i]:=by rw[Kd,JV hid];rfl
  rw[cX (x:=L2.T.str (wd (d.getD i []))) (by unfold wT;rw[Kg,JV hid,ed];rfl)] at e
  obtain⟨rfl,rfl⟩:=List.cons.inj e;clear e ed;have hx0:=hdx i hi2;generalize hy:d.getD i []=y0 at *;have eg:gs[i]?=some (gs.getD i none):=by rw[Kd,JV (by lia)];rfl
  have sz:∀ n:Nat,n<=200->n<sizeLine:=fun n h=>Kx h (by decide)
  have wa:∀(xs:List (List Nat)) (z:List Nat),wT xs++[L2.T.str (wd z)]=wT (xs++[z]):=fun xs z=>by unfold wT;rw[Kt];rfl
  have ag:=o_ eg;rfl';refine aq fun M2 h2=>?_;rfl';rw[wa,fE];refine⟨sz _ (by lia),?_⟩
  refine h2 _ ?_;clear h2 M2;have hls:=eO Pl gs ws d i;rw[hy] at hls;unfold iA at hls;generalize gs.getD i none=go at *
  cases go with
  |none =>
   exists ag,oI;refine k _ ⟨i+1,xs++[y0],some _,some _,rfl,hi2,?_,?_,?_,rfl⟩
   ·rw[hls,Mq,hfl];simp
   ·rw[JX,KL];lia
   ·rw[Mq,JX,Lk,Oj,Kw];lia
  |some g =>
   obtain⟨hg,kk,ek⟩:=gw.go i g eg;have k3:=gw.w3.at ek;have aw:=o_ ek;have ewd:ws.getD i none=some kk:=by rw[Kd,ek];rfl
   rw[ewd] at hls;have hj:=xx k3 (Pl.getD g 0-Pl.getD (i+1) 0);rw[hsl] at hg;exists ag,aw,oI;refine⟨Pl,gs,_,i,g,Pl.getD g 0,Pl.getD (i+1) 0,rfl,.inr rfl,eg,dn (by lia),dn (by lia),?_⟩
   rfl';refine⟨kk,_,rfl,k3,?_⟩;rfl';rw[wa,fE,JX];refine⟨sz _ (by simp;lia),?_⟩
   refine k _ ⟨i+1,xs++[y0]++[_],some _,some _,rfl,hi2,?_,?_,?_,rfl⟩
   ·rw[hls,Mq,Mq,hfl];simp
   ·rw[JX,JX,KL,KL];lia
   ·simp only[Mq,JX,Lk,Oj,Kw];lia
noncomputable def nK:dE:=fun args Q=>∃ s:L2.T,args=[s,.int 60,.int 9]/\fD s/\∀(rs:List Row) (s':L2.T),fD s'->rs.length<=60->(∀ r∈rs,r.Ok rs.length)->Q (.tr (.tup (rT rs))) [s']
abbrev k13z(P w K mg base):=ae P w K mg base aU 4 "_law_program" ["seed","most","words"] (spT K [true,false,false] nK)
theorem p8(T:Txt K mg)(F:HasFn K mg "_law_program" b_ ["seed","most","words"])(h_law_draw:k0z P w K mg base)(h_law_row:k15z P w K mg base):
  k13z P w K mg base:=by
 refine F.fG d3 [true,false,false] rfl (by decide) ?_;left;obtain⟨sd,rfl,hs,q⟩:=h;refine⟨_,(Y.af (Y.set (i:=3) d3.nd rfl (by right) (Y.fn K rfl h_law_draw (hr.mono (by decide)) rfl ax (Y.cons (Y.vS 0) (Y.cons Y.int Y.nil))))
   (Y.af (Y.eL (Y.aV (Y.b6 K rfl (Ks hu)) Y.cy (Y.fn K rfl h_law_draw (hr.mono (by decide)) rfl ax (Y.cons (Y.vS 0) (Y.cons Y.int Y.nil))) Y.int) (Y.aA (Y.set (i:=3) d3.nd rfl (by right) (Y.op cY Y.cw (Y.vS 1) (Y.fn K rfl h_law_draw (hr.mono (by decide)) rfl ax (Y.cons (Y.vS 0) (Y.cons (Y.op (Y.au K rfl) Y.av Y.int (Y.op Y.fS Y.cA (Y.vS 1) Y.int)) Y.nil)))))) Y.bN)
   (Y.aA (Y.ret (Y.ct (Y.bM K rfl) Y.bZ rfl T.cu (by decide +kernel) (Y.cons (Y.iD (osc:=aa b_) (ON:=["seed","most","words","many"]) (own:=["row"]) (N:=["row","seed","most","words","many"]) ⟨rfl,by decide +kernel,rfl,by decide +kernel,by decide +kernel,by decide +kernel,by decide +kernel,by decide +kernel⟩ rfl rfl rfl rfl (Y.jk rfl T.dm (Y.cons (Y.vS 3) Y.nil)) (fun _ _ _ _=>(Z.aG (i:=0) (show List.Nodup (["row","seed","most","words","many"]:List Str) by decide +kernel) rfl (by right))) (fun _ _ _ _=>Y.rF) (fun _ _ _ _=>(Y.fn K rfl h_law_row (hr.mono (by decide)) rfl ax (Y.cons (Y.vS 1) (Y.cons (Y.vS 4) (Y.cons (Y.vS 3) Y.nil)))))) Y.nil)))))),?_⟩
 refine aq fun N hN=>?_;rfl';refine⟨sd,9,rfl,hs,by decide,by decide,fun m s1 hs1 m0 m1=>?_⟩
 rfl';symm;rfl';refine⟨s1,5,rfl,hs1,by decide,by decide,fun v s2 hs2 v0 v1=>?_⟩
 have fin:∀(n:Nat) (s':L2.T),fD s'->n<=60->N [.pb s',.tr (.int 60),.tr (.int 9),.tr (.int (n:Int))]:=fun n s' hs' hn=>by
  ac_rfl;rfl';refine⟨by lia,by lia,?_⟩
  refine bU (fun rest acc μ=>∃(rs:List Row) (s4:L2.T),rest.length+rs.length=n/\acc=rT rs/\(∀ r∈rs,r.Ok n)/\fD s4/\μ=[.pb s4,.tr (.int 60),.tr (.int 9),.tr (.int (n:Int))]) ⟨[],s',by simp,rfl,(fun r hr=>by cases hr),hs',rfl⟩ ?_ ?_
  ·rintro acc μ ⟨rs,s4,e,rfl,aO,hs4,rfl⟩;refine⟨trivial,?_⟩;rfl';have e':rs.length=n:=by simpa using e
   exact q rs s4 hs4 (by lia) (by rw[e'];exact aO)
  ·rintro t r acc μ M ⟨rs,s4,e,rfl,aO,hs4,rfl⟩ k;rw[Kj] at e;refine⟨trivial,by rw[qM];exact Kx (show _<=60 by lia) (by decide),?_⟩
   rfl';refine⟨s4,n,rfl,hs4,by lia,fun rw' s5 hok5 hs5=>?_⟩
   rfl';refine k _ _ ⟨rs++[rw'],s5,by rw[JX,KL];lia,by unfold rT;rw[Kt];rfl,fun x hx=>?_,hs5,rfl⟩
   rcases KZ.mp hx with z|z
   ·exact aO x z
   ·rw[Ko.mp z];exact hok5
 by_cases a:v=0
 ·exists Ke a;refine⟨⟨by decide,by decide⟩,s2,1+60 / 2,rfl,hs2,by decide,by decide,fun d s3 hs3 d0 d1=>?_⟩
  obtain⟨n,hn⟩:∃ n:Nat,60-d=n:=⟨(60-d).toNat,by lia⟩
  exists hn;exact fin n s3 hs3 (by lia)
 ·obtain⟨n,rfl⟩:∃ n:Nat,m=n:=⟨m.toNat,by lia⟩
  exists JZ a;exact fin n s2 hs2 (by lia)
noncomputable def AX:dE:=fun args Q=>∃(s:L2.T) (m:Nat),args=[s,.int (m:Int),.int 20]/\fD s/\2<=m/\m<=17/\∀(ls:List Int) (s':L2.T),fD s'->ls.length=m->jx ls->ng ls=true->Q (.tr (.tup (nI ls))) [s']
noncomputable def nZ(l:List Nat):List Int:=l.map fun k:Nat=>(k:Int)
theorem d4(l:List Nat):(nZ l).length=l.length:=JY ..
theorem yq{l:List Nat}(h:Kr.ks 40 l<=2^40):ng (nZ l)=true:=by
 unfold ng KS nZ;rw[LA,show (Int.toNat ∘ fun k:Nat=>(k:Int))=id from funext fun k=>K6 k,List.map_id];exact KY h
structure Pt (l:List Nat):Prop where
 ks:Kr.ks 40 l=2^40
 le:∀ x∈l,x+1<=l.length
 one:l=[0]\/∀ x∈l,1<=x
theorem Pt.pos{l:List Nat}(h:Pt l):1<=l.length:=by
 cases l with
 |nil=>have:=h.ks;simp[Kr.ks] at this
 |cons=>simp
theorem Pt.next{l l3:List Nat}{a:Nat}(h:Pt l)(ha:a<l.length)(hl:l.length<=17)(hp:l3.Perm ((l[a]+1)::(l[a]+1)::l.eraseIdx a)):Pt l3/\l3.length=l.length+1:=by
 have hpm:(l[a]::l.eraseIdx a).Perm l:=by
  rw[Ms]
  conv=>rhs;rw[<- LU a l,<- OJ ha]
  exact Nd.symm
 have hle:=l.length_eraseIdx_of_lt ha;have hx:=h.le _ (K3 ha);have h3:l3.length=l.length+1:=by
  rw[hp.length_eq,Kj,Kj,hle];lia
 have mem:∀ y∈l3,y=l[a]+1\/y∈l.eraseIdx a:=fun y hy=>by
  rcases Ki.mp (hp.mem_iff.mp hy) with z|z
  ·exact .inl z
  ·rcases Ki.mp z with z|z
   ·exact .inl z
   ·exact .inr z
 have mem2:∀ y∈l.eraseIdx a,y∈l:=fun y hy=>hpm.mem_iff.mp (Kh _ hy);refine⟨⟨?_,fun y hy=>?_,.inr fun y hy=>?_⟩,h3⟩
 ·have e1:=Kr.hU (L:=40) hpm;rw[h.ks,Kr.ks] at e1;rw[Kr.hU hp,Kr.ks,Kr.ks];have e2:2^(40-l[a])=2*2^(40-(l[a]+1)):=by rw[show 40-l[a]=(40-(l[a]+1))+1 by lia,Ph];lia
  lia
 ·rw[h3];rcases mem y hy with rfl|z
  ·lia
  ·have:=h.le y (mem2 y z);lia
 ·rcases mem y hy with rfl|z
  ·lia
  ·rcases h.one with e|e
   ·subst e;have ha0:a=0:=by simpa using ha
    subst ha0;cases z
   ·exact e y (mem2 y z)
noncomputable def idx(n:Nat):List L2.T:=(List.range n).map fun k:Nat=>L2.T.int (k:Int)
theorem rM(n:Nat):(idx n).length=n:=by unfold idx;rw[JY,Ky]
abbrev k14z(P w K mg base):=ae P w K mg base aU 2 "_law_lengths" ["seed","many","most"] (spT K [true,false,false] AX)
theorem wX(T:Txt K mg)(F:HasFn K mg "_law_lengths" bI ["seed","many","most"])(h_law_draw:k0z P w K mg base):k14z P w K mg base:=by
 refine F.fG bg [true,false,false] rfl (by decide) ?_;left;obtain⟨sd,m,rfl,hsd,hm2,hm,q⟩:=h;refine⟨_,(Y.af (Y.set (i:=3) bg.nd rfl (by right) (Y.lst (Y.cons Y.int Y.nil)))
   (Y.af (Y.ki K9 (Y.aV oi Y.gp (Y.cb (Y.aH K rfl) Y.bp rfl T.cI (by decide +kernel) (Y.cons (Y.vS 3) Y.nil)) (Y.vS 1)) (Y.af (Y.Bf (j:=4) bg.nd rfl (by right) (osc:=aa bI) (ON:=["seed","many","most","found","short","at","one","longer"]) (own:=["k"]) (N:=["k","seed","many","most","found","short","at","one","longer"]) ⟨rfl,by decide +kernel,rfl,by decide +kernel,by decide +kernel,by decide +kernel,by decide +kernel,by decide +kernel⟩ rfl rfl rfl rfl (Y.jk rfl T.dm (Y.cons (Y.cb (Y.aH K rfl) Y.bp rfl T.cI (by decide +kernel) (Y.cons (Y.vS 3) Y.nil)) Y.nil)) (fun _ _ _ _=>(Z.aG (i:=0) (show List.Nodup (["k","seed","many","most","found","short","at","one","longer"]:List Str) by decide +kernel) rfl (by right))) (fun _ _ _ _=>(Y.Hw (Y.aV oi Y.gp (Y.ix (Y.aD K rfl) Y.ai (Y.vS 4) (Y.vS 0)) (Y.vS 3)))) (fun _ _ _ _=>(Y.vS 0)))
   (Y.af (Y.set (i:=5) bg.nd rfl (by right) (Y.ix (Y.aD K rfl) Y.ai (Y.vS 4) (Y.fn K rfl h_law_draw (hr.mono (by decide)) rfl ax (Y.cons (Y.vS 0) (Y.cons (Y.cb (Y.aH K rfl) Y.bp rfl T.cI (by decide +kernel) (Y.cons (Y.vS 4) Y.nil)) Y.nil)))))
   (Y.af (Y.set (i:=6) bg.nd rfl (by right) (Y.op (Y.au K rfl) Y.av (Y.bm K rfl PySem.F.slot_list_pop PySem.F.type_list_pop yr Y.vg (Y.vS 3) (Y.cons (Y.vS 5) Y.nil)) Y.int))
   (Y.af (Y.expr (Y.bm K rfl PySem.F.slot_list_append PySem.F.type_list_append bT Y.cq (Y.vS 3) (Y.cons (Y.vS 6) Y.nil)))
   (Y.aA (Y.expr (Y.bm K rfl PySem.F.slot_list_insert PySem.F.type_list_insert uI Y.ud (Y.vS 3) (Y.cons (Y.fn K rfl h_law_draw (hr.mono (by decide)) rfl ax (Y.cons (Y.vS 0) (Y.cons (Y.op (Y.au K rfl) Y.av (Y.cb (Y.aH K rfl) Y.bp rfl T.cI (by decide +kernel) (Y.cons (Y.vS 3) Y.nil)) Y.int) Y.nil))) (Y.cons (Y.vS 6) Y.nil))))))))))
   (Y.af (Y.set (i:=7) bg.nd rfl (by right) (Y.fn K rfl h_law_draw (hr.mono (by decide)) rfl ax (Y.cons (Y.vS 0) (Y.cons Y.int Y.nil))))
   (Y.af (Y.eL (Y.aV (Y.b6 K rfl (Ks hu)) Y.cy (Y.vS 7) Y.int) (Y.aA (Y.asg (Y.iD (osc:=aa bI) (ON:=["seed","many","most","found","short","at","one","longer"]) (own:=["one"]) (N:=["one","seed","many","most","found","short","at",".one","longer"]) ⟨rfl,by decide +kernel,rfl,by decide +kernel,by decide +kernel,by decide +kernel,by decide +kernel,by decide +kernel⟩ rfl rfl rfl rfl (Y.anyS K rfl (Y.vS 3)) (fun _ _ _ _=>(Z.aG (i:=0) (show List.Nodup (["one","seed","many","most","found","short","at",".one","longer"]:List Str) by decide +kernel) rfl (by right))) (fun _ _ _ _=>Y.rF) (fun _ _ _ _=>(Y.cb (tI rfl) Y.DK rfl T.ED (by decide +kernel) (Y.cons (Y.vS 3) (Y.cons (Y.op (Y.au K rfl) Y.av (Y.vS 0) (Y.fn K rfl h_law_draw (hr.mono (by decide)) rfl ax (Y.cons (Y.vS 1) (Y.cons Y.int Y.nil)))) Y.nil))))) (Y.aG (i:=3) bg.nd rfl (by right)))) Y.bN)
   (Y.aA (Y.ret (Y.ct (Y.bM K rfl) Y.bZ rfl T.cu (by decide +kernel) (Y.cons (Y.vS 3) Y.nil)))))))),?_⟩
 refine aq fun N hN=>?_;rfl';refine⟨by decide,?_⟩
 symm;refine⟨fun mm μ=>∃(l:List Nat) (s:L2.T) (o5 o6:Option L2.T) (b4:Sl),fD s/\Pt l/\l.length<=m/\nb (some b4)=True/\mm=m-l.length/\μ=[.pb s,.tr (.int (m:Int)),.tr (.int 20),.bx (.lst (nI (nZ l))),b4,sl o5,sl o6,.un],⟨_,[0],sd,none,none,.un,hsd,⟨by decide,by simp,.inl rfl⟩,by simp;lia,rfl,rfl,rfl⟩,?_⟩
 rintro mm μ ⟨l,s,o5,o6,b4,hs,hl,hlm,hb4,rfl,rfl⟩;by_cases c:(l.length:Int)<(m:Int)
 ·exists bJ,d4,Ke c;refine aq fun M2 h2=>?_;exists bJ,d4,hb4;refine⟨by lia,by lia,?_⟩
  rw[K6,Lw];refine bU (fun rest acc μ=>∃ i:Nat,i<=l.length/\(rest=(List.range' i (l.length-i)).map fun k:Nat=>L2.T.int (0+(k:Int)))/\acc=idx i/\μ=[.pb s,.tr (.int (m:Int)),.tr (.int 20),.bx (.lst (nI (nZ l))),b4,sl o5,sl o6,.un]) ⟨0,KN _,rfl,rfl,rfl⟩ ?_ ?_
  case refine_2 =>
   rintro t r acc μ M ⟨i,hi,e,rfl,rfl⟩ k;have hi2:i<l.length:=by
    have:=K4 List.length e;rw[JY,Lu,Kj] at this;lia
   rw[show l.length-i=(l.length-(i+1))+1 by lia,Lj,KD] at e
   obtain⟨rfl,rfl⟩:=List.cons.inj e;clear e;have hx:=hl.le _ (K3 hi2);have ea:bw (nI (nZ l)) (i:Int)=some (.int ((l[i]:Nat):Int)):=sk (bB (by unfold nZ;rw[Kg,JV hi2];rfl))
   refine⟨trivial,by rw[rM];exact Kx (show i<=20 by lia) (by decide),?_⟩
   rw[Ny];exists ea;rw[Ke (by lia)]
   refine k _ _ ⟨i+1,hi2,rfl,?_,rfl⟩;unfold idx;rw[Mz,Kt];rfl
  rintro acc μ ⟨i,hi,e,rfl,rfl⟩;have hi2:i=l.length:=by
   have:=K4 List.length e;rw[JY,Lu,K8] at this;lia
  subst hi2;refine⟨trivial,?_⟩;exists hb4;refine h2 _ ?_;clear h2 M2;refine aq fun M2 h2=>?_;exists rM;refine⟨s,l.length,rfl,hs,by have:=hl.pos;lia,by lia,fun v s2 hs2 v0 v1=>?_⟩
  obtain⟨a,rfl⟩:∃ a:Nat,v=a:=⟨v.toNat,by lia⟩
  have ha:a<l.length:=by lia
  have ea:bw (idx l.length) (a:Int)=some (.int (a:Int)):=bB (by unfold idx;rw[Kg,L0 ha];rfl)
  exists ea;refine h2 _ ?_;clear h2 M2;refine aq fun M2 h2=>?_;rfl';have six:seqIndex? (a:Int) (nI (nZ l)).length=some a:=by
   rw[bJ,d4];unfold seqIndex?
   simp;lia
  have enZ:(nI (nZ l))[a]?=some (.int ((l[a]:Nat):Int)):=by unfold nI nZ;rw[Kg,Kg,JV ha];rfl
  have eer:(nI (nZ l)).eraseIdx a=nI (nZ (l.eraseIdx a)):=by
   unfold nI nZ;simp only[Ms,Kt,NO,NP]
  refine⟨by lia,by lia,a,_,six,enZ,?_⟩
  rw[eer];rfl';refine h2 _ ?_;clear h2 M2;have hpm:(l[a]::l.eraseIdx a).Perm l:=by
   rw[Ms]
   conv=>rhs;rw[<- LU a l,<- OJ ha]
   exact Nd.symm
  have hle:=l.length_eraseIdx_of_lt ha;have hx:=hl.le _ (K3 ha);refine aq fun M2 h2=>?_;rfl';rw[bJ,d4];refine⟨Kx (show _<=20 by lia) (by decide),?_⟩
  have eap:nI (nZ (l.eraseIdx a))++[L2.T.int (((l[a]:Nat):Int)+1)]=nI (nZ (l.eraseIdx a++[l[a]+1])):=by unfold nI nZ;rw[Kt,Kt];rfl
  rw[eap];refine h2 _ ?_;clear h2 M2;exists bJ,d4;rw[JX,KL,hle];refine⟨s2,_,rfl,hs2,by lia,by lia,fun v s3 hs3 w0 w1=>?_⟩
  rfl';rw[bJ,d4];have eins:∀ n:Nat,gJ (nI (nZ (l.eraseIdx a++[l[a]+1]))) n (L2.T.int (((l[a]:Nat):Int)+1))=nI (nZ (gJ (l.eraseIdx a++[l[a]+1]) n (l[a]+1))):=fun n=>by
   unfold gJ nI nZ;simp only[Kt,NO,NP,KD];rfl
  rw[eins];have hpi:∀ n:Nat,(gJ (l.eraseIdx a++[l[a]+1]) n (l[a]+1)).Perm ((l[a]+1)::(l[a]+1)::l.eraseIdx a):=fun n=>by
   unfold gJ;refine Nd.trans ?_;rw[LU];exact List.Perm.cons _ List.perm_append_comm
  obtain⟨hP3,hL3⟩:=hl.next ha (by lia) (hpi (min v.toNat (l.eraseIdx a++[l[a]+1]).length))
  refine⟨by lia,by lia,Kx (show _<=20 by rw[JX,KL,hle];lia) (by decide),m-(l.length+1),by lia,_,s3,some (.int (a:Int)),some (.int (((l[a]:Nat):Int)+1)),_,hs3,hP3,by rw[hL3];lia,rfl,by rw[hL3],rfl⟩
 ·exists bJ,d4,JZ c;symm;rfl';have hlm2:l.length=m:=by lia
  have h1:∀ x∈l,1<=x:=by
   rcases hl.one with e|e
   ·exfalso;rw[e] at hlm2;simp at hlm2;lia
   ·exact e
  refine⟨s,3,rfl,hs,by decide,by decide,fun v s2 hs2 v0 v1=>?_⟩
  rfl';ac_rfl;have CQ:∀ ds:List Nat,ds.length=m->(∀ x∈ds,1<=x/\x<=20)->jx (nZ ds):=fun ds e hd=>⟨by rw[d4];lia,by rw[d4];lia,fun x hx=>by
   obtain⟨y,hy,rfl⟩:=KA.mp hx;have:=hd y hy
   lia⟩
  refine aq fun N hN=>?_;by_cases cv:v=0
  ·exists Ke cv;refine bU (fun rest acc μ=>∃(x y ds:List Nat) (s:L2.T),x++y=l/\rest=nI (nZ y)/\acc=nI (nZ ds)/\ds.length=x.length/\Kr.ks 40 ds<=Kr.ks 40 x/\(∀ z∈ds,1<=z/\z<=20)/\fD s/\μ=[.pb s,.tr (.int (m:Int)),.tr (.int 20),.bx (.lst (nI (nZ l))),b4,sl o5,sl o6,.tr (.int v)]) ⟨[],l,[],s2,rfl,rfl,rfl,rfl,Kc _,(fun z hz=>by cases hz),hs2,rfl⟩ ?_ ?_
   ·rintro acc μ ⟨x,y,ds,s,e1,e2,rfl,hdl,hks,hd,hs,rfl⟩;have e3:y=[]:=by
     cases y with
     |nil=>rfl
     |cons=>cases e2
    subst e3;rw[Kw] at e1;subst e1;refine⟨rfl,?_⟩;rfl';ac_rfl;rfl';exact q _ _ hs (by rw[d4,hdl,hlm2]) (CQ ds (by rw[hdl,hlm2]) hd) (yq (Kq hks (Pa hl.ks)))
   ·rintro t r acc μ M ⟨x,y,ds,s,e1,e2,rfl,hdl,hks,hd,hs,rfl⟩ k
    cases y with
    |nil=>cases e2
    |cons z y =>
     obtain⟨rfl,rfl⟩:=List.cons.inj e2;have hz:=h1 z (by rw[<- e1];simp)
     have hz2:=hl.le z (by rw[<- e1];simp)
     have hxl:x.length<=17:=by
      have:=K4 List.length e1;rw[JX] at this;lia
     refine⟨rfl,by rw[bJ,d4];exact Kx (show _<=20 by lia) (by decide),?_⟩
     rfl';refine⟨s,5,rfl,hs,by decide,by decide,fun u s3 hs3 u0 u1=>?_⟩
     obtain⟨uu,rfl⟩:∃ uu:Nat,u=uu:=⟨u.toNat,by lia⟩
     obtain⟨nz,enz,hnz⟩:∃ nz:Nat,(if ((z:Nat):Int)+(uu:Int)<20 then ((z:Nat):Int)+(uu:Int) else 20)=(nz:Int)/\z<=nz/\nz<=20:=by
      by_cases c:((z:Nat):Int)+(uu:Int)<20
      ·rw[Ke c];exact⟨z+uu,rfl,by lia,by lia⟩
      ·rw[JZ c];exact⟨20,rfl,by lia,by lia⟩
     exists enz;refine k _ _ ⟨x++[z],y,ds++[nz],s3,by rw[<- e1];simp,rfl,by unfold nI nZ;rw[Kt,Kt];rfl,by rw[JX,JX,hdl];rfl,?_,fun w hw=>?_,hs3,rfl⟩
     ·rw[Kr.bH,Kr.bH];have:2^(40-nz)<=2^(40-z):=Ma (by decide) (by lia)
      simp only[Kr.ks];lia
     ·rcases KZ.mp hw with z'|z'
      ·exact hd w z'
      ·rw[Ko.mp z'];lia
  ·exists JZ cv;ac_rfl;rfl';exact q _ _ hs2 (by rw[d4,hlm2]) (CQ l hlm2 fun x hx=>by have:=h1 x hx;have:=hl.le x hx;lia) (yq (Pa hl.ks))
theorem gg(l:List Nat)(a n:Nat):Y.eS (wd l) (some (a:Int)) (some ((a:Int)+(n:Int)))=wd ((l.drop a).take n):=by
 unfold Y.eS wd;congr 2;show Y.cg l (some (a:Int)) (some ((a:Int)+(n:Int)))=(l.drop a).take n;unfold Y.cg;rw[show ((a:Int)+(n:Int))=((a+n:Nat):Int) from rfl,HT.i_,HT.i_];rcases Nat.le_total a l.length with h|h
 ·rw[Nat.min_eq_left h,List.take_eq_take_iff,Mg];lia
 ·rw[Nat.min_eq_right h,MY (Kc _),MY h,List.take_nil,List.take_nil]
theorem pre_take{w:List Nat}(h:w <+: s):s.take w.length=w:=(O1.mp h).symm
theorem pF:wd a=wd b ↔ a=b:=⟨fun h=>by have:=K4 (fun s=>s.cps.toList) h;exact this,fun h=>by rw[h]⟩
theorem w8{w:List Nat}:s.take w.length=w ↔ w <+: s:=⟨fun h=>O1.mpr h.symm,pre_take⟩
noncomputable def pL:dE:=fun args Q=>∃(bits:List Nat) (at_ k:Nat) (ws:List (List Nat)) (hk:k<ws.length),args=[.str (wd bits),.int (at_:Int),.lst (wT ws)]/\bits.length<=20000/\ws.length<=20/\(∀ x∈ws,x.length<=40)/\ws[k] <+: bits.drop at_/\(∀ m (hm:m<k),¬ ws[m] <+: bits.drop at_)/\Q (.fr (.lst [.int (k:Int),.int ((at_+ws[k].length:Nat):Int)])) []
abbrev k3z(P w K mg base):=ae P w K mg base aU 1 "_law_thing" ["bits","at","code"] (spT K [false,false,false] pL)
theorem xU(T:Txt K mg)(F:HasFn K mg "_law_thing" d6 ["bits","at","code"]):k3z P w K mg base:=by
 refine F.fG gm [false,false,false] rfl (by decide) ?_;left;obtain⟨bits,at_,k,ws,hk,rfl,hbl,h20,h40,hp,hn,q⟩:=h;refine⟨_,(Y.af (Y.eU K9 rfl (Y.jk rfl T.dm (Y.cons (Y.cb (Y.aH K rfl) Y.bp rfl T.cI (by decide +kernel) (Y.cons (Y.vS 2) Y.nil)) Y.nil)) (Y.aG (i:=3) gm.nd rfl (by right)) (Y.aA (Y.eL (Y.aV (Y.b6 K rfl (Ks hu)) Y.cy (Y.dS K rfl (Y.vS 0) (Y.mT (Y.vS 1)) (Y.mT (Y.op (Y.au K rfl) Y.av (Y.vS 1) (Y.cb (Y.aH K rfl) Y.bp rfl T.cI (by decide +kernel) (Y.cons (Y.ix (Y.aD K rfl) Y.ai (Y.vS 2) (Y.vS 3)) Y.nil))))) (Y.ix (Y.aD K rfl) Y.ai (Y.vS 2) (Y.vS 3))) (Y.aA (Y.ret (Y.lst (Y.cons (Y.vS 3) (Y.cons (Y.op (Y.au K rfl) Y.av (Y.vS 1) (Y.cb (Y.aH K rfl) Y.bp rfl T.cI (by decide +kernel) (Y.cons (Y.ix (Y.aD K rfl) Y.ai (Y.vS 2) (Y.vS 3)) Y.nil))) Y.nil))))) Y.bN)))
   (Y.aA (Y.ret Y.aC))),?_⟩
 refine aq fun N hN=>?_;exists fE;refine⟨by lia,by lia,?_⟩
 rw[K6,Lw];refine bz (fun rest μ=>∃(i:Nat) (o3:Option L2.T),i<=k/\(rest=(List.range' i (ws.length-i)).map fun k:Nat=>L2.T.int (0+(k:Int)))/\μ=[.tr (.str (wd bits)),.tr (.int (at_:Int)),.tr (.lst (wT ws)),sl o3]) ⟨0,none,KN _,rfl,rfl⟩ ?_ ?_
 ·rintro μ ⟨i,o3,hi,e,rfl⟩
  exfalso
  have:=K4 List.length e;rw[JY,Lu,K8] at this;lia
 ·rintro t ts μ M ⟨i,o3,hi,e,rfl⟩ kk;have hi2:i<ws.length:=by lia
  rw[show ws.length-i=(ws.length-(i+1))+1 by lia,Lj,KD] at e
  obtain⟨rfl,rfl⟩:=List.cons.inj e;clear e;rw[Ny];have aw:bw (wT ws) (i:Int)=some (.str (wd ws[i])):=bB (by unfold wT;rw[Kg,JV hi2];rfl)
  have hx:=h40 _ (K3 hi2);exists aw,bE,gg;have sz:∀ n:Nat,n<=20000->n<=sizeLine:=fun n h=>Kq h (by decide)
  refine⟨sz _ (by lia),sz _ hbl,?_⟩
  rcases KR i k with c|c
  ·rw[JZ (fun h=>hn i c (w8.mp (pF.mp h)))];exact kk _ ⟨i+1,some _,c,rfl,rfl⟩
  ·have:i=k:=by lia
   subst this;rw[Ke (by rw[pre_take hp])]
   exact⟨sz _ (by lia),by decide,q⟩
noncomputable def pY:dE:=fun args Q=>∃ l:List Nat,args=[.str (wd l)]/\l.length<=40/\(∀ c∈l,c=48\/c=49)/\Q (.tr (.int (Cw.val l:Int))) []
abbrev k10z(P w K mg base):=ae P w K mg base aU 1 "_law_worth" ["bits"] (spT K [false] pY)
theorem xh(T:Txt K mg)(F:HasFn K mg "_law_worth" dA ["bits"]):k10z P w K mg base:=by
 refine F.fG dh [false] rfl (by decide) ?_;left;obtain⟨l,rfl,h40,hb,q⟩:=h;refine⟨_,(Y.af (Y.set (i:=1) dh.nd rfl (by right) Y.int)
   (Y.af (Y.eU K9 rfl (Y.Jw (Y.vS 0)) (Y.aG (i:=2) dh.nd rfl (by right)) (Y.aA (Y.set (i:=1) dh.nd rfl (by right) (Y.op (Y.au K rfl) Y.av (Y.op (Y.dB K rfl) Y.cJ Y.int (Y.vS 1)) (Y.ct gc Y.mW rfl T.rW (by decide +kernel) (Y.cons (Y.cmp (Y.b6 K rfl (Ks hu)) Y.cy (Y.vS 2) Y.str) Y.nil))))))
   (Y.aA (Y.ret (Y.vS 1))))),?_⟩
 refine aq fun N hN=>?_;rfl';symm;rfl';refine bz (fun rest μ=>∃(x y:List Nat) (o2:Option L2.T),x++y=l/\(rest=y.map fun c=>L2.T.str (wd [c]))/\μ=[.tr (.str (wd l)),.tr (.int (Cw.val x:Int)),sl o2]) ⟨[],l,none,rfl,rfl,rfl⟩ ?_ ?_
 ·rintro μ ⟨x,y,o2,e1,e2,rfl⟩;have e3:y=[]:=Lq.mp e2.symm;subst e3;rw[Kw] at e1;subst e1;show N _;ac_rfl;rfl';exact q
 ·rintro t ts μ M ⟨x,y,o2,e1,e2,rfl⟩ k
  cases y with
  |nil=>cases e2
  |cons c y =>
   obtain⟨rfl,rfl⟩:=List.cons.inj e2;have hc:=hb c (by rw[<- e1];simp)
   have ev:Cw.val (x++[c])=2*Cw.val x+(c-48):=by
    rw[Cw.fo];rcases hc with rfl|rfl
    ·simp[Cw.val];lia
    ·simp[Cw.val];lia
   have fin:M [.tr (.str (wd l)),.tr (.int (Cw.val (x++[c]):Int)),.tr (.str (wd [c]))]:=k _ ⟨x++[c],y,some _,by rw[<- e1];simp,rfl,rfl⟩
   rw[ev] at fin;have e49:∀ d:Nat,(wd [d]=Str.ofString "1")=(d=49):=fun d=>propext ⟨fun h=>by
    have:=pF.mp (h.trans (show Str.ofString "1"=wd [49] by decide +kernel))
    simpa using this,fun h=>by rw[h];decide +kernel⟩
   rcases hc with rfl|rfl
   ·exists e49;exact⟨.inl (by decide),fin⟩
   ·exists e49;exact⟨.inl (by decide),fin⟩
theorem j_(c:Nat)(l:List Nat)(h:c=48\/c=49):Cw.val (c::l)=(c-48)*2^l.length+Cw.val l:=by
 have:=Cw.fo [c] l;rw[List.singleton_append] at this;rw[this];rcases h with rfl|rfl<;>simp[Cw.val]
theorem val_last:∀(n:Nat) (d:Int) (acc:List Nat),(Cw.val (bu d n acc):Int)=d % 2^n*2^acc.length+(Cw.val acc:Int)
 |0,d,acc=>by
  rw[bu];have:d % 2^0=0:=by rw[MM,Int.emod_one]
  rw[this];lia
 |n+1,d,acc=>by
  rw[bu,val_last n,j_ _ _ (y9 d),Kj];have e1:((dg d-48:Nat):Int)=d % 2:=by
   unfold dg;have:0<=d % 2:=by lia
   lia
  have e2:d % 2^(n+1)=2*(d / 2 % 2^n)+d % 2:=by
   rw[Nx,Pj (2^n) 2];have h1:=Int.emod_emod_of_dvd d (show (2:Int) ∣ 2*2^n from⟨_,rfl⟩);have h2:d % (2*2^n) / 2=d / 2 % 2^n:=by
    rw[Int.emod_def,Int.emod_def,<- Int.ediv_ediv_of_nonneg (by decide)]
    have:d-2*2^n*(d / 2 / 2^n)=d+2*(-(2^n*(d / 2 / 2^n))):=by
     rw[Int.mul_neg,OZ];lia
    rw[this,Int.add_mul_ediv_left _ _ (by decide)]
    lia
   lia
  rw[Nz,Nu,e1,e2,Nv,Nx,Int.add_mul];have:d / 2 % 2^n*(2^acc.length*2)=2*(d / 2 % 2^n)*2^acc.length:=by
   rw[Pj 2 (d / 2 % 2^n),OZ,Pj 2]
  rw[this];show _+(d % 2*2^acc.length+_)=_;lia
noncomputable def EG:dE:=fun args Q=>∃(bits:List Nat) (at_ k:Nat) (d:Int) (r:List Nat),args=[.str (wd bits),.int (at_:Int)]/\bits.length<=20000/\k<3/\-gq k<=d/\d<gq k/\bits.drop at_=cP k d++r/\Q (.fr (.lst [.int (k:Int),.int d,.int ((at_+(cP k d).length:Nat):Int)])) []
abbrev k25z(P w K mg base):=ae P w K mg base aU 2 "_law_far" ["bits","at"] (spT K [false,false] EG)
theorem Co(T:Txt K mg)(F:HasFn K mg "_law_far" fu ["bits","at"])(h_law_worth:k10z P w K mg base):k25z P w K mg base:=by
 refine F.fG bY [false,false] rfl (by decide) ?_;left;obtain⟨bits,at_,k,d,r,rfl,hbl,k3,hd1,hd2,hdr,q⟩:=h;refine⟨_,(Y.af (Y.set (i:=2) bY.nd rfl (by right) Y.int)
   (Y.af (Y.eL (Y.aV (Y.b6 K rfl (Ks hu)) Y.cy (Y.dS K rfl (Y.vS 0) (Y.mT (Y.vS 1)) (Y.mT (Y.op (Y.au K rfl) Y.av (Y.vS 1) Y.int))) Y.str) (Y.aA (Y.set (i:=2) bY.nd rfl (by right) (Y.op (Y.au K rfl) Y.av Y.int (Y.ct gc Y.mW rfl T.rW (by decide +kernel) (Y.cons (Y.cmp (Y.b6 K rfl (Ks hu)) Y.cy (Y.dS K rfl (Y.vS 0) (Y.mT (Y.op (Y.au K rfl) Y.av (Y.vS 1) Y.int)) (Y.mT (Y.op (Y.au K rfl) Y.av (Y.vS 1) Y.int))) Y.str) Y.nil))))) Y.bN)
   (Y.af (Y.set (i:=1) bY.nd rfl (by right) (Y.op (Y.au K rfl) Y.av (Y.vS 1) (Y.ix (Y.aD K rfl) Y.ai (Y.lst (Y.eC rfl rfl)) (Y.vS 2))))
   (Y.af (Y.set (i:=3) bY.nd rfl (by right) (Y.ix (Y.aD K rfl) Y.ai (Y.lst (Y.eC rfl rfl)) (Y.vS 2)))
   (Y.af (Y.set (i:=4) bY.nd rfl (by right) (Y.fn K rfl h_law_worth (hr.mono (by decide)) rfl ax (Y.cons (Y.dS K rfl (Y.vS 0) (Y.mT (Y.vS 1)) (Y.mT (Y.op (Y.au K rfl) Y.av (Y.vS 1) (Y.vS 3)))) Y.nil)))
   (Y.af (Y.eL (Y.aV (Y.b6 K rfl (Ks hu)) Y.cy (Y.dS K rfl (Y.vS 0) (Y.mT (Y.vS 1)) (Y.mT (Y.op (Y.au K rfl) Y.av (Y.vS 1) Y.int))) Y.str) (Y.aA (Y.set (i:=4) bY.nd rfl (by right) (Y.op cY Y.cw (Y.vS 4) (Y.ix (Y.aD K rfl) Y.ai (Y.lst (Y.eC rfl rfl)) (Y.vS 2))))) Y.bN)
   (Y.aA (Y.ret (Y.lst (Y.cons (Y.vS 2) (Y.cons (Y.vS 4) (Y.cons (Y.op (Y.au K rfl) Y.av (Y.vS 1) (Y.vS 3)) Y.nil)))))))))))),?_⟩
 refine aq fun N hN=>?_;rfl';symm;have sz:bits.length<=sizeLine:=Kq hbl (by decide)
 have c1:Y.eS (wd bits) (some (at_:Int)) (some ((at_:Int)+1))=wd ((bits.drop at_).take 1):=gg bits at_ 1;have c2:Y.eS (wd bits) (some ((at_:Int)+1)) (some ((at_:Int)+2))=wd ((bits.drop (at_+1)).take 1):=by
  have:=gg bits (at_+1) 1;rw[show (((at_+1:Nat):Int)+((1:Nat):Int))=(at_:Int)+2 by lia] at this
  exact this
 have e49:∀ l:List Nat,(wd l=Str.ofString "1")=(l=[49]):=fun l=>propext ⟨fun h=>pF.mp (h.trans (show Str.ofString "1"=wd [49] by decide +kernel)),fun h=>by rw[h];decide +kernel⟩
 have hdr1:bits.drop (at_+1)=(cP k d++r).drop 1:=by rw[<- hdr,Me]
 have stepW:N [.tr (.str (wd bits)),.tr (.int (at_:Int)),.tr (.int (k:Int)),.un,.un]->Y.tm (Y.jF (Y.n8 (Y.ou (Y.Ei false)) (Y.uE (Y.eN 0) (Y.iE (Y.eN 1)) (Y.iE (Y.n8 Y.iI (Y.eN 1) (Y.uC (.int 1))))) (Y.uC (.str (Str.ofString "1"))))) (Y.jC (Y.n8 Y.iI (Y.uC (.int 1)) (Y.C5 Y.rH (Y.kJ (Y.n8 (Y.ou (Y.Ei false)) (Y.uE (Y.eN 0) (Y.iE (Y.n8 Y.iI (Y.eN 1) (Y.uC (.int 1)))) (Y.iE (Y.n8 Y.iI (Y.eN 1) (Y.uC (.int 2))))) (Y.uC (.str (Str.ofString "1")))) Y.pN))) (Y.gN 2)) (fun E μ=>E.nx μ) {nx:=N,rt:=(m6 [false,false] Qt).rt,bk:=(m6 [false,false] Qt).bk,ct:=(m6 [false,false] Qt).ct} [.tr (.str (wd bits)),.tr (.int (at_:Int)),.tr (.int 0),.un,.un]:=fun hNk=>by
  exists c1,c2,bE,e49,hdr,hdr1;refine⟨sz,?_⟩;rcases (show k=0\/k=1\/k=2 by lia) with rfl|rfl|rfl
  ·rw[JZ (by unfold cP cz;simp)]
   exact hNk
  ·rw[Ke (by unfold cP cz;simp),JZ (by unfold cP cz;simp)]
   exact⟨sz,hNk⟩
  ·rw[Ke (by unfold cP cz;simp),Ke (by unfold cP cz;simp)]
   exact⟨sz,hNk⟩
 refine stepW ?_;refine hN _ ?_;clear hN N stepW;have ah:bw [L2.T.int 1,L2.T.int 2,L2.T.int 2] (k:Int)=some (.int ((cz k).length:Nat)):=by
  rcases (show k=0\/k=1\/k=2 by lia) with rfl|rfl|rfl<;>rfl
 have as':bw [L2.T.int 4,L2.T.int 8,L2.T.int 16] (k:Int)=some (.int (fJ k:Nat)):=by
  rcases (show k=0\/k=1\/k=2 by lia) with rfl|rfl|rfl<;>rfl
 have aw:bw [L2.T.int 16,L2.T.int 256,L2.T.int 65536] (k:Int)=some (.int (2^fJ k)):=by
  rcases (show k=0\/k=1\/k=2 by lia) with rfl|rfl|rfl<;>rfl
 have s16:1<=fJ k/\fJ k<=16:=by
  rcases (show k=0\/k=1\/k=2 by lia) with rfl|rfl|rfl<;>decide
 have hh:gq k=2^(fJ k-1):=by
  rcases (show k=0\/k=1\/k=2 by lia) with rfl|rfl|rfl<;>decide
 have hdr2:bits.drop (at_+(cz k).length)=bu d (fJ k) []++r:=by
  rw[<- Me,hdr];unfold cP;rw[Ku,L6]
 have hjl:(cP k d).length=(cz k).length+fJ k:=by unfold cP;rw[JX,bK];rfl
 rw[hjl] at q;clear hdr hdr1 c1 c2 hjl;generalize cz k=hd at *;generalize fJ k=n at *;refine aq fun N hN=>?_;exists ah;refine⟨by decide,?_⟩
 symm;exists as';refine⟨by decide,?_⟩
 ac_rfl;have c3:Y.eS (wd bits) (some ((at_:Int)+((hd.length:Nat):Int))) (some ((at_:Int)+((hd.length:Nat):Int)+((n:Nat):Int)))=wd (bu d n []):=by
  have:=gg bits (at_+hd.length) n;rw[hdr2,O5 (by rw[bK];rfl)] at this
  exact this
 refine aq fun N hN=>?_;exists c3,bE;refine⟨sz,bu d n [],rfl,by rw[bK];simp;lia,cD n d [] (by simp),?_⟩
 rfl';ac_rfl;obtain⟨n,rfl⟩:∃ j,n=j+1:=⟨n-1,by lia⟩
 rw[show n+1-1=n by lia] at hh
 obtain⟨top,et⟩:=fe n d [];have htb:top=48\/top=49:=cD (n+1) d [] (by simp) top (by rw[et];exact Kk)
 have hV:=val_last (n+1) d [];have hV2:Cw.val (bu d (n+1) [])=(top-48)*2^n+Cw.val (bu d n []):=by rw[et,j_ _ _ htb,bK];rfl
 have hV3:=val_last n d [];have c4:Y.eS (wd bits) (some ((at_:Int)+((hd.length:Nat):Int))) (some ((at_:Int)+((hd.length:Nat):Int)+1))=wd [top]:=by
  have:=gg bits (at_+hd.length) 1;rw[hdr2,et] at this;exact this
 have p0:(0:Int)<2^n:=N7 (by decide)
 have p1:(2:Int)^(n+1)=2*2^n:=by rw[Nx];lia
 have hlow:(Cw.val (bu d n []):Int)<2^n:=by
  rw[hV3];simp only[K8,MM,MU,Cw.val];have:=NF d p0;lia
 have hVd:(Cw.val (bu d (n+1) []):Int)=if d<0 then d+2^(n+1) else d:=by
  rw[hV];simp only[K8,MM,MU,Cw.val];split
  ·rename_i c;have:d % 2^(n+1)=(d+2^(n+1)) % 2^(n+1):=by rw[Int.add_emod_right]
   rw[this,NT (by lia) (by lia)]
   exact Int.add_zero _
  ·rw[NT (by lia) (by lia)]
   exact Int.add_zero _
 have hcast:((Cw.val (bu d (n+1) []):Nat):Int)=((top-48:Nat):Int)*2^n+(Cw.val (bu d n []):Int):=by rw[hV2,Nz,Nu,Nv];rfl
 generalize hVV:(Cw.val (bu d (n+1) []):Int)=V at *;refine aq fun N hN=>?_;exists c4,bE,e49;refine⟨sz,?_⟩;have lastS:N [.tr (.str (wd bits)),.tr (.int ((at_:Int)+((hd.length:Nat):Int))),.tr (.int (k:Int)),.tr (.int ((n+1:Nat):Int)),.tr (.int d)]:=by
  refine hN _ ?_;rfl';refine⟨by decide,?_⟩
  rw[<- NK] at q;exact q
 by_cases c:d<0
 ·rw[Ke c] at hVd;have ht:top=49:=by
   rcases htb with rfl|rfl
   ·exfalso
    rw[show ((48-48:Nat):Int)=0 from rfl,Int.zero_mul,Ny] at hcast;lia
   ·rfl
  subst ht;exists aw;refine⟨by decide,?_⟩
  rw[hVd,show d+2^(n+1)-2^(n+1)=d by lia]
  exact lastS
 ·rw[JZ c] at hVd;have ht:top=48:=by
   rcases htb with rfl|rfl
   ·rfl
   ·exfalso
    rw[show ((49-48:Nat):Int)=1 from rfl,Int.one_mul] at hcast;have:(0:Int)<=(Cw.val (bu d n []):Int):=Int.natCast_nonneg _;lia
  subst ht;rw[JZ (by simp),hVd]
  exact lastS
noncomputable def PF(ws:List (List Nat)):Prop:=∀(i j:Nat) (hi:i<ws.length) (hj:j<ws.length),i≠j->¬ ws[i] <+: ws[j]
theorem PF.no{ws:List (List Nat)}(h:PF ws){m:Nat}(hk:k<ws.length)(hm:m<ws.length)(hp:ws[k] <+: s)(hn:m≠k):¬ ws[m] <+: s:=fun hq=>by
 rcases List.prefix_or_prefix_of_prefix hp hq with z|z
 ·exact h k m hk hm (Ne.symm hn) z
 ·exact h m k hm hk hn z
theorem qT{n:Nat}(h:n<65536):Cw.val (cR n)=n:=by
 have hv:=val_last (aQ n) (n:Int) [];have hlt:(n:Int)<2^aQ n:=by
  unfold aQ Builtin.Int.intBits;split
  ·rename_i hz;have:n=0:=by simpa using hz
   subst this;decide
  ·show (n:Int)<2^((n:Int).natAbs.log2+1);rw[LQ];have:=Nat.lt_log2_self (n:=n)
   exact_mod_cast this
 simp only[K8,MM,MU,Cw.val] at hv;rw[NT (by lia) hlt] at hv
 unfold cR;lia
theorem As(h:n<65536)(h0:0<n):cR n=49::(cR n).tail:=by
 obtain⟨b,hb⟩:∃ b,aQ n=b+1:=⟨aQ (n / 2),lC h0⟩;have hv:=qT h;unfold cR at hv ⊢;rw[hb] at hv ⊢;obtain⟨top,et⟩:=fe b (n:Int) [];have htb:top=48\/top=49:=cD (b+1) (n:Int) [] (by simp) top (by rw[et];exact Kk)
 rcases htb with rfl|rfl
 ·exfalso
  rw[et,j_ _ _ (.inl rfl),M8,Nat.zero_mul,LO] at hv;have h3:=val_last b (n:Int) [];simp only[K8,MM,MU,Cw.val] at h3;have h4:=NF (n:Int) (show (0:Int)<2^b from N7 (by decide))
  have h5:2^b<=n:=by
   have e:aQ n=n.log2+1:=by
    unfold aQ Builtin.Int.intBits;rw[JZ (by simp;lia)]
    show (n:Int).natAbs.log2+1=_;rw[LQ]
   have:b=n.log2:=by lia
   rw[this];exact Nat.log2_self_le (by lia)
  have h6:(2:Int)^b<=(n:Int):=by exact_mod_cast h5
  lia
 ·rw[et];rfl
noncomputable def Bi:dE:=fun args Q=>∃(bits:List Nat) (at_ n:Nat) (ws:List (List Nat)) (r:List Nat),args=[.str (wd bits),.int (at_:Int),.lst (wT ws)]/\bits.length<=20000/\n<65536/\ws.length=17/\(∀ x∈ws,x.length<=40)/\PF ws/\bits.drop at_=ws.getD (aQ n) []++((cR n).tail++r)/\Q (.fr (.lst [.int (n:Int),.int ((at_+(ws.getD (aQ n) []).length+(cR n).tail.length:Nat):Int)])) []
abbrev k8z(P w K mg base):=ae P w K mg base aU 2 "_law_number_read" ["bits","at","classes"] (spT K [false,false,false] Bi)
theorem yI(T:Txt K mg)(F:HasFn K mg "_law_number_read" bR ["bits","at","classes"])(h_law_thing:k3z P w K mg base)(h_law_worth:k10z P w K mg base):k8z P w K mg base:=by
 refine F.fG bj [false,false,false] rfl (by decide) ?_;left;obtain⟨bits,at_,n,ws,r,rfl,hbl,hn,hwl,h40,hpf,hdr,q⟩:=h;refine⟨_,(Y.af (Y.set (i:=3) bj.nd rfl (by right) (Y.fn K rfl h_law_thing (hr.mono (by decide)) rfl ax (Y.cons (Y.vS 0) (Y.cons (Y.vS 1) (Y.cons (Y.vS 2) Y.nil)))))
   (Y.af (Y.eL (Y.aV fw Y.fq (Y.vS 3) Y.aC) (Y.aA (Y.ret Y.aC)) Y.bN)
   (Y.af (Y.asg (Y.vS 3) (Y.iO (n:=2) K rfl rfl (Y.bD (Y.aG (i:=4) bj.nd rfl (by right)) (Y.bD (Y.aG (i:=1) bj.nd rfl (by right)) Y.fF))))
   (Y.af (Y.set (i:=5) bj.nd rfl (by right) (Y.op (Y.au K rfl) Y.av (Y.op Y.r8 Y.sS Y.str (Y.ct gc Y.mW rfl T.rW (by decide +kernel) (Y.cons (Y.cmp AO Y.gp (Y.vS 4) Y.int) Y.nil))) (Y.dS K rfl (Y.vS 0) (Y.mT (Y.vS 1)) (Y.mT (Y.op (Y.au K rfl) Y.av (Y.vS 1) (Y.cb (i7 rfl) Y.pT rfl T.vd (by decide +kernel) (Y.cons Y.int (Y.cons (Y.op cY Y.cw (Y.vS 4) Y.int) Y.nil))))))))
   (Y.aA (Y.ret (Y.lst (Y.cons (Y.fn K rfl h_law_worth (hr.mono (by decide)) rfl ax (Y.cons (Y.vS 5) Y.nil)) (Y.cons (Y.op (Y.au K rfl) Y.av (Y.vS 1) (Y.cb (i7 rfl) Y.pT rfl T.vd (by decide +kernel) (Y.cons Y.int (Y.cons (Y.op cY Y.cw (Y.vS 4) Y.int) Y.nil)))) Y.nil))))))))),?_⟩
 have hb:=je hn;have hk:aQ n<ws.length:=by lia
 have ew:ws.getD (aQ n) []=ws[aQ n]:=by rw[Kd,JV hk];rfl
 rw[ew] at hdr q;have hp:ws[aQ n] <+: bits.drop at_:=⟨_,hdr.symm⟩;refine aq fun N hN=>?_;rfl';refine⟨bits,at_,aQ n,ws,hk,rfl,hbl,by lia,h40,hp,fun m hm=>hpf.no hk (by lia) hp (by lia),?_⟩
 rfl';symm;rfl';symm;rfl';symm;rfl';have htl:(cR n).tail.length=aQ n-1:=by rw[Of];unfold cR;rw[bK];rfl
 have emx:(if (aQ n:Int)-1 > 0 then (aQ n:Int)-1 else 0)=((aQ n-1:Nat):Int):=by split<;>lia
 have hdr2:bits.drop (at_+ws[aQ n].length)=(cR n).tail++r:=by rw[<- Me,hdr,L6]
 have ect:Y.eS (wd bits) (some ((at_+ws[aQ n].length:Nat):Int)) (some (((at_+ws[aQ n].length:Nat):Int)+((aQ n-1:Nat):Int)))=wd (cR n).tail:=by
  rw[gg,hdr2,O5 htl]
 have efg:(⟨(List.replicate (if 0<(aQ n:Int) then 1 else 0:Int).toNat 49).toArray⟩:Str)++wd (cR n).tail=wd (cR n):=by
  rcases ND n with c|c
  ·subst c;decide +kernel
  ·have hb1:0<(aQ n:Int):=by have:=lC c;unfold aQ;lia
   rw[Ke hb1]
   conv=>rhs;rw[As hn c]
   exact gD [49] (cR n).tail
 have fl:(cR n).length=aQ n:=by unfold cR;rw[bK];rfl
 have elen:(⟨(List.replicate (if 0<(aQ n:Int) then 1 else 0:Int).toNat 49).toArray⟩:Str).length<=1:=by
  show (List.replicate (if 0<(aQ n:Int) then 1 else 0:Int).toNat 49).toArray.size<=1
  rw[J_,Kl]
  split<;>decide
 refine⟨49,by decide +kernel,by split<;>decide,by split<;>decide,by rw[bE];exact Kq hbl (by decide),?_,?_⟩
 ·rw[emx,ect,bE];exact Kq (show _<=40 by lia) (by decide)
 rw[emx,ect,efg];ac_rfl;rfl';refine⟨cR n,rfl,by lia,cD _ _ _ (by simp),?_⟩
 rw[qT hn];exists emx;refine⟨by decide,?_⟩
 rw[htl] at q;exact q
noncomputable def gP(cd:List (List (List Nat))):Pk->List Nat
 |.box b=>dw cd (2,b)
 |_=>[]
theorem mS(cd:List (List (List Nat)))(r:Row):(∃ b n,r=.put b n/\aN cd r=dw cd (0,r.wi)++r.fC.flatMap (gP cd)++dw cd (1,aQ n)++(cR n).tail)\/(r.wd≠"put"/\aN cd r=dw cd (0,r.wi)++r.fC.flatMap (gP cd)):=by
 cases r with
 |put b n=>exact .inl ⟨b,n,rfl,by simp[aN,eG,Row.fC,Pk.Ao,gP,gr]⟩
 |two u a b=>exact .inr ⟨(by decide +kernel:∀ u,w2 u≠"put") u,by simp[aN,eG,Row.fC,Pk.Ao,gP,gr]⟩
 |one u b=>exact .inr ⟨(by decide +kernel:∀ u,w1 u≠"put") u,by simp[aN,eG,Row.fC,Pk.Ao,gP,gr]⟩
 |jump g=>exact .inr ⟨show Str.ofString "jump"≠Str.ofString "put" by decide +kernel,by simp[aN,eG,Row.fC,Pk.Ao,gP,gr]⟩
 |zero b g=>exact .inr ⟨show Str.ofString "zero"≠Str.ofString "put" by decide +kernel,by simp[aN,eG,Row.fC,Pk.Ao,gP,gr]⟩
 |halt=>exact .inr ⟨by decide +kernel,by simp[aN,eG,Row.fC,Pk.Ao,gP,gr]⟩
noncomputable def Bt:dE:=fun args Q=>∃(bits:List Nat) (at_ k:Nat) (r:Row) (cd:List (List (List Nat))) (rest:List Nat),args=[.str (wd bits),.int (at_:Int),r.t,.lst (cd.map fun ws=>.lst (wT ws))]/\bits.length<=20000/\r.Ok k/\Cd cd/\(∀ ws∈cd,PF ws)/\bits.drop at_=aN cd r++rest/\Q (.tr (.int ((at_+(aN cd r).length:Nat):Int))) []
abbrev k6z(P w K mg base):=ae P w K mg base aU 3 "_law_row_read" ["bits","at","row","codes"] (spT K [false,false,false,false] Bt)
theorem zo(T:Txt K mg)(F:HasFn K mg "_law_row_read" cC ["bits","at","row","codes"])(h_law_thing:k3z P w K mg base)(h_law_words:k22z P w K mg base)(h_law_number_read:k8z P w K mg base):k6z P w K mg base:=by
 refine F.fG aP [false,false,false,false] rfl (by decide) ?_;left;obtain⟨bits,at_,kk,r,cd,rest,rfl,hbl,aO,hC,hpf,hdr,q⟩:=h;refine⟨_,(Y.af (Y.set (i:=4) aP.nd rfl (by right) (Y.fn K rfl h_law_thing (hr.mono (by decide)) rfl ax (Y.cons (Y.vS 0) (Y.cons (Y.vS 1) (Y.cons (Y.ix (Y.aD K rfl) Y.ai (Y.vS 3) Y.int) Y.nil)))))
   (Y.af (Y.eL (Y.tw (Y.Br (Y.aV fw Y.fq (Y.vS 4) Y.aC) (Y.qC (Y.aV (Y.fh K rfl (Ks hu)) Y.fm (Y.ix (Y.aD K rfl) Y.ai (Y.vS 4) Y.int) (Y.Ic K rfl (Y.Hn K rfl h_law_words (hr.mono (by decide)) rfl ax) (Y.ix (Y.aD K rfl) Y.ai (Y.vS 2) Y.int)))))) (Y.aA (Y.ret Y.aC)) Y.bN)
   (Y.af (Y.set (i:=1) aP.nd rfl (by right) (Y.ix (Y.aD K rfl) Y.ai (Y.vS 4) Y.int))
   (Y.af (Y.eU K9 rfl (Y.anyS K rfl (Y.dS K rfl (Y.vS 2) (Y.mT Y.int) Y.DF)) (Y.aG (i:=5) aP.nd rfl (by right)) (Y.aA (Y.eL (Y.iK K rfl (Y.Hg (C:="str") K rfl rfl T.dD (Y.vS 5) rfl T.wN (by decide +kernel))) (Y.af (Y.set (i:=4) aP.nd rfl (by right) (Y.fn K rfl h_law_thing (hr.mono (by decide)) rfl ax (Y.cons (Y.vS 0) (Y.cons (Y.vS 1) (Y.cons (Y.ix (Y.aD K rfl) Y.ai (Y.vS 3) Y.int) Y.nil)))))
   (Y.af (Y.eL (Y.tw (Y.Br (Y.aV fw Y.fq (Y.vS 4) Y.aC) (Y.qC (Y.aV (Y.fh K rfl (Ks hu)) Y.fm (Y.ix (Y.aD K rfl) Y.ai (Y.vS 4) Y.int) (Y.sm K rfl PySem.F.slot_str_index PySem.F.type_str_index Y.xb Y.xE Y.str (Y.cons (Y.vS 5) Y.nil)))))) (Y.aA (Y.ret Y.aC)) Y.bN)
   (Y.aA (Y.set (i:=1) aP.nd rfl (by right) (Y.ix (Y.aD K rfl) Y.ai (Y.vS 4) Y.int))))) Y.bN)))
   (Y.af (Y.eL (Y.aV (Y.b6 K rfl (Ks hu)) Y.cy (Y.ix (Y.aD K rfl) Y.ai (Y.vS 2) Y.int) Y.str) (Y.af (Y.set (i:=4) aP.nd rfl (by right) (Y.fn K rfl h_law_number_read (hr.mono (by decide)) rfl ax (Y.cons (Y.vS 0) (Y.cons (Y.vS 1) (Y.cons (Y.ix (Y.aD K rfl) Y.ai (Y.vS 3) Y.int) Y.nil)))))
   (Y.af (Y.eL (Y.tw (Y.Br (Y.aV fw Y.fq (Y.vS 4) Y.aC) (Y.qC (Y.aV (Y.fh K rfl (Ks hu)) Y.fm (Y.ix (Y.aD K rfl) Y.ai (Y.vS 4) Y.int) (Y.ix (Y.aD K rfl) Y.ai (Y.vS 2) Y.int))))) (Y.aA (Y.ret Y.aC)) Y.bN)
   (Y.aA (Y.set (i:=1) aP.nd rfl (by right) (Y.ix (Y.aD K rfl) Y.ai (Y.vS 4) Y.int))))) Y.bN)
   (Y.aA (Y.ret (Y.vS 1)))))))),?_⟩
 obtain⟨c0,c1,c2,rfl,l0,l1,l2⟩:=hC.ex;have a0:bw [L2.T.lst (wT c0),L2.T.lst (wT c1),L2.T.lst (wT c2)] 0=some (.lst (wT c0)):=rfl;have a1:bw [L2.T.lst (wT c0),L2.T.lst (wT c1),L2.T.lst (wT c2)] 1=some (.lst (wT c1)):=rfl;have a2:bw [L2.T.lst (wT c0),L2.T.lst (wT c1),L2.T.lst (wT c2)] 2=some (.lst (wT c2)):=rfl;have g0:=hC.at (p:=(0,r.wi)) (.inl ⟨rfl,r.sG⟩);have hk0:r.wi<c0.length:=by rw[l0];exact r.sG
 have e0:dw [c0,c1,c2] (0,r.wi)=c0[r.wi]:=by
  have:=g0.2.1;rw[show ([c0,c1,c2].getD (0,r.wi).1 [])=c0 from rfl,JV hk0] at this;exact (Option.some.inj this).symm
 have hpre:∃ s,aN [c0,c1,c2] r=c0[r.wi]++s:=by
  rcases mS [c0,c1,c2] r with ⟨b,n,_,e⟩|⟨_,e⟩
  ·rw[e,e0];exact⟨_,by simp only[Ku];rfl⟩
  ·rw[e,e0];exact⟨_,rfl⟩
 have hp0:c0[r.wi] <+: bits.drop at_:=by
  obtain⟨s,e⟩:=hpre;rw[hdr,e];exact⟨s++rest,by rw[Ku]⟩
 rw[Row.uS];refine aq fun N hN=>?_;show Y.jC _ _ _ [.tr (.str (wd bits)),.tr (.int (at_:Int)),.tr (.tup (.str r.wd::r.fC.map Pk.t)),.tr (.lst [.lst (wT c0),.lst (wT c1),.lst (wT c2)]),.un,.un];exists a0;refine⟨bits,at_,r.wi,c0,hk0,rfl,hbl,by lia,hC.le c0 (by simp),hp0,fun m hm=>(hpf c0 (by simp)).no hk0 (by lia) hp0 (by lia),?_⟩
 rfl';ac_rfl;have f0:∀ x y:L2.T,bw [x,y] 0=some x:=fun _ _=>rfl;have f1:∀ x y:L2.T,bw [x,y] 1=some y:=fun _ _=>rfl;refine aq fun N hN=>?_;exists f0,f1;refine⟨rfl,fM,r.wi,rfl,(qY r).1,(qY r).2,?_⟩;exists f0,f1;rw[JZ (MD trivial)];symm;exists f1;symm;rfl';rw[nR];have hx0:(c0[r.wi]).length<=40:=hC.le c0 (by simp) _ (K3 hk0)
 refine bz (fun tl μ=>∃(ps:List Pk) (a:Nat) (o5:Option L2.T) (b4:L2.T),tl=ps.map Pk.t/\(∀ p∈ps,p.Ok)/\a+(ps.flatMap (gP [c0,c1,c2])).length=at_+(dw [c0,c1,c2] (0,r.wi)++r.fC.flatMap (gP [c0,c1,c2])).length/\(∃ s,bits.drop a=ps.flatMap (gP [c0,c1,c2])++s)/\μ=[.tr (.str (wd bits)),.tr (.int (a:Int)),.tr (.tup (.str r.wd::r.fC.map Pk.t)),.tr (.lst [.lst (wT c0),.lst (wT c1),.lst (wT c2)]),.bx b4,sl o5]) ⟨r.fC,at_+c0[r.wi].length,none,_,rfl,Row.p7 aO,by rw[JX,e0];lia,?_,rfl⟩ ?_ ?_
 ·rw[<- Me,hdr];rcases mS [c0,c1,c2] r with ⟨b,n,_,e⟩|⟨_,e⟩
  ·rw[e,e0];exact⟨_,by simp only[Ku,L6];rfl⟩
  ·rw[e,e0];exact⟨_,by simp only[Ku,L6];rfl⟩
 ·rintro μ ⟨ps,a,o5,b4,e1,_,ha,_,rfl⟩;have e2:ps=[]:=Lq.mp e1.symm;subst e2;rw[List.flatMap_nil,K8,Pc] at ha;show N _;symm;rcases mS [c0,c1,c2] r with ⟨b,n,rfl,e⟩|⟨n1,e⟩
  ·have hn:n<65536:=aO.2;have ep:bw (L2.T.str (Row.put b n).wd::List.map Pk.t (Row.put b n).fC) 2=some (.int (n:Nat)):=rfl;have edr:bits.drop a=c1.getD (aQ n) []++((cR n).tail++rest):=by
    rw[ha,<- Me,hdr,e];simp only[Ku];rw[<- Ku (dw [c0,c1,c2] (0,(Row.put b n).wi)),L6];rfl
   exists (show ((Row.put b n).wd=Str.ofString "put")=True from eq_true rfl),LS;refine aq fun M hM=>?_;exists a1;refine⟨bits,a,n,c1,rest,rfl,hbl,hn,l1,hC.le c1 (by simp),hpf c1 (by simp),edr,?_⟩
   rfl';refine hM _ ?_;clear hM M;refine aq fun M hM=>?_;exists f0,ep;rw[JZ (MD trivial)];refine hM _ ?_;clear hM M;exists f1;ac_rfl;rfl';rw[e] at q;have e5:at_+(dw [c0,c1,c2] (0,(Row.put b n).wi)++(Row.put b n).fC.flatMap (gP [c0,c1,c2])++dw [c0,c1,c2] (1,aQ n)++(cR n).tail).length=a+(c1.getD (aQ n) []).length+(cR n).tail.length:=by
    rw[JX,JX,ha];show _=_+(dw [c0,c1,c2] (1,aQ n)).length+_;lia
   rw[e5] at q;exact q
  ·exists JZ n1;ac_rfl;rfl';rw[e,<- ha] at q;exact q
 ·rintro t ts μ M ⟨ps,a,o5,b4,e1,hp,ha,⟨sx,hsx⟩,rfl⟩ k;obtain⟨p,ps',rfl,rfl,rfl⟩:=List.map_eq_cons_iff.mp e1.symm;have hp0':=hp p (Kk ..);have hp1:∀ q∈ps',q.Ok:=fun q hq=>hp q (Kh _ hq);have no:∀ n:Nat,gP [c0,c1,c2] p=[]->M [.tr (.str (wd bits)),.tr (.int (a:Int)),.tr (.tup (.str r.wd::r.fC.map Pk.t)),.tr (.lst [.lst (wT c0),.lst (wT c1),.lst (wT c2)]),.bx b4,.tr (.int (n:Nat))]:=fun n e0 =>
   k _ ⟨ps',a,some (.int (n:Nat)),b4,rfl,hp1,by rw[LF,e0] at ha;exact ha,⟨sx,by rw[LF,e0] at hsx;exact hsx⟩,rfl⟩
  cases p with
  |box b =>
   have hb:b<8:=hp0';have hk2:b<c2.length:=by lia
   have e2:gP [c0,c1,c2] (.box b)=c2[b]:=by
    show dw [c0,c1,c2] (2,b)=_;unfold dw;show c2.getD b []=_;rw[Kd,JV hk2];rfl
   rw[LF,e2] at ha hsx;have hp2:c2[b] <+: bits.drop a:=⟨_,by rw[hsx,Ku]⟩
   show Y.gN 5 (R.tr (.str (fL b))) _ _;exists (show hZ "str" "str"=true from by decide +kernel),LS
   refine aq fun M2 h2=>?_;exists a2;refine⟨bits,a,b,c2,hk2,rfl,hbl,by lia,hC.le c2 (by simp),hp2,fun m hm=>(hpf c2 (by simp)).no hk2 (by lia) hp2 (by lia),?_⟩
   rfl';refine h2 _ ?_;clear h2 M2;refine aq fun M2 h2=>?_;exists f0;refine⟨b,[],IX hb,?_⟩;exists f0;rw[JZ (MD trivial)];refine h2 _ ?_;clear h2 M2;exists f1;exact k _ ⟨ps',a+c2[b].length,some _,_,rfl,hp1,by rw[JX] at ha;lia,⟨sx,by rw[<- Me,hsx,Ku,L6]⟩,rfl⟩
  |num n =>
   show Y.gN 5 (R.tr (.int (n:Nat))) _ _;exists (show hZ "int" "str"=false from by decide +kernel)
   exact no n rfl
  |goal n =>
   show Y.gN 5 (R.tr (.int (n:Nat))) _ _;exists (show hZ "int" "str"=false from by decide +kernel)
   exact no n rfl
theorem xW(h:k<3)(d:Int):((cP k d).length:Int)=gy (some k):=by
 unfold cP;rw[JX,bK];rcases (show k=0\/k=1\/k=2 by lia) with rfl|rfl|rfl<;>rfl
theorem pz(h:yP gs ws)(i:Nat)(hi:i<gs.length):(gs.getD i none=none/\ws.getD i none=none)\/∃ g k,gs.getD i none=some g/\ws.getD i none=some k:=by
 have hj:(ws.map Option.isSome)[i]?=(gs.map Option.isSome)[i]?:=by rw[show ws.map Option.isSome=gs.map Option.isSome from h]
 have hl:ws.length=gs.length:=by have:=K4 List.length h;simpa using this
 rw[Kg,Kg,JV hi,JV (by lia)] at hj
 rw[Kd,Kd,JV hi,JV (by lia)]
 have hz:(ws[i]'(by lia)).isSome=gs[i].isSome:=Option.some.inj hj
 show (gs[i]=none/\ws[i]'(by lia)=none)\/∃ g k,gs[i]=some g/\ws[i]'(by lia)=some k
 generalize ws[i]'(by lia)=w at *
 generalize gs[i]=g at *
 cases g with
 |none=>cases w with
  |none=>exact .inl ⟨rfl,rfl⟩
  |some k=>cases hz
 |some g=>cases w with
  |none=>cases hz
  |some k=>exact .inr ⟨g,k,rfl,rfl⟩
theorem nA{hs:List (List Nat)}(gw:GW (aE hs) gs ws)(hp:yP gs ws):∀ i,i<=hs.length->((cV (aF (aE hs) ws) gs ws hs i).length:Int)=(aF (aE hs) ws).getD i 0
 |0,_=>rfl
 |i+1,h=>by
  have ih:=nA gw hp i (by lia)
  have hsl:(aE hs).length=hs.length:=by unfold aE;rw[JY]
  have hgl:=gw.lg;have hwl:=gw.lw;have e1:(aE hs)[i]?=some ((hs.getD i []).length:Int):=by
   unfold aE;rw[Kg,Kd,JV (by lia)];rfl
  have e2:ws[i]?=some (ws.getD i none):=by rw[Kd,JV (by lia)];rfl
  have e3:=mF (aE hs) ws 0 i _ _ e1 e2;rw[eO,JX,JX,show (aF (aE hs) ws).getD (i+1) 0=_ from e3,Nz,Nz,ih];have e4:((iA (aF (aE hs) ws) gs ws i).length:Int)=gy (ws.getD i none):=by
   unfold iA;rcases pz hp i (by lia) with ⟨a,b⟩|⟨g,k,a,b⟩
   ·rw[a,b];rfl
   ·rw[a,b];exact xW (gw.w3.at (by rw[e2,b])) _
  rw[e4];show _=(aF (aE hs) ws).getD i 0+_+_;lia
theorem oC(P:List Int)(gs ws:List (Option Nat))(hs:List (List Nat))(i:Nat):∀ n,i<=n->∃ s,cV P gs ws hs n=cV P gs ws hs i++s
 |0,h=>by
  have:i=0:=by lia
  subst this;exact⟨[],by rw[Kw]⟩
 |n+1,h=>by
  rcases Nat.eq_or_lt_of_le h with e|e
  ·subst e;exact⟨[],by rw[Kw]⟩
  ·obtain⟨s,hs'⟩:=oC P gs ws hs i n (by lia)
   exact⟨s++(hs.getD n []++iA P gs ws n),by rw[eO,hs',Ku]⟩
theorem uL(P:List Int)(gs ws:List (Option Nat))(hs:List (List Nat))(h:i<n):∃ s,(cV P gs ws hs n).drop (cV P gs ws hs i).length=hs.getD i []++(iA P gs ws i++s):=by
 obtain⟨s,e⟩:=oC P gs ws hs (i+1) n h;exact⟨s,by rw[e,eO,Ku,Ku,L6]⟩
theorem uw(ws:List (Option Nat)):Y.kG (nO ws) (nO ws)=true:=by
 unfold Y.kG;rw[KI,OV,M7,Ln];refine⟨rfl,fun j hj=>?_⟩;have hj':j<ws.length:=by simpa[nO] using hj
 have e:(nO ws)[j]?=some (oI ws[j]):=by unfold nO;rw[Kg,JV hj'];rfl
 rw[e]
 cases ws[j] with
 |none=>rfl
 |some k=>simp[oI,Y.Hd]
theorem jz:∀ xs:List (Option Nat),(nO xs).all aR=true
 |[]=>rfl
 |x::xs=>by show (aR (oI x) && (nO xs).all aR)=true;rw[jz xs];cases x<;>rfl
noncomputable def wk:dE:=fun args Q=>∃(rs:List Row) (cd:List (List (List Nat))) (ws:List (Option Nat)) (ps:List Int),args=[.tup (rT rs),.tup [.str (wd (cV (aF (aE (rs.map (aN cd))) ws) (rs.map aT) ws (rs.map (aN cd)) rs.length)),.tup (nI (aF (aE (rs.map (aN cd))) ws).dropLast)],.lst (cd.map fun ws=>.lst (wT ws))]/\Ea rs cd/\(∀ ws∈cd,PF ws)/\iU (aE (rs.map (aN cd))) (rs.map aT)=some (ws,ps)/\Q (.tr (.bl true)) []
abbrev k11z(P w K mg base):=ae P w K mg base aU 6 "_law_right" ["program","told","codes"] (spT K [false,false,false] wk)
theorem wm(T:Txt K mg)(F:HasFn K mg "_law_right" d7 ["program","told","codes"])(h_law_row_read:k6z P w K mg base)(h_law_far:k25z P w K mg base)(h_law_goals:ae P w K mg base aU 1 "_law_goals" ["program"] (spT K [false] rK))(hcalm_least_widths:k19z P w K mg base)(hare_good:k12z P w K mg base):k11z P w K mg base:=by
 refine F.fG aM [false,false,false] rfl (by decide) ?_;left;obtain⟨rs,cd,ws,ps,rfl,hP,hpf,hres,q⟩:=h;have hsz:=hP.sz;have hgo:=hP.go;have h60:=hP.le;obtain⟨hs,ehs⟩:∃ hs,hs=rs.map (aN cd):=⟨_,rfl⟩;rw[<- ehs] at hsz hgo hres ⊢;have hhl:hs.length=rs.length:=by rw[ehs,JY]
 have hsl:(aE hs).length=rs.length:=by unfold aE;rw[JY,hhl]
 have hgl:(rs.map aT).length=rs.length:=JY ..;obtain⟨gw,hpat,good⟩:=qL (hgl.trans hsl.symm) (by rw[hsl];exact h60) hgo hres
 have hll:=nA gw hpat;obtain⟨Pl,ePl⟩:∃ Pl,Pl=aF (aE hs) ws:=⟨_,rfl⟩;have hbd:=fun i=>mY (ws:=ws) hsz (by rw[hsl];exact h60) i
 have hgf:=fun {j g k:Nat} (hj:j<(aE hs).length) (eg:(rs.map aT)[j]?=some (some g)) (ek:ws[j]?=some (some k))=>kO (ss:=aE hs) (gs:=rs.map aT) (zs:=ws) good hj eg ek;have hPl:Pl.length=rs.length+1:=by rw[ePl,fI gw.lw.symm,hsl]
 have hP0:Pl.getD 0 0=0:=by rw[ePl];rfl
 rw[<- ePl] at hll hgf hbd ⊢;clear ePl;have hbl:((cV Pl (rs.map aT) ws hs rs.length).length:Int)=Pl.getD rs.length 0:=hll _ (by lia)
 have hb2:(cV Pl (rs.map aT) ws hs rs.length).length<=20000:=by have:=(hbd rs.length).2;lia
 obtain⟨bits,ebits⟩:∃ b,b=cV Pl (rs.map aT) ws hs rs.length:=⟨_,rfl⟩;rw[<- ebits] at hbl hb2 ⊢;have epl:Pl.dropLast++[(bits.length:Int)]=Pl:=by
  have hne:Pl≠[]:=fun z=>by rw[z] at hPl;simp at hPl
  have:=List.dropLast_concat_getLast hne;rw[List.getLast_eq_getElem] at this;rw[hbl]
  conv=>rhs;rw[<- this]
  congr 2;rw[Kd,JV (by lia)]
  show Pl[rs.length]=_;congr 1;lia
 refine⟨_,(Y.af (Y.set (i:=3) aM.nd rfl (by right) (Y.ix (Y.aD K rfl) Y.ai (Y.vS 1) Y.int))
   (Y.af (Y.set (i:=4) aM.nd rfl (by right) (Y.op (Y.au K rfl) Y.av (Y.ct (Y.qd K rfl rfl) Y.Af rfl T.xg (by decide +kernel) (Y.cons (Y.ix (Y.aD K rfl) Y.ai (Y.vS 1) Y.int) Y.nil)) (Y.lst (Y.cons (Y.cb (Y.aH K rfl) Y.bp rfl T.cI (by decide +kernel) (Y.cons (Y.vS 3) Y.nil)) Y.nil))))
   (Y.af (Y.set (i:=5) aM.nd rfl (by right) (Y.lst Y.nil))
   (Y.af (Y.set (i:=6) aM.nd rfl (by right) (Y.lst Y.nil))
   (Y.af (Y.eU K9 rfl (Y.jk rfl T.dm (Y.cons (Y.cb (Y.aH K rfl) Y.bp rfl T.cI (by decide +kernel) (Y.cons (Y.vS 0) Y.nil)) Y.nil)) (Y.aG (i:=7) aM.nd rfl (by right)) (Y.af (Y.set (i:=8) aM.nd rfl (by right) (Y.fn K rfl h_law_row_read (hr.mono (by decide)) rfl ax (Y.cons (Y.vS 3) (Y.cons (Y.ix (Y.aD K rfl) Y.ai (Y.vS 4) (Y.vS 7)) (Y.cons (Y.ix (Y.aD K rfl) Y.ai (Y.vS 0) (Y.vS 7)) (Y.cons (Y.vS 2) Y.nil))))))
   (Y.af (Y.eL (Y.aV fw Y.fq (Y.vS 8) Y.aC) (Y.aA (Y.ret Y.bl)) Y.bN)
   (Y.af (Y.expr (Y.bm K rfl PySem.F.slot_list_append PySem.F.type_list_append bT Y.cq (Y.vS 5) (Y.cons (Y.op cY Y.cw (Y.vS 8) (Y.ix (Y.aD K rfl) Y.ai (Y.vS 4) (Y.vS 7))) Y.nil)))
   (Y.af (Y.expr (Y.bm K rfl PySem.F.slot_list_append PySem.F.type_list_append bT Y.cq (Y.vS 6) (Y.cons Y.aC Y.nil)))
   (Y.af (Y.eL (Y.aV (Y.j8 K rfl) Y.lP (Y.ix (Y.aD K rfl) Y.ai (Y.ix (Y.aD K rfl) Y.ai (Y.vS 0) (Y.vS 7)) Y.int) (Y.tup (Y.eC rfl rfl))) (Y.af (Y.asg (Y.fn K rfl h_law_far (hr.mono (by decide)) rfl ax (Y.cons (Y.vS 3) (Y.cons (Y.vS 8) Y.nil))) (Y.iO (n:=3) K rfl rfl (Y.bD (Y.aG (i:=9) aM.nd rfl (by right)) (Y.bD (Y.aG (i:=10) aM.nd rfl (by right)) (Y.bD (Y.aG (i:=8) aM.nd rfl (by right)) Y.fF)))))
   (Y.af (Y.asg (Y.vS 9) (Y.oZ (Y.vS 6) (Y.vS 7)))
   (Y.aA (Y.eL (Y.aV (Y.fh K rfl (Ks hu)) Y.fm (Y.op (Y.au K rfl) Y.av (Y.vS 8) (Y.vS 10)) (Y.ix (Y.aD K rfl) Y.ai (Y.vS 4) (Y.ix (Y.aD K rfl) Y.ai (Y.ix (Y.aD K rfl) Y.ai (Y.vS 0) (Y.vS 7)) (Y.neg Y.int)))) (Y.aA (Y.ret Y.bl)) Y.bN)))) Y.bN)
   (Y.aA (Y.eL (Y.aV (Y.fh K rfl (Ks hu)) Y.fm (Y.vS 8) (Y.ix (Y.aD K rfl) Y.ai (Y.vS 4) (Y.op (Y.au K rfl) Y.av (Y.vS 7) Y.int))) (Y.aA (Y.ret Y.bl)) Y.bN))))))))
   (Y.af (Y.set (i:=11) aM.nd rfl (by right) (Y.fn K rfl h_law_goals (hr.mono (by decide)) rfl ax (Y.cons (Y.vS 0) Y.nil)))
   (Y.af (Y.eL (Y.aV (Y.fh K rfl (Ks hu)) Y.fm (Y.fn K rfl hcalm_least_widths (hr.mono (by decide)) rfl ax (Y.cons (Y.ct (Y.bM K rfl) Y.bZ rfl T.cu (by decide +kernel) (Y.cons (Y.vS 5) Y.nil)) (Y.cons (Y.vS 11) Y.nil))) (Y.ct (Y.bM K rfl) Y.bZ rfl T.cu (by decide +kernel) (Y.cons (Y.vS 6) Y.nil))) (Y.aA (Y.ret Y.bl)) Y.bN)
   (Y.aA (Y.ret (Y.and (Y.cmp (Y.b6 K rfl (Ks hu)) Y.cy (Y.ix (Y.aD K rfl) Y.ai (Y.vS 4) Y.int) Y.int) (Y.one (Y.cmp Y.DH Y.BU (Y.fn K rfl hare_good (hr.mono (by decide)) rfl ax (Y.cons (Y.ct (Y.bM K rfl) Y.bZ rfl T.cu (by decide +kernel) (Y.cons (Y.vS 5) Y.nil)) (Y.cons (Y.vS 11) (Y.cons (Y.ct (Y.bM K rfl) Y.bZ rfl T.cu (by decide +kernel) (Y.cons (Y.vS 6) Y.nil)) Y.nil)))) Y.bl)))))))))))),?_⟩
 have f0:∀ x y:L2.T,bw [x,y] 0=some x:=fun _ _=>rfl;have f1:∀ x y:L2.T,bw [x,y] 1=some y:=fun _ _=>rfl;refine aq fun N hN=>?_;exists f0;ac_rfl;have sz:∀ n:Nat,n<=20000->n<=sizeLine:=fun n h=>Kq h (by decide)
 have epl2:nI Pl.dropLast++[L2.T.int (bits.length:Int)]=nI Pl:=by rw[<- epl,jm];simp;rfl
 refine aq fun N hN=>?_;exists f1,bE,bJ;rw[epl2];refine⟨sz _ hb2,by decide,sz _ (by rw[MB];lia),?_⟩
 ac_rfl;obtain⟨tt,ett⟩:∃ tt,tt=L2.T.tup [L2.T.str (wd bits),L2.T.tup (nI Pl.dropLast)]:=⟨_,rfl⟩;obtain⟨ct,ect⟩:∃ ct,ct=L2.T.lst (cd.map fun ws=>L2.T.lst (wT ws)):=⟨_,rfl⟩;rw[<- ett,<- ect];clear ett epl epl2;refine aq fun N hN=>?_;rfl';symm;rfl';symm;exists qM;refine⟨by lia,by lia,?_⟩
 rw[K6,Lw];refine bz (fun rest μ=>∃(i:Nat) (o7 o8 o9 o10:Option L2.T),i<=rs.length/\(rest=(List.range' i (rs.length-i)).map fun k:Nat=>L2.T.int (0+(k:Int)))/\μ=[.tr (.tup (rT rs)),.tr tt,.tr ct,.tr (.str (wd bits)),.bx (.lst (nI Pl)),.bx (.lst (nI ((aE hs).take i))),.bx (.lst (nO (ws.take i))),sl o7,sl o8,sl o9,sl o10,.un]) ⟨0,none,none,none,none,KN _,rfl,rfl⟩ ?_ ?_
 ·rintro μ ⟨i,o7,o8,o9,o10,hi,e,rfl⟩;have hi2:i=rs.length:=by
   have:=K4 List.length e;rw[JY,Lu,K8] at this;lia
  subst hi2;rw[LL (by rw[hsl];exact Kc _),LL (by rw[gw.lw,hsl];exact Kc _)]
  show N _;symm;rfl';refine⟨rs,rfl,h60,?_⟩;rfl';symm;rfl';refine⟨aE hs,rs.map aT,ws,ps,_,_,rfl,.inl rfl,.inl rfl,hgl.trans hsl.symm,by rw[hsl];exact h60,hgo,hres,?_⟩
  rfl';refine⟨jz _,jz _,?_⟩;rw[JZ (by rw[uw];decide)]
  ac_rfl;have p0:bw (nI Pl) 0=some (.int (Pl.getD 0 0)):=lK (j:=0) (dn (by lia))
  rw[hP0] at p0;exists p0;refine⟨aE hs,rs.map aT,ws,rfl,gw,?_⟩;rw[good];rfl';exact q
 ·rintro t ts μ M ⟨i,o7,o8,o9,o10,hi,e,rfl⟩ k;have hi2:i<rs.length:=by
   have:=K4 List.length e;rw[JY,Lu,Kj] at this;lia
  rw[show rs.length-i=(rs.length-(i+1))+1 by lia,Lj,KD] at e
  obtain⟨rfl,rfl⟩:=List.cons.inj e;clear e;rw[Ny];have p1:bw (nI Pl) (i:Int)=some (.int (Pl.getD i 0)):=lK (dn (by lia))
  have p2:bw (nI Pl) ((i:Int)+1)=some (.int (Pl.getD (i+1) 0)):=lK (j:=i+1) (dn (by lia))
  have ar:bw (rT rs) (i:Int)=some rs[i].t:=bB (by unfold rT;rw[Kg,JV hi2];rfl)
  rfl';refine aq fun M2 h2=>?_;exists p1,ar;have hpn:=(hbd i).1;obtain⟨at_,eat⟩:∃ a:Nat,Pl.getD i 0=(a:Int):=⟨(Pl.getD i 0).toNat,by lia⟩
  have hla:(cV Pl (rs.map aT) ws hs i).length=at_:=by have:=hll i (by lia);lia
  obtain⟨sfx,esf⟩:=uL Pl (rs.map aT) ws hs hi2;rw[<- ebits,hla] at esf;have ehi:hs.getD i []=aN cd rs[i]:=by rw[ehs,Kd,Kg,JV hi2];rfl
  rw[ehi] at esf;rw[eat];refine⟨bits,at_,rs.length,rs[i],cd,_,by rw[ect],hb2,hP.ok _ (K3 hi2),hP.cd,hpf,esf,?_⟩
  rfl';refine h2 _ ?_;clear h2 M2;refine aq fun M2 h2=>?_;rfl';refine h2 _ ?_;clear h2 M2;refine aq fun M2 h2=>?_;exists p1;have hsi:(aE hs)[i]?=some ((aN cd rs[i]).length:Int):=by
   unfold aE;rw[ehs,Kg,Kg,JV hi2];rfl
  have hwl:=gw.lw;have hi3:i<ws.length:=by rw[hwl,hsl];exact hi2
  have ek:ws[i]?=some (ws.getD i none):=by rw[Kd,JV hi3];rfl
  have es:nI ((aE hs).take i)++[L2.T.int (((at_+(aN cd rs[i]).length:Nat):Int)-Pl.getD i 0)]=nI ((aE hs).take (i+1)):=by
   rw[M5,hsi,jm,eat];congr 1;show [L2.T.int _]=[L2.T.int _];congr 2;lia
  rw[es];refine⟨Kx (show _<=60 by rw[bJ,KO];lia) (by decide),?_⟩
  refine h2 _ ?_;clear h2 M2 es;refine aq fun M2 h2=>?_;rfl';refine⟨Kx (show _<=60 by rw[fj,KO];lia) (by decide),?_⟩
  refine h2 _ ?_;clear h2 M2;have hjl:Pl.getD (i+1) 0=((at_+(aN cd rs[i]).length+(iA Pl (rs.map aT) ws i).length:Nat):Int):=by
   have:=hll (i+1) (by lia)
   rw[eO,JX,JX,hla,ehi] at this;rw[<- this];congr 1;lia
  have hgi:(rs.map aT).getD i none=aT rs[i]:=by rw[Kd,Kg,JV hi2];rfl
  have nxt:∀(o9 o10:Option L2.T),M [.tr (.tup (rT rs)),.tr tt,.tr ct,.tr (.str (wd bits)),.bx (.lst (nI Pl)),.bx (.lst (nI ((aE hs).take (i+1)))),.bx (.lst (nO (ws.take (i+1)))),.tr (.int (i:Int)),.tr (.int (Pl.getD (i+1) 0)),sl o9,sl o10,.un]:=fun o9 o10=>k _ ⟨i+1,some _,some _,o9,o10,hi2,rfl,rfl⟩;have two:(Y.eF (.str rs[i].wd) [.str "jump",.str "zero"]=false/\aT rs[i]=none)\/(Y.eF (.str rs[i].wd) [.str "jump",.str "zero"]=true/\∃ g,aT rs[i]=some g/\bw (.str rs[i].wd::rs[i].fC.map Pk.t) (-1)=some (.int (g:Nat))):=by
   generalize rs[i]=x
   cases x with
   |put b n=>exact .inl ⟨show Y.eF (L2.T.str (Str.ofString "put")) _=false by decide +kernel,rfl⟩
   |two u a b=>exact .inl ⟨(by decide +kernel:∀ u,Y.eF (.str (w2 u)) [.str "jump",.str "zero"]=false) u,rfl⟩
   |one u b=>exact .inl ⟨(by decide +kernel:∀ u,Y.eF (.str (w1 u)) [.str "jump",.str "zero"]=false) u,rfl⟩
   |jump g=>exact .inr ⟨show Y.eF (L2.T.str (Str.ofString "jump")) _=true by decide +kernel,g,rfl,rfl⟩
   |zero b g=>exact .inr ⟨show Y.eF (L2.T.str (Str.ofString "zero")) _=true by decide +kernel,g,rfl,rfl⟩
   |halt=>exact .inl ⟨show Y.eF (L2.T.str (Str.ofString "halt")) _=false by decide +kernel,rfl⟩
  have ar2:bw (rT rs) (i:Int)=some (.tup (.str rs[i].wd::rs[i].fC.map Pk.t)):=by rw[ar,Row.uS]
  refine aq fun M2 h2=>?_;rcases two with ⟨n1,n2⟩|⟨n1,g,n2,n3⟩
  ·have ew:nO (ws.take i)++[L2.T.aC]=nO (ws.take (i+1)):=by
    rw[M5,ek];rcases pz hpat i (by lia) with ⟨_,b⟩|⟨g,k,a,_⟩
    ·rw[b];unfold nO;rw[Kt];rfl
    ·rw[hgi,n2] at a;cases a
   have hj0:(iA Pl (rs.map aT) ws i).length=0:=by unfold iA;rw[hgi,n2];rfl
   rw[hj0] at hjl;exists ar2,n1;rw[ew];refine⟨by decide,rfl,rfl,?_⟩
   refine h2 _ ?_;clear h2 M2;exists p2;have hq:(((at_+(aN cd rs[i]).length:Nat):Int))=Pl.getD (i+1) 0:=by lia
   rw[JZ (MD hq),hq];exact nxt o9 o10
  ·exists ar2,n1;refine⟨by decide,rfl,rfl,?_⟩
   obtain⟨kk,e1,e2⟩:∃ kk,ws.getD i none=some kk/\iA Pl (rs.map aT) ws i=cP kk (Pl.getD g 0-Pl.getD (i+1) 0):=by
    rcases pz hpat i (by lia) with ⟨a,_⟩|⟨g',k,a,b⟩
    ·rw[hgi,n2] at a;cases a
    ·rw[hgi,n2] at a;cases a;refine⟨k,b,?_⟩;unfold iA;rw[hgi,n2,b]
   rw[e1] at ek;have hk3:=gw.w3.at ek;have eg:(rs.map aT)[i]?=some (some g):=by rw[Kg,JV hi2,<- n2];rfl
   have hf:=hgf (by lia) eg ek
   unfold gA at hf;rw[KI,NS,NS] at hf;have hg1:=hgo i g eg;have pg:bw (nI Pl) (g:Int)=some (.int (Pl.getD g 0)):=lK (dn (by lia))
   rw[e2] at hjl esf;have ew:(nO (ws.take i)++[L2.T.aC]).set i (.int (kk:Int))=nO (ws.take (i+1)):=by
    rw[M5,ek];have hl:(nO (ws.take i)).length=i:=by rw[fj,KO];lia
    rw[List.set_append_right _ _ (by lia),hl,M8]
    unfold nO;rw[Kt];rfl
   have xk:ie (nO (ws.take i)++[L2.T.aC]).length (i:Int)=some i:=by
    rw[JX,fj,KO];unfold ie;rw[Ke (by lia),Ke (by simp;lia)];simp
   refine aq fun M3 h3=>?_;rfl';refine⟨bits,at_+(aN cd rs[i]).length,kk,_,sfx,rfl,hb2,hk3,hf.1,hf.2,by rw[<- Me,esf,L6],?_⟩
   rfl';refine h3 _ ?_;clear h3 M3;refine aq fun M3 h3=>?_;exists xk;rw[ew];refine h3 _ ?_;clear h3 M3;exists ar2,n3,pg;rw[<- hjl,JZ (MD (by lia))]
   refine h2 _ ?_;clear h2 M2;exists p2;exact nxt (some _) (some _)
noncomputable def BF:dE:=fun args Q=>∃ s:L2.T,args=[s,.int 20]/\fD s/\∀(bk:List (List Int)) (s':L2.T),fD s'->Bk bk->Q (.tr (yE bk)) [s']
abbrev k24z(P w K mg base):=ae P w K mg base aU 3 "_law_book" ["seed","most"] (spT K [true,false] BF)
theorem AH(T:Txt K mg)(F:HasFn K mg "_law_book" e9 ["seed","most"])(h_law_draw:k0z P w K mg base)(h_law_lengths:k14z P w K mg base):k24z P w K mg base:=by
 refine F.fG mR [true,false] rfl (by decide) ?_;left;obtain⟨sd,rfl,hs,q⟩:=h;refine⟨_,(Y.af (Y.eL (Y.aV (Y.b6 K rfl (Ks hu)) Y.cy (Y.fn K rfl h_law_draw (hr.mono (by decide)) rfl ax (Y.cons (Y.vS 0) (Y.cons Y.int Y.nil))) Y.int) (Y.aA (Y.ret (Y.tup (Y.cons (Y.op (Y.mK K rfl) Y.m5 (Y.tup (Y.cons (Y.vS 1) Y.nil)) Y.int) (Y.cons (Y.op (Y.mK K rfl) Y.m5 (Y.tup (Y.cons (Y.vS 1) Y.nil)) Y.int) (Y.cons (Y.op (Y.mK K rfl) Y.m5 (Y.tup (Y.cons (Y.vS 1) Y.nil)) Y.int) Y.nil)))))) Y.bN)
   (Y.aA (Y.ret (Y.tup (Y.cons (Y.fn K rfl h_law_lengths (hr.mono (by decide)) rfl ax (Y.cons (Y.vS 0) (Y.cons Y.int (Y.cons (Y.vS 1) Y.nil)))) (Y.cons (Y.fn K rfl h_law_lengths (hr.mono (by decide)) rfl ax (Y.cons (Y.vS 0) (Y.cons Y.int (Y.cons (Y.vS 1) Y.nil)))) (Y.cons (Y.fn K rfl h_law_lengths (hr.mono (by decide)) rfl ax (Y.cons (Y.vS 0) (Y.cons Y.int (Y.cons (Y.vS 1) Y.nil)))) Y.nil))))))),?_⟩
 refine aq fun N hN=>?_;rfl';refine⟨sd,8,rfl,hs,by decide,by decide,fun v s2 hs2 v0 v1=>?_⟩
 by_cases c:v=0
 ·exists Ke c;have key:∀ n:Nat,n=9\/n=17\/n=8->jx (List.replicate n 20)/\ng (List.replicate n 20)=true:=fun n hn=>by
   refine⟨⟨by rw[Kl];lia,by rw[Kl];lia,fun x hx=>by rw[(Lv.mp hx).2];decide⟩,?_⟩
   rcases hn with rfl|rfl|rfl<;>decide +kernel
  refine⟨by decide,⟨by simp,by decide,by decide⟩,by decide,⟨by simp,by decide,by decide⟩,by decide,⟨by simp,by decide,by decide⟩,by decide,q [List.replicate 9 20,List.replicate 17 20,List.replicate 8 20] s2 hs2 ⟨_,_,_,rfl,rfl,rfl,rfl,fun l hl=>?_⟩⟩
  rcases Ki.mp hl with rfl|hl
  ·exact key 9 (.inl rfl)
  ·rcases Ki.mp hl with rfl|hl
   ·exact key 17 (.inr (.inl rfl))
   ·rw[Ko.mp hl];exact key 8 (.inr (.inr rfl))
 ·exists JZ c;ac_rfl;rfl';refine⟨s2,9,rfl,hs2,by decide,by decide,fun a s3 hs3 la La oa=>?_⟩
  rfl';refine⟨s3,17,rfl,hs3,by decide,by decide,fun b s4 hs4 lb Lb ob=>?_⟩
  rfl';refine⟨s4,8,rfl,hs4,by decide,by decide,fun c s5 hs5 lc Lc oc=>?_⟩
  rfl';refine⟨by decide,q [a,b,c] s5 hs5 ⟨a,b,c,rfl,la,lb,lc,fun l hl=>?_⟩⟩
  rcases Ki.mp hl with rfl|hl
  ·exact⟨La,oa⟩
  ·rcases Ki.mp hl with rfl|hl
   ·exact⟨Lb,ob⟩
   ·rw[Ko.mp hl];exact⟨Lc,oc⟩
theorem Fz{C:Addr}(args:List L2.T)(Q:R->List L2.T->Prop)(h:xf args Q):AR C args Q fun _=>False:=by
 obtain⟨ls,e,h1,h2,q⟩:=h;exact⟨ls,e,h1,.inl ⟨h2,q⟩⟩
theorem J6(args:List L2.T)(Q:R->List L2.T->Prop)(h:ny args Q):rZ mg args Q fun _=>False:=by
 obtain⟨ss,gs,ws,ps,t1,t2,e,k1,k2,h1,h2,h3,h4,q⟩:=h;refine⟨ss,gs,t1,t2,e,k1,k2,h1,h2,h3,fun ws' ps' e' _ _=>?_,fun e'=>?_⟩
 ·rw[h4] at e';cases e';exact q
 ·rw[h4] at e';cases e'
noncomputable def Bz(w:List Nat):Prop:=∀ c∈w,c=48\/c=49
theorem Bz.app(h:Bz a)(g:Bz b):Bz (a++b):=fun c hc=>(KZ.mp hc).elim (h c) (g c)
theorem oG(n:Nat):Bz (List.replicate n 48):=fun c hc=>.inl (Lv.mp hc).2
theorem xQ{w:List Nat}(h:Bz w):Bz (Cw.eZ w n):=by
 unfold Cw.eZ Cw.pad;refine Bz.app (Bz.app (fun c hc=>h c ?_) (by intro c hc;rw[Ko.mp hc];exact .inr rfl)) (oG _)
 exact Ml.mp ((MX _).subset (Ml.mp ((List.dropLast_sublist _).subset hc)))
theorem j9(ln:Nat->Nat):∀(o:List Nat) (a:Option (List Nat)) (ws:List (List Nat)),(∀ v,a=some v->Bz v)->(∀ x∈ws,Bz x)->∀ x∈(Cw.along Cw.eZ ln o (a,ws)).2,Bz x
 |[],_,_,_,h=>h
 |t::r,a,ws,ha,h=>by
  have key:∀ w,Bz w->∀ x∈(Cw.along Cw.eZ ln r (some w,ws.set t w)).2,Bz x:=fun w hw=>j9 ln r _ _ (fun v e=>by cases e;exact hw) fun x hx=>by
   rcases Mb hx with hx|rfl
   ·exact h x hx
   ·exact hw
  cases a with
  |none=>exact key _ (oG _)
  |some v=>exact key _ (xQ (ha v rfl))
theorem qk(ls:List Int):∀ x∈wordsOf Cw.eZ ls,Bz x:=j9 _ _ _ _ (fun v e=>by cases e) fun x hx=>by rw[(Lv.mp hx).2];intro c hc;cases hc
theorem tR(bk:List (List Int))(p:Nat×Nat):Bz (dw (cW bk) p):=by
 unfold dw;intro c hc;rw[Kd,Kd] at hc
 cases e:(cW bk)[p.1]? with
 |none=>rw[e] at hc;simp at hc
 |some ws =>
  rw[e] at hc;obtain⟨l,_,rfl⟩:=KA.mp (KW e)
  cases e2:(wordsOf Cw.eZ l)[p.2]? with
  |none=>rw[Ov,e2] at hc;simp at hc
  |some x =>
   rw[Ov,e2] at hc;exact qk l x (KW e2) c hc
theorem t_(r:Row):Bz (gr r):=by
 cases r with
 |put b n=>exact fun c hc=>cD _ _ [] (by simp) c (List.mem_of_mem_tail hc)
 |_=>intro c hc;cases hc
theorem ur(bk:List (List Int))(r:Row):Bz (aN (cW bk) r):=by
 refine Bz.app (fun c hc=>?_) (t_ r);obtain⟨p,_,hc⟩:=Ow.mp hc;exact tR bk p c hc
theorem tZ(k:Nat)(d:Int):Bz (cP k d):=by
 refine Bz.app (fun c hc=>?_) (cD _ _ [] (by simp))
 unfold cz at hc
 split at hc<;>simp at hc<;>lia
theorem tN(bk:List (List Int))(P:List Int)(gs ws:List (Option Nat))(rs:List Row)(n:Nat):Bz (cV P gs ws (rs.map (aN (cW bk))) n):=by
 unfold cV;intro c hc;obtain⟨j,_,hc⟩:=Ow.mp hc;rcases KZ.mp hc with hc|hc
 ·rw[Kd,Kg] at hc
  cases e:rs[j]? with
  |none=>rw[e] at hc;simp at hc
  |some r=>rw[e] at hc;exact ur bk r c hc
 ·unfold iA at hc
  split at hc
  ·exact tZ _ _ c hc
  ·cases hc
theorem FG{bk:List (List Int)}(h:Bk bk):∀ ws∈cW bk,PF ws:=by
 intro ws hw;obtain⟨l,hl,rfl⟩:=KA.mp hw;obtain⟨a,b,c,rfl,_,_,_,hbl⟩:=h;obtain⟨hL,ho⟩:=hbl l hl;have hc:=canon hL (LD ho);have g:∀ k (hk:k<(wordsOf Cw.eZ l).length),(wordsOf Cw.eZ l)[k]=(wordsOf Cw.eZ l).getD k []:=fun k hk=>by rw[Kd,JV hk];rfl
 intro i j hi hj hij;rw[g i hi,g j hj];rw[hc.len] at hi hj;rcases Int.lt_trichotomy (l.getD i 0) (l.getD j 0) with e|e|e
 ·exact (hc.part i j hi hj (.inl e)).not.1
 ·rcases Nat.lt_or_gt_of_ne hij with d|d
  ·exact (hc.part i j hi hj (.inr ⟨e,d⟩)).not.1
  ·exact (hc.part j i hj hi (.inr ⟨e.symm,d⟩)).not.2
 ·exact (hc.part j i hj hi (.inl e)).not.2
theorem CU(T:Txt K mg)(F:yB K "law" "law" fB f fd)(h_law_folded:ae P w K mg base aU 1 "_law_folded" ["script"] (spT K [false] Bj))(h_law_seed:ae P w K mg base aU 1 "_law_seed" ["cell"] (spT K [false] Bw))(h_law_program:k13z P w K mg base)(h_law_book:k24z P w K mg base)
  (hpack_rows:k21z P w K mg base) (h_law_right:k11z P w K mg base) (h_law_code:ae P w K mg base aU 2 "_law_code" ["lengths"] (spT K [false] ve)):d_ P w K mg base aU 9 f fd ["script"] (lO K):=by
 refine D8 (Ag F i9 [false] rfl (by decide) (fun args Qt hl h cdv A outer s H E hr=>?_))
 have hu:=aS hr;obtain⟨ns,rfl,hn,q⟩:=h;refine⟨_,(Y.af (Y.eU K9 rfl (Y.anyS K rfl (Y.op (Y.au K rfl) Y.av (Y.dS K rfl (Y.vS 0) Y.DF (Y.mT Y.int)) (Y.lst (Y.cons (Y.fn K rfl h_law_folded (hr.mono (by decide)) rfl ax (Y.cons (Y.vS 0) Y.nil)) Y.nil)))) (Y.aG (i:=1) i9.nd rfl (by right)) (Y.af (Y.set (i:=2) i9.nd rfl (by right) (Y.fn K rfl h_law_seed (hr.mono (by decide)) rfl ax (Y.cons (Y.vS 1) Y.nil)))
   (Y.af (Y.set (i:=3) i9.nd rfl (by right) (Y.fn K rfl h_law_program (hr.mono (by decide)) rfl ax (Y.cons (Y.vS 2) (Y.cons Y.int (Y.cons Y.int Y.nil)))))
   (Y.af (Y.set (i:=4) i9.nd rfl (by right) (Y.fn K rfl h_law_book (hr.mono (by decide)) rfl ax (Y.cons (Y.vS 2) (Y.cons Y.int Y.nil))))
   (Y.af (Y.set (i:=5) i9.nd rfl (by right) (Y.fn K rfl hpack_rows (hr.mono (by decide)) rfl ax (Y.cons (Y.vS 3) (Y.cons (Y.vS 4) Y.nil))))
   (Y.af (Y.eL (Y.tw (Y.Br (Y.mO (Y.iK K rfl (Y.Hg (C:="tuple") K rfl rfl T.dD (Y.vS 5) rfl T.cu (by decide +kernel)))) (Y.Br (Y.aV (Y.fh K rfl (Ks hu)) Y.fm (Y.cb (Y.aH K rfl) Y.bp rfl T.cI (by decide +kernel) (Y.cons (Y.vS 5) Y.nil)) Y.int) (Y.qC (Y.mO (Y.iK K rfl (Y.Hg (C:="str") K rfl rfl T.dD (Y.ix (Y.aD K rfl) Y.ai (Y.vS 5) Y.int) rfl T.wN (by decide +kernel)))))))) (Y.aA (Y.ret Y.bl)) Y.bN)
   (Y.af (Y.eL (Y.tw (Y.Br (Y.mO (Y.iK K rfl (Y.Hg (C:="tuple") K rfl rfl T.dD (Y.ix (Y.aD K rfl) Y.ai (Y.vS 5) Y.int) rfl T.cu (by decide +kernel)))) (Y.qC (Y.aV (Y.fh K rfl (Ks hu)) Y.fm (Y.cb (Y.aH K rfl) Y.bp rfl T.cI (by decide +kernel) (Y.cons (Y.ix (Y.aD K rfl) Y.ai (Y.vS 5) Y.int) Y.nil)) (Y.cb (Y.aH K rfl) Y.bp rfl T.cI (by decide +kernel) (Y.cons (Y.vS 3) Y.nil)))))) (Y.aA (Y.ret Y.bl)) Y.bN)
   (Y.af (Y.eL (Y.aV (Y.fh K rfl (Ks hu)) Y.fm (Y.iD (osc:=aa fB) (ON:=["script","cell","seed","program","book","told"]) (own:=["sign"]) (N:=["sign","script","cell","seed","program","book","told"]) ⟨rfl,by decide +kernel,rfl,by decide +kernel,by decide +kernel,by decide +kernel,by decide +kernel,by decide +kernel⟩ rfl rfl rfl rfl (Y.Jw (Y.ix (Y.aD K rfl) Y.ai (Y.vS 5) Y.int)) (fun _ _ _ _=>(Z.aG (i:=0) (show List.Nodup (["sign","script","cell","seed","program","book","told"]:List Str) by decide +kernel) rfl (by right))) (fun _ _ _ _=>(Y.Hw (Y.aV (Y.zB K rfl) Y.lP (Y.vS 0) Y.str))) (fun _ _ _ _=>(Y.vS 0))) (Y.lst Y.nil)) (Y.aA (Y.ret Y.bl)) Y.bN)
   (Y.aA (Y.eL (Y.mO (Y.iK K rfl (Y.fn K rfl h_law_right (hr.mono (by decide)) rfl ax (Y.cons (Y.vS 3) (Y.cons (Y.vS 5) (Y.cons (Y.iD (osc:=aa fB) (ON:=["script","cell","seed","program","book","told"]) (own:=["lengths"]) (N:=["lengths","script","cell","seed","program","book","told"]) ⟨rfl,by decide +kernel,rfl,by decide +kernel,by decide +kernel,by decide +kernel,by decide +kernel,by decide +kernel⟩ rfl rfl rfl rfl (Y.anyS K rfl (Y.vS 4)) (fun _ _ _ _=>(Z.aG (i:=0) (show List.Nodup (["lengths","script","cell","seed","program","book","told"]:List Str) by decide +kernel) rfl (by right))) (fun _ _ _ _=>Y.rF) (fun _ _ _ _=>(Y.fn K rfl h_law_code (hr.mono (by decide)) rfl ax (Y.cons (Y.vS 0) Y.nil)))) Y.nil)))))) (Y.aA (Y.ret Y.bl)) Y.bN))))))))))
   (Y.aA (Y.ret Y.bl))),?_⟩
 refine aq fun N hN=>?_;show Y.vo _ _ _ _ (startM [false] [.ee (nI ns)] _);rfl';refine⟨ns,rfl,fun fv=>?_⟩;obtain⟨ms,hms,hlm⟩:∃ ms:List Int,Y.cg (nI ns) none (some 3)++[L2.T.int fv]=nI ms/\(Y.cg (nI ns) none (some 3)).length<=3:=by
  refine⟨Y.cg ns none (some 3)++[fv],?_,?_⟩
  ·unfold nI Y.cg;rw[Kt,NO,NP,JY];rfl
  ·unfold Y.cg;rw[show (some (3:Int))=some ((3:Nat):Int) from rfl,HT.gW,HT.i_,KO];lia
 exists hms;refine⟨by decide,Kq (show (Y.cg (nI ns) none (some 3)).length+1<=4 by lia) (by decide),?_⟩
 clear hms hlm;refine bz (fun rest μ=>∃(ms:List Int) (s1 s3 s4 s5:Option L2.T) (sd:Sl),rest=nI ms/\(sd=.un\/∃ c,sd=.bx c)/\μ=[.tr (.ee (nI ns)),sl s1,sd,sl s3,sl s4,sl s5]) ⟨ms,none,none,none,none,.un,rfl,.inl rfl,rfl⟩ ?_ ?_
 ·rintro μ ⟨ms,s1,s3,s4,s5,sd,_,_,rfl⟩;show N _;ac_rfl;rfl';exact q
 ·rintro t ts μ M ⟨ms,s1,s3,s4,s5,sd,e,hsd,rfl⟩ k
  cases ms with
  |nil=>cases e
  |cons m ms =>
   cases e;have nsd:nb (some sd)=True:=by rcases hsd with rfl|⟨c,rfl⟩<;>rfl
   rfl';refine aq fun M' hM=>?_;exists nsd;refine⟨m,rfl,fun sd1 hs1=>?_⟩;exists nsd;refine hM _ ?_;clear hM M';refine aq fun M' hM=>?_;rfl';refine⟨sd1,rfl,hs1,fun rs sd2 hs2 h60 aO=>?_⟩;rfl';refine hM _ ?_;clear hM M';refine aq fun M' hM=>?_;rfl';refine⟨sd2,rfl,hs2,fun b sd3 hs3 hb=>?_⟩;rfl';refine hM _ ?_;clear hM M';have hP:Ea rs (cW b):=⟨h60,aO,hb.cd⟩;have hsl:(aE (rs.map (aN (cW b)))).length=rs.length:=by unfold aE;rw[JY,JY]
   obtain⟨ws,ps,hres⟩:=res_some hP.sz (by rw[hsl,JY]) (by rw[hsl];exact h60) hP.go
   obtain⟨gw,_,_⟩:=qL (by rw[hsl,JY]) (by rw[hsl];exact h60) hP.go hres
   refine aq fun M' hM=>?_;rfl';refine⟨rs,b,ws,ps,rfl,hb,hP,hres,?_⟩;rfl';refine hM _ ?_;clear hM M';have t1:hZ "tuple" "tuple"=true:=by decide
   have t2:hZ "str" "str"=true:=by decide +kernel
   refine aq fun M' hM=>?_;exists t1,t2;refine hM _ ?_;clear hM M';refine aq fun M' hM=>?_;exists t1,t2,bJ,qM;have hdl:(aF (aE (rs.map (aN (cW b)))) ws).dropLast.length=rs.length:=by rw[MB,fI gw.lw.symm,hsl];rfl
   rw[hdl,JZ (MD rfl)];refine hM _ ?_;clear hM M';have hbits:=tN b (aF (aE (rs.map (aN (cW b)))) ws) (rs.map aT) ws rs rs.length;generalize eB:cV (aF (aE (rs.map (aN (cW b)))) ws) (rs.map aT) ws (rs.map (aN (cW b))) rs.length=B at hbits ⊢;generalize eP:(aF (aE (rs.map (aN (cW b)))) ws).dropLast=P at hdl ⊢;refine aq fun M' hM=>?_;exists t1,t2;have esg:iw (wd B)=B.map fun c=>L2.T.str (wd [c]):=rfl;rw[esg];refine bU (fun rest acc μ=>∃ y:List Nat,(∀ c∈y,c=48\/c=49)/\(rest=y.map fun c=>L2.T.str (wd [c]))/\acc=[]/\μ=[.tr (.ee (nI ns)),.tr (.int m),.bx sd3,.tr (.tup (rT rs)),.tr (yE b),.tr (.tup [.str (wd B),.tup (nI P)])]) ⟨B,hbits,rfl,rfl,rfl⟩ ?_ ?_
   case refine_2 =>
    rintro t r acc μ M2 ⟨y,hy,e2,rfl,rfl⟩ k2
    cases y with
    |nil=>cases e2
    |cons c y =>
     obtain⟨rfl,rfl⟩:=List.cons.inj e2;have ho:Y.E4 (wd [c]) (Str.ofString "01")=true:=by
      rcases hy c Kk with rfl|rfl<;>decide +kernel
     refine⟨trivial,by decide,?_⟩
     exists ho;exact k2 _ _ ⟨y,fun c hc=>hy c (Kh _ hc),rfl,rfl,rfl⟩
   rintro acc μ ⟨y,_,_,rfl,rfl⟩;refine⟨trivial,?_⟩;rfl';refine⟨rfl,rfl,?_⟩;rw[JZ (by decide)]
   refine hM _ ?_;clear hM M';obtain⟨ba,bb,bc,ebk,_,_,_,hbl⟩:=id hb;show Y.tm _ _ _ _ [.tr (.ee (nI ns)),.tr (.int m),.bx sd3,.tr (.tup (rT rs)),.tr (.tup (b.map fun l=>.tup (nI l))),.tr (.tup [.str (wd B),.tup (nI P)])];rfl';refine bU (fun rest acc μ=>∃(x y:List (List Int)),x++y=b/\(rest=y.map fun l=>L2.T.tup (nI l))/\(acc=(cW x).map fun ws=>L2.T.lst (wT ws))/\μ=[.tr (.ee (nI ns)),.tr (.int m),.bx sd3,.tr (.tup (rT rs)),.tr (.tup (b.map fun l=>.tup (nI l))),.tr (.tup [.str (wd B),.tup (nI P)])]) ⟨[],b,rfl,rfl,rfl,rfl⟩ ?_ ?_
   case refine_2 =>
    rintro t r acc μ M ⟨x,y,e1,e2,rfl,rfl⟩ k
    cases y with
    |nil=>cases e2
    |cons z y =>
     obtain⟨rfl,rfl⟩:=List.cons.inj e2;have hz:=hbl z (by rw[<- e1];simp)
     have hd:x.length<=3:=by
      have:=K4 List.length e1;rw[JX,ebk] at this;simp at this;lia
     refine⟨trivial,by unfold cW;rw[JY,JY];exact Kx hd (by decide),?_⟩
     rfl';refine⟨z,rfl,hz.1,hz.2,?_⟩;rfl';refine k _ _ ⟨x++[z],y,by rw[<- e1];simp,rfl,?_,rfl⟩
     unfold cW;rw[Kt,Kt];rfl
   rintro acc μ ⟨x,y,e1,e2,rfl,rfl⟩;have e3:y=[]:=Lq.mp e2.symm;subst e3;rw[Kw] at e1;subst e1;refine⟨trivial,?_⟩;rfl';refine⟨rs,cW x,ws,ps,by rw[eB,eP],hP,FG hb,hres,?_⟩
   rfl';exact k _ ⟨ms,some _,some _,some _,some _,_,rfl,.inr ⟨_,rfl⟩,rfl⟩
theorem Eh(T:Txt K mg)(f_can_be:HasFn K mg "can_be" hW ["lengths"])(f_code_of:HasFn K mg "code_of" cE ["lengths"])(f_word_behind:HasFn K mg "word_behind" c_ ["ahead","length"])(f_goal_of:HasFn K mg "goal_of" fW ["row"])(f_least_widths:HasFn K mg "least_widths" cL ["sizes","goals"])(f_raised_till_good:HasFn K mg "raised_till_good" bP ["sizes","goals"])(f_are_good:HasFn K mg "are_good" f7 ["sizes","goals","widths"])(f_narrowest:HasFn K mg "narrowest" dy ["goals"])(f_first_too_narrow:HasFn K mg "first_too_narrow" bO ["sizes","goals","widths"])(f_fits:HasFn K mg "fits" mE ["starts","goals","widths","row"])(f_distance_of:HasFn K mg "distance_of" df ["starts","goals","row"])(f_row_starts:HasFn K mg "row_starts" dG ["sizes","widths"])(f_own_part:HasFn K mg "own_part" ft ["width"])(f_coded_things:HasFn K mg "coded_things" cF ["row"])(f_codes_of:HasFn K mg "codes_of" dN ["book"])(f_pack_rows:HasFn K mg "pack_rows" bW ["program","book"])(f_bits_ahead_of_goal:HasFn K mg "bits_ahead_of_goal" a_ ["row","codes"])(f_figures_behind_first:HasFn K mg "figures_behind_first" bq ["number"])(f_jump_written:HasFn K mg "jump_written" cN ["width","distance"])(f_last_figures:HasFn K mg "last_figures" cG ["number","many"])(l_folded:HasFn K mg "_law_folded" dk ["script"])(l_seed:HasFn K mg "_law_seed" eE ["cell"])(l_draw:HasFn K mg "_law_draw" e7 ["seed","most"])(l_words:HasFn K mg "_law_words" d8 [])(l_number:HasFn K mg "_law_number" dc ["seed"])(l_row:HasFn K mg "_law_row" fb ["seed","many","words"])(l_program:HasFn K mg "_law_program" b_ ["seed","most","words"])(l_lengths:HasFn K mg "_law_lengths" bI ["seed","many","most"])(l_book:HasFn K mg "_law_book" e9 ["seed","most"])(l_bits:HasFn K mg "_law_bits" ef ["number","width"])(l_code:HasFn K mg "_law_code" du ["lengths"])(l_goals:HasFn K mg "_law_goals" cO ["program"])(l_thing:HasFn K mg "_law_thing" d6 ["bits","at","code"])(l_worth:HasFn K mg "_law_worth" dA ["bits"])(l_far:HasFn K mg "_law_far" fu ["bits","at"])(l_number_read:HasFn K mg "_law_number_read" bR ["bits","at","classes"])(l_row_read:HasFn K mg "_law_row_read" cC ["bits","at","row","codes"])(l_right:HasFn K mg "_law_right" d7 ["program","told","codes"])(F:yB K "law" "law" fB f fd):d_ P w K mg base aU 9 f fd ["script"] (lO K):=by
 obtain⟨C_NoCode,hC_NoCode,kC_NoCode⟩:=T.xs;have dr:=Az (P:=P) (w:=w) (base:=base) T l_draw;have wd9:=uj (P:=P) (w:=w) (base:=base) T l_words;have di:=jK (P:=P) (w:=w) (base:=base) T f_distance_of;have st:=ku (P:=P) (w:=w) (base:=base) T f_row_starts (oO T f_own_part);have la:=zj (P:=P) (w:=w) (base:=base) T f_last_figures;have fi:=zZ (P:=P) (w:=w) (base:=base) T f_fits di;have nT:=uV (P:=P) (w:=w) (base:=base) T f_first_too_narrow st fi;have lw:=uz (P:=P) (w:=w) (base:=base) T f_least_widths (qN T f_raised_till_good (nc T f_narrowest) nT);have co:=zC (P:=P) (w:=w) (base:=base) T f_code_of (Cy T f_can_be) (tL T f_word_behind) hC_NoCode kC_NoCode;have lb:=yA (P:=P) (w:=w) (base:=base) T l_bits;have th:=xU (P:=P) (w:=w) (base:=base) T l_thing;have wo:=xh (P:=P) (w:=w) (base:=base) T l_worth;have pk:=zt T f_pack_rows (xp T f_codes_of ((co.calm Fz).mono (by decide))) (vM T f_bits_ahead_of_goal (wy T f_coded_things) (Cj T f_figures_behind_first la)) (yS T f_goal_of) (lw.calm J6) st di (yN T f_jump_written la)
 exact CU T F (t5 T l_folded) (A2 T l_seed) (p8 T l_program dr (DN T l_row dr wd9 (tY T l_number dr))) (AH T l_book dr (wX T l_lengths dr)) pk (wm T l_right (zo T l_row_read th wd9 (yI T l_number_read th wo)) (Co T l_far wo) (uJ T l_goals) (lw.calm J6) (vQ T f_are_good nT)) (yi T l_code lb)
local macro_rules | `(tactic| walk_at "b1") => `(tactic| (intro _ _ _ _ _ _ us hl; obtain ⟨_, e⟩ := L2.Y.vA hl; subst e; rfl))
theorem fA{x:Str}{st:Stmt}{ps:List Str}{oc:Value}{od an:Option Addr}{osl:Array (Option Value)}{kV doc pm cdv ct:Value}(X:K.In h)(G:h.Ns mainGlobals mg)(a:PySem.W.nsIn K mainGlobals x=some (some (.ref f)))
  (l:K.lookup f=some ⟨oc,od,.func (PySem.W.fnOf x x (dC st) (bA st) (aa st) .none kV doc pm an cdv ct),osl⟩) (c:PySem.W.codeIn K cdv x=true) (k:PySem.W.keepIn K (.ref f)=true)
  (hb:∀(kV doc pm:Value) (an:Option Addr) (cdv ct:Value) (us:List Value),us.length=ps.length->bindArgs (PySem.W.fnOf x x (dC st) (bA st) (aa st) .none kV doc pm an cdv ct) ⟨us,[]⟩=pure (ps.zip us)):HasFn K mg x st ps:=
 ⟨f,_,pH l c k,(pH l c k).binds hb,PySem.W.mg_of X G a⟩
theorem all_mk{w:World}{fa:Addr}(X:K.In h)(G:h.Ns mainGlobals mg)(hfa:mg "law"=some (.ref fa))
  {f1 f38:Addr} {od1 an1 od38 an38:Option Addr} {sl1 sl38:Array (Option Value)} {oc1 kV1 dc1 pm1 cd1 ct1 oc38 kV38 dc38 pm38 cd38 ct38:Value}
  {q0:Addr} {qn0:Nat} {qs0:Array (Option Value)} {w0_0 w0_1 w0_2 w0_3 w0_4 w0_5 w0_6 w0_7:Tok}
  {q1:Addr} {qd1:Option Addr} {qn1:Nat} {qs1:Array (Option Value)} {w1_0 w1_1 w1_2:Tok}
  {q2:Addr} {qd2:Option Addr} {qn2:Nat} {qs2:Array (Option Value)} {w2_0 w2_1 w2_2:Tok}
  {w3_0:Tok}
  {w4_0:Tok}
  {w5_0:Tok}
  {w6_0:Tok}
  {q7:Addr} {qd7:Option Addr} {qn7:Nat} {qs7:Array (Option Value)} {w7_0 w7_1 w7_2:Tok}
  {dd0:Addr} {dh0_ep:Nat} {dh0_0 dh0_1 dh0_2 dh0_3 dh0_4 dh0_5 dh0_6 dh0_7 dh0_8:Int} {dp0_0 dp0_1 dp0_2 dp0_3 dp0_4 dp0_5 dp0_6 dp0_7 dp0_8:Addr} {do0_0 do0_1 do0_2 do0_3 do0_4 do0_5 do0_6 do0_7 do0_8:Option Addr} {dn0_0 dn0_1 dn0_2 dn0_3 dn0_4 dn0_5 dn0_6 dn0_7 dn0_8:Nat} {ds0_0 ds0_1 ds0_2 ds0_3 ds0_4 ds0_5 ds0_6 ds0_7 ds0_8:Array (Option Value)} {dt0_0 dt0_1 dt0_2 dt0_3 dt0_4 dt0_5 dt0_6 dt0_7 dt0_8 dw0_0_0 dw0_0_1 dw0_1_0 dw0_1_1 dw0_2_0 dw0_2_1 dw0_3_0 dw0_3_1 dw0_4_0 dw0_5_0 dw0_6_0 dw0_7_0 dw0_7_1:Tok}
  {xc0:Addr}
  {xd_NoCode:Addr}
      
  (F0:HasFn K mg "can_be" hW ["lengths"])
  (a1:PySem.W.nsIn K mainGlobals "code_of"=some (some (.ref f1))) (l1:K.lookup f1=some ⟨oc1,od1,.func (PySem.W.fnOf "code_of" "code_of" (dC cE) (bA cE) (aa cE) .none kV1 dc1 pm1 an1 cd1 ct1),sl1⟩) (c1:PySem.W.codeIn K cd1 "code_of"=true) (k1:PySem.W.keepIn K (.ref f1)=true)
  (F2:HasFn K mg "word_behind" c_ ["ahead","length"])
  (F3:HasFn K mg "goal_of" fW ["row"])
  (F4:HasFn K mg "least_widths" cL ["sizes","goals"])
  (F5:HasFn K mg "raised_till_good" bP ["sizes","goals"])
  (F6:HasFn K mg "are_good" f7 ["sizes","goals","widths"])
  (F7:HasFn K mg "narrowest" dy ["goals"])
  (F8:HasFn K mg "first_too_narrow" bO ["sizes","goals","widths"])
  (F9:HasFn K mg "fits" mE ["starts","goals","widths","row"])
  (F10:HasFn K mg "distance_of" df ["starts","goals","row"])
  (F11:HasFn K mg "row_starts" dG ["sizes","widths"])
  (F12:HasFn K mg "own_part" ft ["width"])
  (F13:HasFn K mg "coded_things" cF ["row"])
  (F14:HasFn K mg "codes_of" dN ["book"])
  (F15:HasFn K mg "pack_rows" bW ["program","book"])
  (F16:HasFn K mg "bits_ahead_of_goal" a_ ["row","codes"])
  (F17:HasFn K mg "figures_behind_first" bq ["number"])
  (F18:HasFn K mg "jump_written" cN ["width","distance"])
  (F19:HasFn K mg "last_figures" cG ["number","many"])
  (F20:HasFn K mg "_law_folded" dk ["script"])
  (F21:HasFn K mg "_law_seed" eE ["cell"])
  (F22:HasFn K mg "_law_draw" e7 ["seed","most"])
  (F23:HasFn K mg "_law_words" d8 [])
  (F24:HasFn K mg "_law_number" dc ["seed"])
  (F25:HasFn K mg "_law_row" fb ["seed","many","words"])
  (F26:HasFn K mg "_law_program" b_ ["seed","most","words"])
  (F27:HasFn K mg "_law_lengths" bI ["seed","many","most"])
  (F28:HasFn K mg "_law_book" e9 ["seed","most"])
  (F29:HasFn K mg "_law_bits" ef ["number","width"])
  (F30:HasFn K mg "_law_code" du ["lengths"])
  (F31:HasFn K mg "_law_goals" cO ["program"])
  (F32:HasFn K mg "_law_thing" d6 ["bits","at","code"])
  (F33:HasFn K mg "_law_worth" dA ["bits"])
  (F34:HasFn K mg "_law_far" fu ["bits","at"])
  (F35:HasFn K mg "_law_number_read" bR ["bits","at","classes"])
  (F36:HasFn K mg "_law_row_read" cC ["bits","at","row","codes"])
  (F37:HasFn K mg "_law_right" d7 ["program","told","codes"])
  (a38:PySem.W.nsIn K mainGlobals "law"=some (some (.ref f38))) (l38:K.lookup f38=some ⟨oc38,od38,.func (PySem.W.fnOf "law" "law" (dC fB) (bA fB) (aa fB) .none kV38 dc38 pm38 an38 cd38 ct38),sl38⟩) (c38:PySem.W.codeIn K cd38 "law"=true) (k38:PySem.W.keepIn K (.ref f38)=true)
  (z0:PySem.W.nsIn K mainGlobals "enumerate"=some none)
  (z1:PySem.W.nsIn K mainGlobals "int"=some none)
  (z2:PySem.W.nsIn K mainGlobals "isinstance"=some none)
  (z3:PySem.W.nsIn K mainGlobals "len"=some none)
  (z4:PySem.W.nsIn K mainGlobals "list"=some none)
  (z5:PySem.W.nsIn K mainGlobals "max"=some none)
  (z6:PySem.W.nsIn K mainGlobals "min"=some none)
  (z7:PySem.W.nsIn K mainGlobals "range"=some none)
  (z8:PySem.W.nsIn K mainGlobals "sorted"=some none)
  (z9:PySem.W.nsIn K mainGlobals "str"=some none)
  (z10:PySem.W.nsIn K mainGlobals "tuple"=some none)
  (z11:PySem.W.nsIn K mainGlobals "zip"=some none)
  (g0:PySem.W.nsIn K mainGlobals "BOXES"=some (some (.ref q0))) (m0:K.lookup q0=some ⟨.type "tuple",none,.seq #[.str "a" w0_0,.str "b" w0_1,.str "c" w0_2,.str "d" w0_3,.str "e" w0_4,.str "f" w0_5,.str "g" w0_6,.str "h" w0_7] qn0,qs0⟩)
  (g1:PySem.W.nsIn K mainGlobals "HALVES"=some (some (.ref q1))) (m1:K.lookup q1=some ⟨.type "tuple",qd1,.seq #[.int 8 w1_0,.int 128 w1_1,.int 32768 w1_2] qn1,qs1⟩)
  (g2:PySem.W.nsIn K mainGlobals "HEADS"=some (some (.ref q2))) (m2:K.lookup q2=some ⟨.type "tuple",qd2,.seq #[.str "0" w2_0,.str "10" w2_1,.str "11" w2_2] qn2,qs2⟩)
  (g3:PySem.W.nsIn K mainGlobals "OF_BOXES"=some (some (.int 2 w3_0)))
  (g4:PySem.W.nsIn K mainGlobals "OF_CLASSES"=some (some (.int 1 w4_0)))
  (g5:PySem.W.nsIn K mainGlobals "OF_WORDS"=some (some (.int 0 w5_0)))
  (g6:PySem.W.nsIn K mainGlobals "WIDEST"=some (some (.int 2 w6_0)))
  (g7:PySem.W.nsIn K mainGlobals "WIDTHS"=some (some (.ref q7))) (m7:K.lookup q7=some ⟨.type "tuple",qd7,.seq #[.int 4 w7_0,.int 8 w7_1,.int 16 w7_2] qn7,qs7⟩)
  (dg0:PySem.W.nsIn K mainGlobals "SHAPES"=some (some (.ref dd0))) (dz0:(dd0 == sysModules)=false) (dl0:K.lookup dd0=some ⟨.type "dict",none,.dict #[⟨dh0_0,.str "put" dt0_0,.ref dp0_0⟩,⟨dh0_1,.str "add" dt0_1,.ref dp0_1⟩,⟨dh0_2,.str "sub" dt0_2,.ref dp0_2⟩,⟨dh0_3,.str "copy" dt0_3,.ref dp0_3⟩,⟨dh0_4,.str "tell" dt0_4,.ref dp0_4⟩,⟨dh0_5,.str "hear" dt0_5,.ref dp0_5⟩,⟨dh0_6,.str "jump" dt0_6,.ref dp0_6⟩,⟨dh0_7,.str "zero" dt0_7,.ref dp0_7⟩,⟨dh0_8,.str "halt" dt0_8,.ref dp0_8⟩] dh0_ep,#[]⟩)
  (dm0_0:K.lookup dp0_0=some ⟨.type "tuple",do0_0,.seq #[.str "box" dw0_0_0,.str "number" dw0_0_1] dn0_0,ds0_0⟩)
  (dm0_1:K.lookup dp0_1=some ⟨.type "tuple",do0_1,.seq #[.str "box" dw0_1_0,.str "box" dw0_1_1] dn0_1,ds0_1⟩)
  (dm0_2:K.lookup dp0_2=some ⟨.type "tuple",do0_2,.seq #[.str "box" dw0_2_0,.str "box" dw0_2_1] dn0_2,ds0_2⟩)
  (dm0_3:K.lookup dp0_3=some ⟨.type "tuple",do0_3,.seq #[.str "box" dw0_3_0,.str "box" dw0_3_1] dn0_3,ds0_3⟩)
  (dm0_4:K.lookup dp0_4=some ⟨.type "tuple",do0_4,.seq #[.str "box" dw0_4_0] dn0_4,ds0_4⟩)
  (dm0_5:K.lookup dp0_5=some ⟨.type "tuple",do0_5,.seq #[.str "box" dw0_5_0] dn0_5,ds0_5⟩)
  (dm0_6:K.lookup dp0_6=some ⟨.type "tuple",do0_6,.seq #[.str "goal" dw0_6_0] dn0_6,ds0_6⟩)
  (dm0_7:K.lookup dp0_7=some ⟨.type "tuple",do0_7,.seq #[.str "box" dw0_7_0,.str "goal" dw0_7_1] dn0_7,ds0_7⟩)
  (dm0_8:K.lookup dp0_8=some ⟨.type "tuple",do0_8,.seq #[] dn0_8,ds0_8⟩)
  (xa0:PySem.W.nsIn K mainGlobals "NoReach"=some (some (.ref xc0))) (xq0:PySem.W.excIn K xc0 [.type "ValueError",.type "Exception",.type "BaseException",.type "object"] "ValueError.__new__"=true)
  (xf0:PySem.W.nsIn K mainGlobals "NoCode"=some (some (.ref xd_NoCode)))
  (xf1:PySem.W.excIn K xd_NoCode [.type "ValueError",.type "Exception",.type "BaseException",.type "object"] "ValueError.__new__"=true)
  (le_code_of:cd1=.ref lc_code_of) (lk_code_of:K.lookup lc_code_of=some ⟨lO_code_of,lD_code_of,.fields lv_code_of,lS_code_of⟩) (lw_code_of:lv_code_of[11]?=some (.ref lp_code_of))
  : ∃ fd:FuncData,(∀(s:Shared) (v:Value),BindsTo s fd ⟨[v],[]⟩ [("script",v)])/\∀ base:Heap,K.In base->base.Ns mainGlobals mg->d_ l.prog w K mg base aU 30 fa fd ["script"] (lO K):=by
 have e:=hfa.symm.trans (PySem.W.mg_of X G a38);cases e
 have T:Txt K mg:=⟨PySem.W.mg_none_of X G z0,PySem.W.mg_none_of X G z1,PySem.W.mg_none_of X G z2,PySem.W.mg_none_of X G z3,PySem.W.mg_none_of X G z4,PySem.W.mg_none_of X G z5,PySem.W.mg_none_of X G z6,PySem.W.mg_none_of X G z7,PySem.W.mg_none_of X G z8,PySem.W.mg_none_of X G z9,PySem.W.mg_none_of X G z10,PySem.W.mg_none_of X G z11,⟨.ref q0,_,PySem.W.mg_of X G g0,rfl,fun H B=>.dZ (vs:=[.str "a",.str "b",.str "c",.str "d",.str "e",.str "f",.str "g",.str "h"]) ⟨_,_,_,m0,rfl,rfl,(by show 8<=sizeLine;decide),(.cons ⟨w0_0,rfl⟩ (.cons ⟨w0_1,rfl⟩ (.cons ⟨w0_2,rfl⟩ (.cons ⟨w0_3,rfl⟩ (.cons ⟨w0_4,rfl⟩ (.cons ⟨w0_5,rfl⟩ (.cons ⟨w0_6,rfl⟩ (.cons ⟨w0_7,rfl⟩ .nil))))))))⟩ (.cons (.str _) (.cons (.str _) (.cons (.str _) (.cons (.str _) (.cons (.str _) (.cons (.str _) (.cons (.str _) (.cons (.str _) .nil))))))))⟩,⟨.ref q1,_,PySem.W.mg_of X G g1,rfl,fun H B=>.dZ (vs:=[.int 8,.int 128,.int 32768]) ⟨_,_,_,m1,rfl,rfl,(by show 3<=sizeLine;decide),(.cons ⟨w1_0,rfl⟩ (.cons ⟨w1_1,rfl⟩ (.cons ⟨w1_2,rfl⟩ .nil)))⟩ (.cons (.int _) (.cons (.int _) (.cons (.int _) .nil)))⟩,⟨.ref q2,_,PySem.W.mg_of X G g2,rfl,fun H B=>.dZ (vs:=[.str "0",.str "10",.str "11"]) ⟨_,_,_,m2,rfl,rfl,(by show 3<=sizeLine;decide),(.cons ⟨w2_0,rfl⟩ (.cons ⟨w2_1,rfl⟩ (.cons ⟨w2_2,rfl⟩ .nil)))⟩ (.cons (.str _) (.cons (.str _) (.cons (.str _) .nil)))⟩,⟨.int 2,_,PySem.W.mg_of X G g3,⟨_,rfl⟩,fun H B=>.int _⟩,⟨.int 1,_,PySem.W.mg_of X G g4,⟨_,rfl⟩,fun H B=>.int _⟩,⟨.int 0,_,PySem.W.mg_of X G g5,⟨_,rfl⟩,fun H B=>.int _⟩,⟨.int 2,_,PySem.W.mg_of X G g6,⟨_,rfl⟩,fun H B=>.int _⟩,⟨.ref q7,_,PySem.W.mg_of X G g7,rfl,fun H B=>.dZ (vs:=[.int 4,.int 8,.int 16]) ⟨_,_,_,m7,rfl,rfl,(by show 3<=sizeLine;decide),(.cons ⟨w7_0,rfl⟩ (.cons ⟨w7_1,rfl⟩ (.cons ⟨w7_2,rfl⟩ .nil)))⟩ (.cons (.int _) (.cons (.int _) (.cons (.int _) .nil)))⟩,⟨q0,_,PySem.W.mg_of X G g0,m0,rfl⟩,⟨dd0,PySem.W.mg_of X G dg0,dz0,_,_,_,dl0,⟨rfl,rfl,rfl⟩,rfl,(.cons rfl ⟨dp0_0,rfl,⟨_,_,_,dm0_0,rfl,rfl,(by show 2<=sizeLine;decide),(.cons ⟨dw0_0_0,rfl⟩ (.cons ⟨dw0_0_1,rfl⟩ .nil))⟩⟩ (.cons rfl ⟨dp0_1,rfl,⟨_,_,_,dm0_1,rfl,rfl,(by show 2<=sizeLine;decide),(.cons ⟨dw0_1_0,rfl⟩ (.cons ⟨dw0_1_1,rfl⟩ .nil))⟩⟩ (.cons rfl ⟨dp0_2,rfl,⟨_,_,_,dm0_2,rfl,rfl,(by show 2<=sizeLine;decide),(.cons ⟨dw0_2_0,rfl⟩ (.cons ⟨dw0_2_1,rfl⟩ .nil))⟩⟩ (.cons rfl ⟨dp0_3,rfl,⟨_,_,_,dm0_3,rfl,rfl,(by show 2<=sizeLine;decide),(.cons ⟨dw0_3_0,rfl⟩ (.cons ⟨dw0_3_1,rfl⟩ .nil))⟩⟩ (.cons rfl ⟨dp0_4,rfl,⟨_,_,_,dm0_4,rfl,rfl,(by show 1<=sizeLine;decide),(.cons ⟨dw0_4_0,rfl⟩ .nil)⟩⟩ (.cons rfl ⟨dp0_5,rfl,⟨_,_,_,dm0_5,rfl,rfl,(by show 1<=sizeLine;decide),(.cons ⟨dw0_5_0,rfl⟩ .nil)⟩⟩ (.cons rfl ⟨dp0_6,rfl,⟨_,_,_,dm0_6,rfl,rfl,(by show 1<=sizeLine;decide),(.cons ⟨dw0_6_0,rfl⟩ .nil)⟩⟩ (.cons rfl ⟨dp0_7,rfl,⟨_,_,_,dm0_7,rfl,rfl,(by show 2<=sizeLine;decide),(.cons ⟨dw0_7_0,rfl⟩ (.cons ⟨dw0_7_1,rfl⟩ .nil))⟩⟩ (.cons rfl ⟨dp0_8,rfl,⟨_,_,_,dm0_8,rfl,rfl,(by show 0<=sizeLine;decide),.nil⟩⟩ .nil)))))))))⟩,⟨_,PySem.W.mg_of X G xa0,⟨xq0⟩⟩,⟨_,PySem.W.mg_of X G xf0,⟨xf1⟩⟩,rP.mk' X G (oR a1 l1 le_code_of lk_code_of lw_code_of)⟩
 have F1:HasFn K mg "code_of" cE ["lengths"]:=fA X G a1 l1 c1 k1 (by walk_at "b1")
 exact⟨PySem.W.fnOf "law" "law" (dC fB) (bA fB) (aa fB) .none kV38 dc38 pm38 an38 cd38 ct38,fun s v=>.of_eq rfl,fun base _ _=>(Eh T F0 F1 F2 F3 F4 F5 F6 F7 F8 F9 F10 F11 F12 F13 F14 F15 F16 F17 F18 F19 F20 F21 F22 F23 F24 F25 F26 F27 F28 F29 F30 F31 F32 F33 F34 F35 F36 F37 (pH (st:=fB) l38 c38 k38)).mono (by decide)⟩
theorem walk{loose:List Str}{XP:(Str->Option Value)->Heap->Prop}{YP:World->Heap->Prop}{d:DefRec}{K:Params->Pm}(hn:l.most=some 63)(hdf:d.params.defaults=[])
  (hY:∀(w:World) (h:Heap),YP w h->(K w.params).In h)
  (F:∀(w:World) (mg:Str->Option Value) (fa:Addr) (h:Heap),(K w.params).In h->h.Ns mainGlobals mg->mg d.name=some (.ref fa)->∃ fd:FuncData,(∀(s:Shared) (u:Value),BindsTo s fd ⟨[u],[]⟩ [("script",u)])/\∀ base:Heap,(K w.params).In base->base.Ns mainGlobals mg->d_ l.prog w (K w.params) mg base aU 30 fa fd ["script"] (lO (K w.params))) (hL:∀(w:World) (h:Heap),(K w.params).In h->hG q (K w.params)) :
  PySem.W.WalkO q loose XP YP l.row.toRowW d [] (fun f vs=>PySem.call f vs):=
 L2.zz (n:=63) (k:=30) (x:="script") (CX:=fun _=>aU) (sp:=fun w=>lO (K w.params)) hn (by decide) hdf ⟨rfl,by decide,by decide,rfl⟩ hY F (fun _ _ a ns hl _ hS=>⟨a,ns,rfl,hS,hl,fun _=>rfl⟩) (fun _ _ _ _ _ z=>z) hL
theorem C_(_:K.In h){la_code_of:Addr}{lo_code_of:Value}{ld_code_of:Option Addr}{lfd_code_of:FuncData}{ls_code_of:Array (Option Value)}(nt:PySem.W.noTabs K=true)
  (ma_by_worth:PySem.W.nsIn K mainGlobals "by_worth"=some none)
  (ma_by_weight:PySem.W.nsIn K mainGlobals "by_weight"=some none)
  (ma_code_of:PySem.W.nsIn K mainGlobals "code_of"=some (some (.ref la_code_of))) (ml_code_of:K.lookup la_code_of=some ⟨lo_code_of,ld_code_of,.func lfd_code_of,ls_code_of⟩) (mc_code_of:lfd_code_of.code=.ref lc_code_of) (mk_code_of:K.lookup lc_code_of=some ⟨lO_code_of,lD_code_of,.fields lv_code_of,lS_code_of⟩) (mw_code_of:lv_code_of[11]?=some (.ref lp_code_of)) (mr_code_of:((recsOf q).find? (fun e=>e.name ==("code_of":Str))).isSome=true)
  : hG q K:=hG.of nt (kg ma_by_worth) (kg ma_by_weight) (oR ma_code_of ml_code_of mc_code_of mk_code_of mw_code_of) (by first|exact mn|simp) (.inl rfl) (.inl rfl) (.inr mr_code_of)
end
end G
open PySem PySem.W PyProof.Rows
local macro_rules | `(tactic| walk_at "b0") => `(tactic| (intro _ _ _ _ _ _ us hl; match us, hl with | [], _ => rfl))
local macro_rules | `(tactic| walk_at "b1") => `(tactic| (intro _ _ _ _ _ _ us hl; obtain ⟨_, e⟩ := L2.Y.vA hl; subst e; rfl))
local macro_rules | `(tactic| walk_at "b2") => `(tactic| (intro _ _ _ _ _ _ us hl; obtain ⟨_, _, e⟩ := L2.Y.zg hl; subst e; rfl))
local macro_rules | `(tactic| walk_at "b3") => `(tactic| (intro _ _ _ _ _ _ us hl; obtain ⟨_, _, _, e⟩ := L2.Y.G4 hl; subst e; rfl))
local macro_rules | `(tactic| walk_at "b4") => `(tactic| (intro _ _ _ _ _ _ us hl; obtain ⟨_, _, _, _, e⟩ := L2.Y.Jf hl; subst e; rfl))
set_option maxRecDepth 100000 in
set_option maxHeartbeats 0 in
theorem PySem.Challenge.cw_shortrows_k28_whole_rows_in_the_bits_holds : PySem.Challenge.rw_shortrows_k28_whole_rows_in_the_bits.Holds := by
 w_on;o_law;k_head;(case hw=>w_witness2)
 k_fill
 refine G.walk (l:=PySem.Challenge.rw_shortrows_k28_whole_rows_in_the_bits) rfl rfl (fun w h Y=>by first|exact PySem.W.kIn_of Y|exact PySem.W.km_in_of Y) ?F ?L
 case F =>
  intro w mg fa h KX GN hmg
  refine' G.all_mk KX GN hmg (G.fA KX GN ?a0 ?l0 ?c0 ?k0 (by walk_at "b1")) ?a1 ?l1 ?c1 ?k1 (G.fA KX GN ?a2 ?l2 ?c2 ?k2 (by walk_at "b2")) (G.fA KX GN ?a3 ?l3 ?c3 ?k3 (by walk_at "b1")) (G.fA KX GN ?a4 ?l4 ?c4 ?k4 (by walk_at "b2")) (G.fA KX GN ?a5 ?l5 ?c5 ?k5 (by walk_at "b2")) (G.fA KX GN ?a6 ?l6 ?c6 ?k6 (by walk_at "b3")) (G.fA KX GN ?a7 ?l7 ?c7 ?k7 (by walk_at "b1")) (G.fA KX GN ?a8 ?l8 ?c8 ?k8 (by walk_at "b3")) (G.fA KX GN ?a9 ?l9 ?c9 ?k9 (by walk_at "b4")) (G.fA KX GN ?a10 ?l10 ?c10 ?k10 (by walk_at "b3")) (G.fA KX GN ?a11 ?l11 ?c11 ?k11 (by walk_at "b2")) (G.fA KX GN ?a12 ?l12 ?c12 ?k12 (by walk_at "b1")) (G.fA KX GN ?a13 ?l13 ?c13 ?k13 (by walk_at "b1")) (G.fA KX GN ?a14 ?l14 ?c14 ?k14 (by walk_at "b1")) (G.fA KX GN ?a15 ?l15 ?c15 ?k15 (by walk_at "b2")) (G.fA KX GN ?a16 ?l16 ?c16 ?k16 (by walk_at "b2")) (G.fA KX GN ?a17 ?l17 ?c17 ?k17 (by walk_at "b1")) (G.fA KX GN ?a18 ?l18 ?c18 ?k18 (by walk_at "b2")) (G.fA KX GN ?a19 ?l19 ?c19 ?k19 (by walk_at "b2")) (G.fA KX GN ?a20 ?l20 ?c20 ?k20 (by walk_at "b1")) (G.fA KX GN ?a21 ?l21 ?c21 ?k21 (by walk_at "b1")) (G.fA KX GN ?a22 ?l22 ?c22 ?k22 (by walk_at "b2")) (G.fA KX GN ?a23 ?l23 ?c23 ?k23 (by walk_at "b0")) (G.fA KX GN ?a24 ?l24 ?c24 ?k24 (by walk_at "b1")) (G.fA KX GN ?a25 ?l25 ?c25 ?k25 (by walk_at "b3")) (G.fA KX GN ?a26 ?l26 ?c26 ?k26 (by walk_at "b3")) (G.fA KX GN ?a27 ?l27 ?c27 ?k27 (by walk_at "b3")) (G.fA KX GN ?a28 ?l28 ?c28 ?k28 (by walk_at "b2")) (G.fA KX GN ?a29 ?l29 ?c29 ?k29 (by walk_at "b2")) (G.fA KX GN ?a30 ?l30 ?c30 ?k30 (by walk_at "b1")) (G.fA KX GN ?a31 ?l31 ?c31 ?k31 (by walk_at "b1")) (G.fA KX GN ?a32 ?l32 ?c32 ?k32 (by walk_at "b3")) (G.fA KX GN ?a33 ?l33 ?c33 ?k33 (by walk_at "b1")) (G.fA KX GN ?a34 ?l34 ?c34 ?k34 (by walk_at "b2")) (G.fA KX GN ?a35 ?l35 ?c35 ?k35 (by walk_at "b3")) (G.fA KX GN ?a36 ?l36 ?c36 ?k36 (by walk_at "b4")) (G.fA KX GN ?a37 ?l37 ?c37 ?k37 (by walk_at "b3")) ?a38 ?l38 ?c38 ?k38 ?z0 ?z1 ?z2 ?z3 ?z4 ?z5 ?z6 ?z7 ?z8 ?z9 ?z10 ?z11 ?gq0 ?mq0 ?gq1 ?mq1 ?gq2 ?mq2 ?gq3 ?gq4 ?gq5 ?gq6 ?gq7 ?mq7 ?dg0 ?dz0 ?dl0 ?dm0_0 ?dm0_1 ?dm0_2 ?dm0_3 ?dm0_4 ?dm0_5 ?dm0_6 ?dm0_7 ?dm0_8 ?xa0 ?xq0 ?xf0 ?xf1 ?le_code_of ?lk_code_of ?lw_code_of
  (case a0|l0|c0|k0|a1|l1|c1|k1|a2|l2|c2|k2|a3|l3|c3|k3|a4|l4|c4|k4|a5|l5|c5|k5|a6|l6|c6|k6|a7|l7|c7|k7|a8|l8|c8|k8|a9|l9|c9|k9|a10|l10|c10|k10|a11|l11|c11|k11|a12|l12|c12|k12|a13|l13|c13|k13|a14|l14|c14|k14|a15|l15|c15|k15|a16|l16|c16|k16|a17|l17|c17|k17|a18|l18|c18|k18|a19|l19|c19|k19|a20|l20|c20|k20|a21|l21|c21|k21|a22|l22|c22|k22|a23|l23|c23|k23|a24|l24|c24|k24|a25|l25|c25|k25|a26|l26|c26|k26|a27|l27|c27|k27|a28|l28|c28|k28|a29|l29|c29|k29|a30|l30|c30|k30|a31|l31|c31|k31|a32|l32|c32|k32|a33|l33|c33|k33|a34|l34|c34|k34|a35|l35|c35|k35|a36|l36|c36|k36|a37|l37|c37|k37|a38|l38|c38|k38=>k_is)
  (case z0=>k_is)
  (case z1=>k_is)
  (case z2=>k_is)
  (case z3=>k_is)
  (case z4=>k_is)
  (case z5=>k_is)
  (case z6=>k_is)
  (case z7=>k_is)
  (case z8=>k_is)
  (case z9=>k_is)
  (case z10=>k_is)
  (case z11=>k_is)
  (case gq0=>k_is)
  (case mq0=>k_is)
  (case gq1=>k_is)
  (case mq1=>k_is)
  (case gq2=>k_is)
  (case mq2=>k_is)
  (case gq3=>k_is)
  (case gq4=>k_is)
  (case gq5=>k_is)
  (case gq6=>k_is)
  (case gq7=>k_is)
  (case mq7=>k_is)
  (case dg0=>k_is)
  (case dl0=>k_is)
  (case dm0_0=>k_is)
  (case dm0_1=>k_is)
  (case dm0_2=>k_is)
  (case dm0_3=>k_is)
  (case dm0_4=>k_is)
  (case dm0_5=>k_is)
  (case dm0_6=>k_is)
  (case dm0_7=>k_is)
  (case dm0_8=>k_is)
  (case dz0=>rfl)
  (case xa0=>k_is)
  (case xq0=>k_exc)
  (case xf0=>k_is)
  (case xf1=>k_exc)
  (case le_code_of=>exact rfl)
  (case lk_code_of=>k_is)
  (case lw_code_of=>exact rfl)
 case L =>
  intro w h KX
  refine' G.C_ KX (by kernel_rfl) ?ma_by_worth ?ma_by_weight ?ma_code_of ?ml_code_of ?mc_code_of ?mk_code_of ?mw_code_of ?mr_code_of
  (case ma_by_worth=>k_is)
  (case ma_by_weight=>k_is)
  (case ma_code_of=>k_is)
  (case ml_code_of=>k_is)
  (case mc_code_of=>exact rfl)
  (case mk_code_of=>k_is)
  (case mw_code_of=>exact rfl)
  (case mr_code_of=>exact rfl)
end
