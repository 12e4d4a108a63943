import PyProof.Rows.All
import Wide.All
import OpenK.AllK
import Wide.FinOn
import Lean
import PyProof.EqAt
import PyProof.EqKinds
import PyProof.TupleCall
import KE.KSortKey
import KE.KLam
import PySem.Challenge.RW_shortrows_k31_bits_spoilt
namespace PySem.W.Fast
def tw4142988772229956848:=0
def tw7121055207612942399:=0
def tw14630458548788219468:=0
def tw15534781832623227984:=0
def tw9582765335631487321:=0
def tw15278516373900896412:=0
def tw6759392166321718597:=0
def tw1304581595929769072:=0
def tw6289376668663272184:=0
def tw5797272904379658926:=0
def tw1426685208572206837:=0
def tw6423855772685182942:=0
def tw2767884229708360473:=0
def tw11665422919625618615:=0
def tw8647703358572879459:=0
def tw13908944723887983059:=0
def tw12297049874474156231:=0
def tw1312621019382312774:=0
def tw3415076294928115600:=0
def tw17519204076980236655:=0
def tw13075150493539662862:=0
def tw6425196677615473833:=0
def tw14888382634338889989:=0
def tw12598694296401685740:=0
def tw11025660967495037560:=0
def tw16281427907386732996:=0
def tw4447521983877560549:=0
def tw13406043663520353351:=0
def tw4460269098664587374:=0
def tw2979102069548870634:=0
def tw15852106158311048365:=0
def tw8536919507817561659:=0
def tw9476902908085938062:=0
def tw12045484022149168177:=0
def tw1714029233732993786:=0
def tw3375575198849156958:=0
def tw15164512155458863431:=0
def tw11428611855030713437:=0
def tw696441717607471763:=0
def tw8192451210560184994:=0
def tw8893764174764909505:=0
def tw5214327588459599367:=0
def tw67769467738277500:=0
def tw8253803399475282:=0
def tw15319567726818050419:=0
def tw1912082924574330859:=0
def tw2112412712273863440:=0
def tw17815452987409959770:=0
def tw15656419384044714309:=0
def tw18022906612101767258:=0
def tw15887585846492607754:=0
def tw1762476894832362364:=0
def tw11223211841920055932:=0
def tw3159439967709478114:=0
def tw7960300615063686285:=0
def tw6368379120292322504:=0
def tw410873355997177283:=0
def tw8579345797740064301:=0
def tw1141810992552399578:=0
def tw1882366660592515897:=0
def tw7941913517416087324:=0
def tw205088189439176055:=0
def tw9343934767614018453:=0
def tw5768358888111200665:=0
def tw16499333107762978196:=0
def tw8299095800488487817:=0
def tw1504643390792037668:=0
def tw17623336650920265225:=0
def tw12914922225272910219:=0
def tw14814675339920934682:=0
def tw14697903242425313305:=0
def tw13460716334301575919:=0
def tw3253671489579621218:=0
def tw5470354216137791680:=0
def tw2009646233096854171:=0
def tw8007370649739305844:=0
def tw1771562486971294515:=0
def tw17565546072697416214:=0
def tw13361398227024870856:=0
def tw15789274537238703513:=0
def tw15707956590433920218:=0
def tw2664242744850471449:=0
def tw9667970397641590288:=0
def tw8703526986729001962:=0
def tw17151334738139674779:=0
def tw8290029338073457726:=0
def tw18004458426500929311:=0
def tw1086290379786624912:=0
def tw18161605869628134385:=0
def tw12615046338896297198:=0
def tw8709524631148773836:=0
def tw307757714225078418:=0
def tw4713019264515731662:=0
def tw17878672529982243609:=0
def tw7753817715922224927:=0
def tw3615246658556950555:=0
def tw9220454205923871524:=0
def tw18264521862027769285:=0
def tw5620822396319550597:=0
def tw18132400146079313784:=0
def tw3011985914519629990:=0
def tw11991821120793235280:=0
def tw14545503103682916592:=0
def tw12139985115801938691:=0
def tw13119078472478421305:=0
def tw4756786141060501372:=0
def tw12821300323937312402:=0
def tw3438180081642293837:=0
def tw16906052987809240448:=0
def tw14896129970642248274:=0
def tw2374863498635535924:=0
def tw8314243403244176883:=0
def tw6669903073346814819:=0
def tw137658360837109757:=0
def tw1756775366942546611:=0
def tw16912351802783345235:=0
def tw4477836760908526768:=0
def tw18354701241622233844:=0
def tw12881719370532779438:=0
def tw16689238594274116212:=0
def tw17404750502980757296:=0
def tw16454242793149284485:=0
def tw16388057061717572317:=0
def tw10315403871633125621:=0
end PySem.W.Fast
set_option Elab.async false
set_option linter.all false
set_option maxRecDepth 100000
set_option maxHeartbeats 4000000
noncomputable section
set_option compiler.extract_closed false
def ℜz0(_:True:=by rfl):True:=⟨⟩
def ℜ0:Lean.Syntax:=ℜz0._auto_1
def ℜz1(_:True:=by decide):True:=⟨⟩
def ℜ1:Lean.Syntax:=ℜz1._auto_1
def ℜz2(_:True:=by first|exact .inl rfl|exact .inr rfl|assumption):True:=⟨⟩
def ℜ2:Lean.Syntax:=ℜz2._auto_1
def ℜz3(_:True:=by intro _;rfl):True:=⟨⟩
def ℜ3:Lean.Syntax:=ℜz3._auto_1
def ℜz4(_:True:=by first|exact Or.inl rfl|exact Or.inr (Or.inl rfl)|exact Or.inr (Or.inr rfl)):True:=⟨⟩
def ℜ4:Lean.Syntax:=ℜz4._auto_1
def ℜz5(_:True:=by with_unfolding_all rfl):True:=⟨⟩
def ℜ5:Lean.Syntax:=ℜz5._auto_1
def ℜz6(_:True:=by decide +kernel):True:=⟨⟩
def ℜ6:Lean.Syntax:=ℜz6._auto_1
namespace L2
open PySem PySem.Spec PyProof.Rows
variable{us:List Value}{x:Str}{u:Value}{C a b:Addr}{base h:Heap}{items:Array Value}{P:Program}{w:World}{K:W.Frag}{g':Array GenState}{ch fp:List Addr}{e tg:Expr}{N:List Str}{i j:Nat}{M:Model}{E Q:Value->Shared->Prop}{s':Shared}{pins:List (Addr×Obj)}{f:Value->Value->Sem Value}{es:List Expr}{g:Int->Int->Int}{body:List Stmt}{mA mg:Str->Option Value}{kw:List (Str×Value)}{fd:FuncData}{outer:List Env}{kindOf:Str->Option NameKind}{scope:Scope}
def Kg:=@List.getElem?_eq_getElem
def Kh:=@PySem.wpAny_bind
def Ki:=@List.length_map
def Kj:=@List.length_append
def Kk:=@PySem.Heap.get?_push_of_some
def Kl:=@List.getElem?_eq_some_iff
def Km:=@Nat.le_trans
def Kn:=@List.getElem?_map
def Ko:=@if_neg
def Kp:=@Nat.le_refl
def Kq:=@List.size_toArray
def Ks:=@List.getD_eq_getElem?_getD
def Kt:=@PySem.wpAny_pure
def Ku:=@if_pos
def Kv:=@List.mem_cons
def Kw:=@List.mem_cons_self
def Kx:=@List.mem_cons_of_mem
def Ky:=@Bool.false_ne_true
def Kz:=@PySem.Heap.lt_size
def K0:=@List.mem_singleton
def K1:=@PySem.Heap.get?_push_size
def K2:=@List.length_cons
def K4:=@Nat.zero_le
def K6:=@List.length_replicate
def K7:=@List.map_append
def K8:=@Option.map_eq_some_iff
def K9:=@List.getElem_mem
def KA:=@List.map_cons
def KC:=@Array.getElem?_eq_some_iff
def KD:=@List.length_take
def KG:=@List.mem_append_right
def KH:=@Nat.ne_of_lt
def KI:=@Nat.lt_of_lt_of_le
def KJ:=@decide_eq_false
def KL:=@List.getElem?_append_right
def KN:=@List.append_assoc
def KO:=@List.not_mem_nil
def KP:=@PySem.PassesOwn.never
def KQ:=@List.length_drop
def KR:=@List.getElem?_append_left
def KU:=@Int.toNat_natCast
def KW:=@Array.getElem?_toList
def KY:=@decide_eq_true
def KZ:=@List.length_range
def K_:=@List.pairwise_cons
def La:=@Array.length_toList
def Lb:=@beq_eq_false_iff_ne
def Lc:=@List.replicate_succ
def Ld:=@List.mem_append
def Le:=@List.append_nil
def Lf:=@Nat.lt_of_le_of_lt
def Lg:=@congrArg
def Lh:=@PySem.wpAny_mono
def Li:=@List.mem_of_getElem?
def Lj:=@List.take_of_length_le
def Lk:=@Ne.symm
def Ll:=@List.mem_map
def Lm:=@Nat.lt_or_ge
def Ln:=@List.mem_range
def Lo:=@List.length_nil
def Lp:=@List.getElem?_toArray
def Lq:=@List.take_length
def Lr:=@of_decide_eq_true
def Ls:=@PyProof.Rows.boot_isinstance
def Lu:=@PySem.wpAny_holding
def Lv:=@PySem.W.mg_none_of
def Lw:=@PyProof.Rows.callWith_type1
def Ly:=@PySem.wpAny_field
def Lz:=@Bool.and_eq_true
def L3:=@beq_self_eq_true
def L4:=@List.getElem?_eq_none_iff
def L5:=@List.mem_or_eq_of_mem_set
def L6:=@List.take_succ
def L7:=@PySem.sizeLine_eq
def L8:=@List.nil_append
def L9:=@List.mem_replicate
def LA:=@PySem.wpAny_callSpecial?_slot
def LC:=@Nat.add_sub_cancel_left
def LD:=@List.mem_append_left
def LF:=@PySem.wpAny_call_entry
def LG:=@List.pairwise_append
def LH:=@Nat.sub_self
def LI:=@List.drop_zero
def LJ:=@PySem.wpAny_newObj_type
def LK:=@PySem.Heap.SameBut.update
def LL:=@List.drop_eq_getElem_cons
def LM:=@PySem.Heap.get?_update_self
def LN:=@List.length_singleton
def LO:=@PySem.wpAny_Call_Name_kw
def LP:=@List.cons_append
def LQ:=@List.lookup_cons
def LR:=@List.getElem?_drop
def LS:=@PySem.Heap.size_push
def LU:=@List.flatten_cons
def LV:=@List.nodup_cons
def LW:=@List.mem_map_of_mem
def LX:=@Nat.ne_of_gt
def LY:=@Nat.le_succ
def LZ:=@Nat.lt_irrefl
def L_:=@List.all_cons
def Ma:=@or_false
def Mb:=@decide_eq_decide
def Mc:=@Array.getElem?_eq_getElem
def Md:=@List.pairwise_iff_getElem
def Me:=@Nat.le_of_lt
def Mf:=@List.find?_cons
def Mg:=@Nat.pow_le_pow_right
def Mh:=@PySem.wpAny_loadPart_at
def Mi:=@List.pairwise_map
def Mj:=@PySem.W.mg_of
def Mk:=@PySem.W.kia_one
def Ml:=@PySem.wpAny_typeNameOfWhole_keyiter
def Mm:=@List.mem_reverse
def Mn:=@List.drop_length
def Mo:=@List.getElem?_set_self
def Mp:=@List.getElem_cons_zero
def Mq:=@Bool.false_eq_true
def Mr:=@List.map_map
def Ms:=@PySem.wpAny_passesOwn
def Mt:=@List.length_set
def Mw:=@PySem.F.slot_tuple_iterator_next
def Mx:=@PySem.wpAny_truthy_bool
def My:=@List.ext_getElem?
def Mz:=@if_false
def M0:=@List.all_eq_true
def M1:=@List.range'_succ
def M4:=@Nat.min_self
def M5:=@PySem.F.slot_list_getattribute
def M6:=@List.ext_getElem
def M7:=@PySem.wpAny_typeNameOf_keyiter
def M8:=@List.getElem?_range
def M9:=@List.length_reverse
def MB:=@Array.toList_append
def MC:=@List.prefix_of_prefix_length_le
def MD:=@PySem.wpAny_getItem_str_slice
def ME:=@List.length_eq_zero_iff
def MF:=@Option.bind_eq_some_iff
def MG:=@PySem.wpAny_attempt
def MH:=@Bool.eq_iff_iff
def MI:=@PySem.call_meets
def MJ:=@PySem.Obj.data_mapFields
def MK:=@PySem.wpAny_pyIter_tuple
def ML:=@PySem.codeAny_builtin
def MM:=@List.getElem?_take
def MN:=@Nat.min_eq_left
def MO:=@PySem.Heap.get?_update_other
def MP:=@Nat.lt_succ_of_lt
def MQ:=@decide_eq_true_eq
def MR:=@List.flatMap_cons
def MS:=@List.map_nil
def MT:=@if_true
def MU:=@PySem.wpAny_seqItems
def MV:=@List.take_append_drop
def MW:=@List.map_set
def MX:=@PySem.Heap.get?_none_of_le
def MY:=@List.getElem?_set_ne
def MZ:=@PySem.wpAny_call
def M_:=@Option.bind_some
def Na:=@PySem.codeAny_call_builtin
def Nb:=@PySem.Around.under_plainId
def Nc:=@List.getElem?_append
def Nd:=@List.reverse_reverse
def Nf:=@List.range_eq_range'
def Ng:=@List.mem_of_mem_take
def Nh:=@Array.toArray_toList
def Ni:=@Nat.min_eq_right
def Nj:=@List.mem_iff_getElem
def Nk:=@PySem.wpAny_standAt
def Nl:=@List.any_cons
def Nm:=@PySem.wpAny_newList
def Nn:=@List.dropWhile_cons
def Np:=@PySem.Heap.get?_update_ne
def Nq:=@PySem.wpAny_isSubtype_exc
def Nr:=@List.length_pos_iff
def Nt:=@Option.map_some
def Nu:=@PyProof.Rows.get?_update_seq
def Nv:=@PySem.W.KasT.kasWp_bind
def Nx:=@List.mem_filterMap
def Ny:=@Option.isSome_iff_exists
def Nz:=@Nat.lt_trans
def N0:=@PySem.tupleKind_room_in1
def N1:=@PySem.wpAny_comprehension_free
def N2:=@Nat.zero_add
def N3:=@List.Pairwise.imp_of_mem
def N4:=@PySem.wpAny_setField_rec
def N5:=@PySem.wpAny_setField
def N6:=@List.prefix_iff_eq_take
def N7:=@PySem.wpAny_pyIter_enum
def N8:=@PySem.wpAny_pyIter_list
def N9:=@PySem.wpAny_dictEntries
def NA:=@PySem.Calls.callWith_builtin
def NB:=@List.pairwise_lt_range
def NC:=@List.dropWhile_sublist
def ND:=@PyProof.Rows.listUpdate_at
def NF:=@PySem.Obj.isFreed_of_fields
def NG:=@List.pairwise_reverse
def NH:=@List.mem_iff_getElem?
def NI:=@PySem.wpAny_isOneOf_keyiter
def NJ:=@List.eraseIdx_eq_take_drop_succ
def NK:=@PySem.wpAny_execs_nil
def NL:=@PySem.codeAny_mono
def NM:=@List.forIn_cons
def NN:=@PyProof.Rows.listItems_at
def NO:=@List.range_succ
def NP:=@Nat.sub_zero
def NQ:=@PySem.post_val_or_str
def NR:=@Nat.not_lt_zero
def NS:=@List.filterMap_cons
def NU:=@List.takeWhile_cons
def NV:=@List.reverse_append
def NW:=@List.toList_toArray
def NX:=@PySem.F.args_tuple_iterator_next_1
def NY:=@PySem.W.looks_findIn
def NZ:=@PySem.wpAny_fieldsOf
def N_:=@PySem.wpAny_ite_true
def Oa:=@Array.append_empty
def Ob:=@PySem.F.entry_tuple_iterator_next
def Oc:=@PySem.Code.quiet_builtin
def Od:=@PySem.SeqAt.EqAt.of_refs
def Oe:=@Array.getD_eq_getD_getElem?
def Of:=@List.getElem_range
def Og:=@List.set_cons_zero
def Oh:=@List.map_replicate
def Oi:=@List.prefix_append
def Oj:=@Int.emod_lt_of_pos
def Ol:=@PySem.Calls.Name_function_global
def Om:=@PySem.wpAny_letOwnedTupleGo_enum
def Oo:=@PySem.SeqAt.RcNeAt.lists_lengths
def Oq:=@Bool.and_true
def Ot:=@Option.isSome_map
def Ou:=@Array.size_append
def Ov:=@bne_self_eq_false
def Ow:=@Nat.lt_trichotomy
def Ox:=@PySem.typeIs_int
def Oy:=@PySem.wpAny_binaryOp_repeat_ref
def Oz:=@PySem.Calls.call_function_entry
def O0:=@List.extract_eq_take_drop
def O1:=@List.exists_mem_of_ne_nil
def O2:=@Nat.not_lt
def O3:=@PySem.wpAny_eqBool_int
def O4:=@PySem.W.callWith_K
def O5:=@Nat.succ_mul
def O6:=@PySem.callType_new
def O7:=@PySem.Heap.size_update
def O8:=@Array.toList_inj
def O9:=@List.perm_middle
def OA:=@List.map_snd_zip
def OB:=@List.getElem_map
def OC:=@List.Perm.eq_of_pairwise
def OD:=@List.zipIdx_cons
def OE:=@List.nodup_range
def OF:=@Nat.le_total
def OG:=@List.getElem?_replicate
def OH:=@PySem.wpAny_pyNext_enum_itemD
def OI:=@List.getElem?_cons_succ
def OJ:=@List.pairwise_singleton
def OK:=@List.of_mem_zip
def OL:=@List.foldl_cons
def OM:=@PySem.wpAny_loadPart'
def OP:=@List.length_zip
def OQ:=@PySem.wpAny_dictEpoch
def OR:=@Int.emod_nonneg
def OS:=@PySem.wpAny_pyNext_list_item
def OU:=@PySem.wpAny_pyNext_enum_endD
def OV:=@Int.le_refl
def OW:=@List.length_eq_one_iff
def OX:=@Array.getElem?_eq_none
def OY:=@Nat.lt_of_succ_lt_succ
def OZ:=@List.drop_of_length_le
def Pa:=@PySem.fitsIndex_both
def Pc:=@Bool.and_false
def Pe:=@Array.mem_iff_getElem
def Pg:=@List.take_left
def Ph:=@List.eq_nil_or_concat
def Pj:=@PySem.wpAny_newTuple
def Pl:=@List.countP_mono_left
def Pm:=@List.set_append_right
def Pn:=@List.singleton_append
def Po:=@PySem.typeIs_str
def Pp:=@PySem.wpAny_rule
def Pq:=@beq_iff_eq
def Pu:=@PySem.plainId_quiet
def Pw:=@Nat.mul_assoc
def Px:=@List.take_nil
def Py:=@List.map_take
def Pz:=@PySem.seqIndex_neg
def P0:=@Nat.le_of_eq
def P1:=@PySem.wpAny_typeOf
def P6:=@PySem.wpAny_mkText
def P7:=@Nat.pow_succ
def P8:=@Int.pow_succ
def P9:=@Int.zero_add
abbrev Key:=Sum Int Str
def i5:Key->Value->Bool
 |.inl k,v=>Value.isInt k v
 |.inr x,v=>Value.isStrOf x v
def IT(w:World):Key->Int
 |.inl k=>hashInt k
 |.inr x=>hashStr w x
theorem b9:∀{k:Key} {v:Value},i5 k v=true->(∃i t,k=Sum.inl i/\v=Value.int i t)\/(∃x t,k=Sum.inr x/\v=Value.str x t)
 |.inl i,v,h=>by
  obtain⟨t,e⟩:=Value.isInt_shape (k:=i) (v:=v) h;exact .inl ⟨i,t,rfl,e⟩
 |.inr x,v,h=>by
  obtain⟨t,e⟩:=Value.isStrOf_shape (x:=x) (v:=v) h;exact .inr ⟨x,t,rfl,e⟩
def uQ(i:Int)(t:Tok):i5 (.inl i) (.int i t)=true:=by simp[i5,Value.isInt]
def vv(x:Str)(t:Tok):i5 (.inr x) (.str x t)=true:=by simp[i5,Value.isStrOf]
def E8(a b:Int):decide ((Sum.inl a:Key)=Sum.inl b)=(a == b):=by
 by_cases e:a=b
 ·subst e;simp
 ·have h:¬ (Sum.inl a:Key)=Sum.inl b:=λq=>e (Sum.inl.inj q);rw[KJ h];exact (Lb.mpr e).symm
def E5(a b:Str):decide ((Sum.inr a:Key)=Sum.inr b)=decide (a=b):=by
 by_cases e:a=b
 ·subst e;simp
 ·have h:¬ (Sum.inr a:Key)=Sum.inr b:=λq=>e (Sum.inr.inj q);rw[KJ h,KJ e]
def Dm(a:Int)(b:Str):decide ((Sum.inl a:Key)=Sum.inr b)=false:=KJ (λq=>nomatch q)
def Ez(a:Str)(b:Int):decide ((Sum.inr a:Key)=Sum.inl b)=false:=KJ (λq=>nomatch q)
def bQ(prog:Program)(w:World):PySem.KeyKind prog w Key where
 is:=i5
 hash:=IT w
 inj:=λv a b ha hb=>by
  rcases b9 ha with ⟨i,t,rfl,rfl⟩|⟨x,t,rfl,rfl⟩
  ·rcases b9 hb with ⟨j,u,rfl,e⟩|⟨y,u,rfl,e⟩
   ·injection e with e1 _;rw[e1]
   ·exact nomatch e
  ·rcases b9 hb with ⟨j,u,rfl,e⟩|⟨y,u,rfl,e⟩
   ·exact nomatch e
   ·injection e with e1 _;rw[e1]
 byValue:=λk v h=>by
  rcases b9 h with ⟨i,t,rfl,rfl⟩|⟨x,t,rfl,rfl⟩<;>rfl
 pyHash:=λhv h=>by
  rcases b9 hv with ⟨i,t,rfl,rfl⟩|⟨x,t,rfl,rfl⟩
  ·exact wpAny_pyHash_int h
  ·exact wpAny_pyHash_str h
 eqBool:=λhu hv h=>by
  rcases b9 hu with ⟨i,t,rfl,rfl⟩|⟨x,t,rfl,rfl⟩
  ·rcases b9 hv with ⟨j,u,rfl,rfl⟩|⟨y,u,rfl,rfl⟩
   ·rw[E8] at h;exact O3 h
   ·rw[Dm] at h;exact SeqAt.EqAt.int_str i t y u _ _ _ _ h
  ·rcases b9 hv with ⟨j,u,rfl,rfl⟩|⟨y,u,rfl,rfl⟩
   ·rw[Ez] at h;exact SeqAt.EqAt.str_int x t j u _ _ _ _ h
   ·rw[E5] at h;exact wpAny_eqBool_str h
 «strs»:=λk x t v h=>by
  rcases b9 h with ⟨i,u,rfl,e⟩|⟨y,u,rfl,e⟩
  ·exact nomatch e
  ·injection e with e1 _
   subst e1
   cases v<;>rfl
def pj(prog:Program)(w:World)(i:Int)(t:Tok):(bQ prog w).is (.inl i) (.int i t)=true:=uQ i t
def qm(prog:Program)(w:World)(x:Str)(t:Tok):(bQ prog w).is (.inr x) (.str x t)=true:=vv x t
inductive V where
 |aI|bl (b:Bool)|int (i:Int)|str (x:Str)|qW (b:Array UInt8)|FX (b:UInt64)|ref (a:Addr)|ty (n:String)
 deriving DecidableEq
variable{xs:List V}
def RelV:V->Value->Prop
 |.aI,u=>u=Value.none
 |.bl b,u=>u=Value.bool b
 |.int i,u=>∃t,u=Value.int i t
 |.str x,u=>∃t,u=Value.str x t
 |.qW b,u=>∃t,u=Value.bytes b t
 |.FX b,u=>∃t,u=Value.float b t
 |.ref a,u=>u=Value.ref a
 |.ty n,u=>u=Value.type n
abbrev Vals:List V->List Value->Prop:=Paired RelV
def Vals.length(r:Vals xs us):xs.length=us.length:=Paired.length r
theorem Vals.get:∀{xs:List V} {us:List Value} {i:Nat} {x:V},Vals xs us->xs[i]?=some x->∃u,us[i]?=some u/\RelV x u
 |_,_,_,_,.nil,e=>by simp at e
 |_,_,0,_,.cons r _,e=>by simp at e;subst e;exact⟨_,rfl,r⟩
 |_,_,i+1,x,.cons _ t,e=>by
  obtain⟨u,h1,h2⟩:=Vals.get (i:=i) (x:=x) t (by simpa using e)
  exact⟨u,by simpa using h1,h2⟩
theorem Vals.set{x:V}(r:RelV x u):∀{xs:List V} {us:List Value} (i:Nat),Vals xs us->Vals (xs.set i x) (us.set i u)
 |_,_,_,.nil=>.nil
 |_,_,0,.cons _ t=>.cons r t
 |_,_,i+1,.cons q t=>.cons q (Vals.set r i t)
theorem Vals.append:∀{xs ys:List V} {us ws:List Value},Vals xs us->Vals ys ws->Vals (xs++ys) (us++ws)
 |_,_,_,_,.nil,s=>s
 |_,_,_,_,.cons r t,s=>.cons r (Vals.append t s)
theorem Vals.take:∀{xs:List V} {us:List Value} (n:Nat),Vals xs us->Vals (xs.take n) (us.take n)
 |_,_,0,_=>.nil
 |_,_,_+1,.nil=>.nil
 |_,_,n+1,.cons r t=>.cons r (Vals.take n t)
theorem Vals.drop:∀{xs:List V} {us:List Value} (n:Nat),Vals xs us->Vals (xs.drop n) (us.drop n)
 |_,_,0,r=>r
 |_,_,_+1,.nil=>.nil
 |_,_,n+1,.cons _ t=>Vals.drop n t
def jo:Option V->Option Value->Prop
 |some v,some u=>RelV v u
 |none,none=>True
 |_,_=>False
def KV{κ:Type}:List (κ×V)->List (κ×Value)->Prop:=Paired λ(p:κ×V) (q:κ×Value)=>p.1=q.1/\RelV p.2 q.2
def kV:Key->V
 |.inl i=>.int i
 |.inr x=>.str x
inductive HO where
 |lst (xs:List V)
 |tup (xs:List V)
 |dK (kvs:List (Key×V))|dT (kvs:List (List Key×V))
 |set (S:Int->Bool) (n:Nat)
 |ins (C dx:Addr) (fs:List (Str×V))
 |own (x:Addr)
 |xd (fs:List (Str×V))
 |met (f x:Addr)
 |lJ (lo hi:Int)
 |iH (o:Obj) (u:HO)
 |we (ps:Array Value)
 |ext (φ:Heap->Prop)
variable{o:HO}
abbrev Hp:=Addr->Option HO
variable{H:Hp}
def upd(H:Hp)(a:Addr)(o:HO):Hp:=λb=>if b=a then some o else H b
def aa:upd H a o a=some o:=by unfold upd;rw[Ku rfl]
def ae(h:b≠a):upd H a o b=H b:=by unfold upd;rw[Ko h]
def sR{u:HO}:upd (upd H a o) a u=upd H a u:=by
 funext b;unfold upd;split<;>rfl
def Gj{u:HO}(h:H a=some o)(h':H b=some u)(d:o≠u):a≠b:=by
 intro e;subst e;rw[h] at h';exact d (Option.some.inj h')
def aq(h:H a=some o)(h':H b=none):a≠b:=by
 intro e;subst e;rw[h] at h';cases h'
def Js:List Value->Str
 |.str q _::_=>q
 |_=>Str.ofString ""
def xR(ps:Array Value):Str:=Js ps.toList
def C4(H:Hp)(q:Str)(cv:Value):Prop:=∃(c:Addr) (oc:Obj) (vs:Array Value) (t:Tok),cv=.ref c/\H c=some (.iH oc (.own c))/\oc.data=.fields vs/\vs[1]?=some (.str q t)
def d9(h:Heap)(a:Addr)(items:Array Value):Prop:=∃o:Obj,h.get? a=some o/\o.cls=.type "tuple"/\∃n,o.data=.seq items n/\o.dict=none
def d9.to(x:d9 h a items):IsTup h a items:=let ⟨o,e,c,n,d,_⟩:=x;⟨o,e,c,n,d⟩
def d9.new(h:Heap)(items:Array Value):d9 (h.push {cls:=.type "tuple",data:=.seq items}) h.objs.size items:=⟨_,K1 h rfl,rfl,_,rfl,rfl⟩
def d9.lt(x:d9 h a items):a<h.objs.size:=x.to.lt
section
variable (P:Program) (w:World)
def aN(H:Hp)(h:Heap)(a:Addr):HO->Prop
 |.lst xs=>xs.length<=sizeLine/\∃(its:List Value) (n:Nat),Vals xs its/\h.get? a=some {cls:=.type "list",data:=.seq its.toArray n}
 |.tup xs=>xs.length<=sizeLine/\∃its:List Value,Vals xs its/\d9 h a its.toArray
 |.dK kvs=>kvs.length<=sizeLine/\(a == sysModules)=false/\∃vs,KV kvs vs/\h.DictOf (bQ P w) a vs
 |.dT kvs=>kvs.length<=sizeLine/\(a == sysModules)=false/\∃xs:List (List Key×Addr×Value),
   Paired (λ(p:List Key×V) (q:List Key×Addr×Value)=>p.1=q.1/\H q.2.1=some (.tup (p.1.map kV))/\RelV p.2 q.2.2) kvs xs /\
   ∃o es ep,h.get? a=some o/\o.ExactDict/\o.data=.dict es ep/\es.toList=xs.map (entryOfKey (tupleKind (bQ P w)))/\(xs.map (·.1)).Nodup
 |.set S n=>h.SetOf (intKind P w) a S n
 |.ins C dx fs=>H dx=some (.own a)/\fs.length<=1000/\dx≠a/\h.get? a=some (W.instObj C dx) /\
   ∃mA,h.Ns1 dx mA/\(∀f,jo (fs.lookup f) (mA f))/\PySem.Within mA (fs.map (·.1))
 |.own _=>∃o,h.get? a=some o
 |.xd fs=>∃mA,h.Ns1 a mA/\∀f,jo (fs.lookup f) (mA f)
 |.lJ lo hi=>∃t u v,h.get? a=some {cls:=.type "range",data:=.fields #[.int lo t,.int hi u,.int 1 v]}
 |.iH o u=>h.get? a=some o/\aN H h a u
 |.we ps=>∃qs:Array Value,h.get? a=some {cls:=.none,data:=.fields qs}/\TriplesOk qs.toList/\∀pos cv,codeAmong pos qs.toList=some cv->C4 H (xR ps) cv
 |.met f x=>h.get? a=some (W.methodObj (.ref f) (.ref x))
 |.ext φ=>φ h/\(∃o,h.get? a=some o)/\∀h1 h2:Heap,φ h1->(∀o,h1.get? a=some o->h2.get? a=some o)->φ h2
def dB(H:Hp)(h:Heap):Prop:=∀a o,H a=some o->aN P w H h a o
end
section
variable {P:Program} {w:World} {H H':Hp} {h h':Heap} {a:Addr} {o:HO}
def aN.lt(x:aN P w H h a o):a<h.objs.size:=by
 cases o with
 |lst xs=>obtain⟨_,_,_,_,e⟩:=x;exact Kz e
 |tup xs=>obtain⟨_,_,_,p⟩:=x;exact p.lt
 |dK kvs=>obtain⟨_,_,_,_,o,_,_,e,_⟩:=x;exact Kz e
 |dT kvs=>obtain⟨_,_,_,_,o,_,_,e,_⟩:=x;exact Kz e
 |set S n=>obtain⟨o,_,_,_,e,_⟩:=x;exact Kz e
 |ins C dx fs=>obtain⟨_,_,_,e,_⟩:=x;exact Kz e
 |own y=>obtain⟨_,e⟩:=x;exact Kz e
 |xd fs=>obtain⟨_,⟨_,_,_,e,_⟩,_⟩:=x;exact Kz e
 |lJ lo hi=>obtain⟨_,_,_,e⟩:=x;exact Kz e
 |iH ob u=>obtain⟨e,_⟩:=x;exact Kz e
 |we ps=>obtain⟨_,e,_⟩:=x;exact Kz e
 |met f y=>exact Kz (show h.get? a=some _ from x)
 |ext φ=>obtain⟨_,⟨_,e⟩,_⟩:=x;exact Kz e
theorem Paired.yQ{α β:Type}{F G:α->β->Prop}:∀{l₁:List α} {l₂:List β},Paired F l₁ l₂->(∀a b,F a b->G a b)->Paired G l₁ l₂
 |_,_,.nil,_=>.nil
 |_,_,.cons r t,f=>.cons (f _ _ r) (Paired.yQ t f)
def aN.iC(x:aN P w H h a o)(k:∀b u,(b=a\/H b=some (.own a))->h.get? b=some u->h'.get? b=some u)
  (ho:∀b,H b=some (.own a)->H' b=some (.own a)) (ht:∀b xs,H b=some (.tup xs)->H' b=some (.tup xs)) (hz:∀b o u,H b=some (.iH o u)->H' b=some (.iH o u)):aN P w H' h' a o:=by
 induction o with
 |lst xs=>obtain⟨z,its,n,r,e⟩:=x;exact⟨z,its,n,r,k _ _ (.inl rfl) e⟩
 |tup xs=>obtain⟨z,its,r,ob,e,c⟩:=x;exact⟨z,its,r,ob,k _ _ (.inl rfl) e,c⟩
 |dK kvs=>obtain⟨z,y,vs,r,ob,es,ep,e,c⟩:=x;exact⟨z,y,vs,r,ob,es,ep,k _ _ (.inl rfl) e,c⟩
 |dT kvs =>
  obtain⟨z,y,xs,r,ob,es,ep,e,c⟩:=x;exact⟨z,y,xs,Paired.yQ r λp q z=>⟨z.1,ht _ _ z.2.1,z.2.2⟩,ob,es,ep,k _ _ (.inl rfl) e,c⟩
 |set S n=>obtain⟨ob,es,ep,t,e,c⟩:=x;exact⟨ob,es,ep,t,k _ _ (.inl rfl) e,c⟩
 |ins C dx fs =>
  obtain⟨d,z,ne,e,mA,⟨od,es,ep,e2,c⟩,r⟩:=x;exact⟨ho _ d,z,ne,k _ _ (.inl rfl) e,mA,⟨od,es,ep,k _ _ (.inr d) e2,c⟩,r⟩
 |own y=>obtain⟨ob,e⟩:=x;exact⟨ob,k _ _ (.inl rfl) e⟩
 |xd fs=>obtain⟨mA,⟨od,es,ep,e,c⟩,r⟩:=x;exact⟨mA,⟨od,es,ep,k _ _ (.inl rfl) e,c⟩,r⟩
 |lJ lo hi=>obtain⟨t,u,v,e⟩:=x;exact⟨t,u,v,k _ _ (.inl rfl) e⟩
 |iH ob u ih=>obtain⟨e,q⟩:=x;exact⟨k _ _ (.inl rfl) e,ih q⟩
 |we ps =>
  obtain⟨qs,e,t,f⟩:=x;exact⟨qs,k a _ (.inl rfl) e,t,λpos cv q=>let ⟨c,oc,vs,t',e1,e2,e3⟩:=f pos cv q;⟨c,oc,vs,t',e1,hz _ _ _ e2,e3⟩⟩
 |met f y =>
  have e:h.get? a=some (W.methodObj (.ref f) (.ref y)):=x;show h'.get? a=some (W.methodObj (.ref f) (.ref y));exact k a _ (.inl rfl) e
 |ext φ=>obtain⟨p,⟨o,e⟩,st⟩:=x;exact⟨st _ _ p λo q=>k _ _ (.inl rfl) q,⟨o,k _ _ (.inl rfl) e⟩,st⟩
def dB.lt(x:dB P w H h)(e:H a=some o):a<h.objs.size:=(x a o e).lt
def dB.fresh(x:dB P w H h)(e:h.objs.size<=a):H a=none:=by
 cases q:H a with
 |none=>rfl
 |some u=>exact absurd (KI (x.lt q) e) (LZ _)
def dB.kept(x:dB P w H h)(k:∀b u,h.get? b=some u->h'.get? b=some u):dB P w H h':=λa o e =>
 (x a o e).iC (λb u _ q=>k b u q) (λ_ q=>q) (λ_ _ q=>q) λ_ _ _ q=>q
def dB.laid(x:dB P w H h)(k:∀b u,h.get? b=some u->h'.get? b=some u)(hp:h.objs.size<=a)(new:aN P w (upd H a o) h' a o):dB P w (upd H a o) h':=λb u e=>by
 have hn:=x.fresh hp;by_cases hb:b=a
 ·subst hb;rw[aa] at e;cases e;exact new
 ·rw[ae hb] at e;exact (x b u e).iC (λc v _ q=>k c v q) (λc q=>by rw[ae (aq q hn)];exact q) (λc xs q=>by rw[ae (aq q hn)];exact q) λc _ _ q=>by rw[ae (aq q hn)];exact q
end
def Rd(H:Hp)(a:Addr)(u:HO):Prop:=H a=some u\/∃o,H a=some (.iH o u)
def Rd.ok{u:HO}(r:Rd H a u)(x:dB P w H h):aN P w H h a u:=by
 rcases r with r|⟨o,r⟩
 ·exact x a u r
 ·obtain⟨_,q⟩:=x a _ r;exact q
def Hc:Option HO->Prop
 |some (.lst _)=>True
 |some (.dK _)=>True
 |some (.dT _)=>True
 |some (.set _ _)=>True
 |some (.ins _ _ _)=>True
 |some (.ext _)=>True
 |_=>False
section
variable {P:Program} {w:World} {H:Hp} {h h':Heap} {x e:Addr} {o':HO}
def dB.write(ok:dB P w H h)(mu:Hc (H x))(he:e=x\/H e=some (.own x))(k:∀b u,b≠e->h.get? b=some u->h'.get? b=some u)(heo:∃u,h'.get? e=some u)
  (new:aN P w (upd H x o') h' x o'):dB P w (upd H x o') h':=λb u q=>by
 have nown:∀c y,H c=some (.own y)->c≠x:=λc y r z=>by subst z;rw[r] at mu;exact mu
 have ntup:∀c xs,H c=some (.tup xs)->c≠x:=λc xs r z=>by subst z;rw[r] at mu;exact mu
 have nfrz:∀c o1 u1,H c=some (.iH o1 u1)->c≠x:=λc _ _ r z=>by subst z;rw[r] at mu;exact mu
 by_cases hb:b=x
 ·subst hb;rw[aa] at q;cases q;exact new
 ·rw[ae hb] at q;by_cases hbe:b=e
  ·have q':H b=some (.own x):=by
    rcases he with z|z
    ·exact absurd (hbe.trans z) hb
    ·rw[hbe];exact z
   rw[q] at q';cases q';obtain⟨v,hv⟩:=heo;exact⟨v,by rw[hbe];exact hv⟩
  ·refine (ok b u q).iC (λc v hc r=>k c v ?_ r) (λc r=>by rw[ae (nown c b r)];exact r) (λc xs r=>by rw[ae (ntup c xs r)];exact r) λc _ _ r=>by rw[ae (nfrz c _ _ r)];exact r
   rcases hc with rfl|hc
   ·exact hbe
   ·rintro rfl;rcases he with z|z
    ·exact nown c b hc z
    ·rw[hc] at z;cases z;exact hb rfl
end
structure Un (fs ex:List Addr) (H H':Hp) (h h':Heap):Prop where
 keep:∀b o,h.get? b=some o->H b=none->b∉fs->b∉ex->h'.get? b=some o
 slot:∀b o,h.get? b=some o->H b=none->b∈fs->b∉ex->∃sl,h'.get? b=some {o with slots:=sl}
 free:∀b o,h.get? b=some o->H b=none->b∉ex->H' b=none
 there:∀b o,h.get? b=some o->b∉ex->∃o',h'.get? b=some o'
 jc:∀b xs,H b=some (.tup xs)->H' b=some (.tup xs)
 i4:∀b o u,H b=some (.iH o u)->H' b=some (.iH o u)
 gZ:∀b ps,H b=some (.we ps)->∃more,H' b=some (.we (ps++more))
section
variable {fs fs' ex ex':List Addr} {H H1 H2:Hp} {h h1 h2 h':Heap} {a x e:Addr} {o:HO}
def Un.any(u:Un fs ex H H1 h h1){ob:Obj}(q:h.get? b=some ob)(n:H b=none)(hx:b∉ex):∃sl,h1.get? b=some {ob with slots:=sl}:=by
 by_cases hb:b∈fs
 ·exact u.slot b ob q n hb hx
 ·exact⟨ob.slots,u.keep b ob q n hb hx⟩
def Un.kept(k:∀b u,h.get? b=some u->h'.get? b=some u):Un fs ex H H h h':=
 ⟨λb ob q _ _ _=>k b ob q,λb ob q _ _ _=>⟨ob.slots,k b ob q⟩,λ_ _ _ n _=>n,λb ob q _=>⟨ob,k b ob q⟩,λ_ _ q=>q,λ_ _ _ q=>q,λ_ ps q=>⟨#[],by rw[q];simp⟩⟩
def Un.refl:Un fs ex H H h h:=Un.kept λ_ _ q=>q
def Un.laid(k:∀b u,h.get? b=some u->h'.get? b=some u)(hp:h.objs.size<=a)(hn:H a=none):Un fs ex H (upd H a o) h h' where
 keep:=λb u q _ _ _=>k b u q
 slot:=λb u q _ _ _=>⟨u.slots,k b u q⟩
 free:=λb u q n _=>by rw[ae (KH (KI (Kz q) hp))];exact n
 there:=λb u q _=>⟨u,k b u q⟩
 jc:=λb xs q=>by rw[ae (aq q hn)];exact q
 i4:=λb u xs q=>by rw[ae (aq q hn)];exact q
 gZ:=λb ps q=>⟨#[],by rw[ae (aq q hn),q];simp⟩
def Un.write(mu:Hc (H x))(he:e=x\/H e=some (.own x))(k:∀b u,b≠e->h.get? b=some u->h'.get? b=some u)(heo:∃u,h'.get? e=some u):Un fs ex H (upd H x o) h h':=by
 have hx:∀b,H b=none->b≠x:=λb n z=>by subst z;rw[n] at mu;exact mu
 have hb:∀b,H b=none->b≠e:=λb n z=>by
  subst z;rcases he with r|r
  ·exact hx b n r
  ·rw[n] at r;cases r
 have hm:∀b u,H b=some u->¬ Hc (some u)->b≠x:=λb u q nm z=>by subst z;rw[q] at mu;exact nm mu
 refine⟨λb u q n _ _=>k b u (hb b n) q,λb u q n _ _=>⟨u.slots,k b u (hb b n) q⟩,λb u q n _=>by rw[ae (hx b n)];exact n,λb u q _=>?_,
  λb xs q=>by rw[ae (hm b _ q λz=>z)];exact q,λb u xs q=>by rw[ae (hm b _ q λz=>z)];exact q,λb ps q=>⟨#[],by rw[ae (hm b _ q λz=>z),q];simp⟩⟩
 by_cases hbe:b=e
 ·subst hbe;exact heo
 ·exact⟨u,k b u hbe q⟩
end
def Iq(h:Heap)(H:Hp):List Addr:=(List.range h.objs.size).filter λa=>(H a).isSome
def lE(h:Heap)(H:Hp):Heap:=W.hideAll h (Iq h H)
def uG(h:Heap)(H:Hp):(lE h H).objs.size=h.objs.size:=W.hideAll_size _ _
def ik{o:Obj}(e:h.get? b=some o)(n:H b=none):(lE h H).get? b=some o:=
 W.hideAll_get _ e λhm=>by
  have q:(H b).isSome=true:=(List.mem_filter.mp hm).2;rw[n] at q;simp at q
def AU{o:Obj}(e:(lE h H).get? b=some o):h.get? b=some o/\H b=none:=by
 have e':h.get? b=some o:=W.of_hideAll (Iq h H) e;refine⟨e',?_⟩
 cases q:H b with
 |none=>rfl
 |some x =>
  have hm:b∈Iq h H:=List.mem_filter.mpr ⟨Ln.mpr (Kz e'),by simp[q]⟩
  have z:(lE h H).get? b=none:=W.hideAll_none (Iq h H) hm;rw[z] at e;cases e
def Bp(g h:Heap)(L:Addr):List (Addr×Obj):=(List.range h.objs.size).filterMap λa=>if a=L\/(g.get? a).isSome=true then none else (h.get? a).map λo=>(a,o)
def rest(g h:Heap)(L d:Addr):List (Addr×Obj):=(Bp g h L).filter λp=>decide (p.1≠d)
def dC:List Str:=["by_worth","by_weight","code_of"]
def bO(K:W.Frag):List (Addr×Addr×Str):=dC.filterMap λx=>(W.tabIn K x).map λp=>(p.1,p.2,(x++".<locals>.")++"<lambda>")
def TabsOk(K:W.Frag)(H:Hp):Prop:=∀t∈bO K,∃more,H t.2.1=some (.we (#[.str t.2.2 0]++more))
def TabsOk.un{fs ex:List Addr}{H1:Hp}{h1:Heap}(x:TabsOk K H)(u:Un fs ex H H1 h h1):TabsOk K H1:=λt ht=>by
 obtain⟨m,e⟩:=x t ht;obtain⟨m2,e2⟩:=u.gZ _ _ e;exact⟨m++m2,by rw[e2,Array.append_assoc]⟩
def Ec(mg:Str->Option Value)(h:Heap):Prop:=∃bm ob,mg "__builtins__"=some (.ref bm)/\bm≠builtinsNs/\h.get? bm=some ob/\ob.cls=.type "module"/\ob.dict=some builtinsNs/\ob.data=.plain
structure Mod (K:W.Frag) (mg:Str->Option Value) (base:Heap):Prop where
 jz:K.In base
 glob:base.Ns mainGlobals mg
 blt:∃mb,base.Ns builtinsNs mb/\∀x:Str,x≠"__name__"->mb x=bootBuiltins x
 nolimit:base.NoLimit
 codes:∀t∈bO K,W.CodeHd base t.1 t.2.1
 bm:Ec mg base
structure Cx where
 prog:Program
 w:World
 K:W.Frag
 mg:Str->Option Value
 base:Heap
 A:Around
 N:List Str
 s₀:Shared
 H₀:Hp
 env:Env
 outer:List Env
 stack:List Env
 ex:List Addr
 fn:Str->Bool
 calm:Bool
 pn:List (Addr×Obj)
 xe:Value->Shared->Prop
variable{X:Cx}
def iw(l:List Env):List Addr:=l.filterMap (·.frame)
abbrev Cx.fs(X:Cx):List Addr:=iw X.outer
def Gq(sc:Scope)(x:Str):Prop:=sc.names.lookup x=some .local\/sc.names.lookup x=some .cell\/sc.names.lookup x=some .free
def Loc(sc:Scope)(x:Str):Prop:=sc.names.lookup x=some .local\/sc.names.lookup x=some .cell
def Look(env:Env)(h:Heap)(m:Str->Option Value)(x:Str)(u:Value):Prop:=
 (env.kindOf x=some .local/\m x=some u)\/((env.kindOf x=some .cell\/env.kindOf x=some .free)/\∃c,env.cells.lookup x=some c/\h.IsCell c (some u))
structure Cx.Ok (X:Cx):Prop where
 mod:Mod X.K X.mg X.base
 kind:X.env.scope.kind=.function
 glob:X.env.globals=mainGlobals
 blt:X.env.builtins=builtinsNs
 above:X.s₀.heap.objs.size<=X.env.locals
 inj:∀x y c,X.env.cells.lookup x=some c->X.env.cells.lookup y=some c->x=y
 has:∀x,(X.env.kindOf x=some .cell\/X.env.kindOf x=some .free)->∃c,X.env.cells.lookup x=some c
 zF:∀x c,X.fn x=true->X.env.cells.lookup x=some c->X.s₀.heap.objs.size<=c
 hd:X.calm=true->X.A.handled=none
 frames:X.A.frames=some X.stack
 Ad:X.stack=X.outer\/(X.stack=X.env::X.outer/\X.env.frame=some X.env.locals)
 CP:∀b∈X.ex,b≠X.env.locals/\∀x c,X.env.cells.lookup x=some c->c≠b
 bs:∀b o,X.base.get? b=some o->X.s₀.heap.get? b=some o/\X.H₀ b=none
 qN:X.base.objs.size<=X.s₀.heap.objs.size
 jG:∀b o,X.base.get? b=some o->b∉X.ex
 lN:∀b∈X.ex,b∉X.fs
 fC:X.s₀.heap.FunFrames X.base X.outer
 v7:∀b∈X.fs,X.H₀ b=none
 tabs:TabsOk X.K X.H₀
structure Inv (X:Cx) (pins:List (Addr×Obj)) (σ:List (Option V)) (H:Hp) (s:Shared):Prop where
 ok:X.Ok
 os:s.os=X.s₀.os
 bare:AllBare s.gens
 base:Un X.fs X.ex X.H₀ H X.s₀.heap s.heap
 loc:∃m,s.heap.Ns X.env.locals m/\∀(i:Nat) (x:Str) (v:V),X.N[i]?=some x->σ[i]?=some (some v)->Gq X.env.scope x->∃u,RelV v u/\Look X.env s.heap m x u
 cell:∀x c,X.env.cells.lookup x=some c->∃v,s.heap.IsCell c v
 free:H X.env.locals=none
 cw:∀x c,X.env.cells.lookup x=some c->H c=none
 pin:∀p∈X.pn++pins,s.heap.get? p.1=some p.2/\H p.1=none/\p.1≠X.env.locals/\p.1∉X.fs/\∀v,p.2.data≠.cell v
 aL:dB X.prog X.w H s.heap
 len:σ.length=X.N.length
section
variable {X:Cx} {pins:List (Addr×Obj)} {σ:List (Option V)} {H H':Hp} {s:Shared} {h':Heap}
def Cx.Ok.Jd(ok:X.Ok){o:Obj}(e:X.base.get? b=some o):b∉X.fs:=λhb=>by
 have:=(ok.fC.mem hb).1;rw[e] at this;cases this
def Inv.bs(I:Inv X pins σ H s):∀b o,X.base.get? b=some o->s.heap.get? b=some o/\H b=none:=λb o e =>
 ⟨I.base.keep b o (I.ok.bs b o e).1 (I.ok.bs b o e).2 (I.ok.Jd e) (I.ok.jG b o e),I.base.free b o (I.ok.bs b o e).1 (I.ok.bs b o e).2 (I.ok.jG b o e)⟩
def Inv.bk(I:Inv X pins σ H s):∀b o,X.base.get? b=some o->s.heap.get? b=some o:=λb o e=>(I.bs b o e).1
def Inv.mod(I:Inv X pins σ H s):Mod X.K X.mg X.base:=I.ok.mod
def Inv.fi(I:Inv X pins σ H s):X.K.In s.heap:=I.ok.mod.jz.keeps I.bk
def Inv.nolimit(I:Inv X pins σ H s):s.heap.NoLimit:=I.ok.mod.nolimit.keeps I.bk
def Inv.lt(I:Inv X pins σ H s):X.env.locals<s.heap.objs.size:=let ⟨_,hn,_⟩:=I.loc;hn.lt
def Inv.sz(I:Inv X pins σ H s):X.s₀.heap.objs.size<=s.heap.objs.size:=Km I.ok.above (Me I.lt)
def Inv.HH(I:Inv X pins σ H s)(h:s.heap.objs.size<=a):a∉X.fs:=λhb=>by
 obtain⟨_,o,ho,_⟩:=I.ok.fC.mem hb;exact absurd (KI (Kz ho) (Km I.sz h)) (LZ _)
def Inv.vH(I:Inv X pins σ H s):∀x c,X.env.cells.lookup x=some c->c≠X.env.locals:=λx c e z=>by
 obtain⟨v,o,ho,hd⟩:=I.cell x c e;obtain⟨m,⟨o',es,ep,ho',hd',_⟩,_⟩:=I.loc;rw[z,ho'] at ho;cases ho;rw[hd'] at hd;cases hd
def Inv.fC(I:Inv X pins σ H s):s.heap.FunFrames X.base X.outer:=by
 have all:∀(l:List Env),(∀b∈iw l,b∈X.fs)->X.s₀.heap.FunFrames X.base l->s.heap.FunFrames X.base l:=by
  intro l
  induction l with
  |nil=>intro _ _;trivial
  |cons env r ih =>
   intro hs hl;obtain⟨hk,⟨L,o,hf,hn,ho,hd⟩,hr⟩:=hl;have hL:L∈X.fs:=hs L (by unfold iw;rw[NS,hf];exact Kw)
   obtain⟨sl,e⟩:=I.base.slot L o ho (I.ok.v7 L hL) hL λz=>I.ok.lN L z hL;exact⟨hk,⟨L,_,hf,hn,e,hd⟩,ih (λb hb=>hs b (by unfold iw;rw[NS,hf];exact Kx _ hb)) hr⟩
 exact all X.outer (λ_ hb=>hb) I.ok.fC
def Inv.stack(I:Inv X pins σ H s):s.heap.FunFrames X.base X.stack:=by
 rcases I.ok.Ad with e|⟨e,hf⟩
 ·rw[e];exact I.fC
 ·rw[e];obtain⟨m,hn,_⟩:=I.loc;refine .cons (by rw[I.ok.kind];decide) hf hn ?_ I.fC
  exact MX (Km I.ok.qN I.ok.above)
def Inv.kU(I:Inv X pins σ H s):∀b∈iw X.stack,b∈X.env.locals::X.fs:=λb hb=>by
 rcases I.ok.Ad with e|⟨e,hf⟩
 ·rw[e] at hb;exact Kx _ hb
 ·rw[e] at hb;unfold iw at hb;rw[NS,hf] at hb;exact hb
def Inv.ju(I:Inv X pins σ H s):∀b∈iw X.stack,H b=none:=λb hb=>by
 rcases Kv.mp (I.kU b hb) with e|hb
 ·rw[e];exact I.free
 ·obtain⟨_,o,ho,_⟩:=I.ok.fC.mem hb;exact I.base.free b o ho (I.ok.v7 b hb) λz=>I.ok.lN b z hb
def Inv.step{t':Nat}{d':Drawn}(I:Inv X pins σ H s)
  (hch:∀b∈ch,(b∈X.ex\/X.s₀.heap.objs.size<=b)/\b≠X.env.locals/\(∀x c,X.env.cells.lookup x=some c->c≠b)/\∀p∈X.pn++pins,p.1≠b)
  (keep:∀b o,b≠X.env.locals->b∉X.fs->b∉ch->s.heap.get? b=some o->H b=none->h'.get? b=some o)
  (slot:∀b o,b≠X.env.locals->b∈X.fs->b∉ch->s.heap.get? b=some o->H b=none->∃sl,h'.get? b=some {o with slots:=sl}) (free:∀b o,b∉ch->s.heap.get? b=some o->H b=none->H' b=none)
  (there:∀b o,b∉ch->s.heap.get? b=some o->∃o',h'.get? b=some o')
  (jc:∀b xs,H b=some (.tup xs)->H' b=some (.tup xs)) (i4:∀b o u,H b=some (.iH o u)->H' b=some (.iH o u)) (gZ:∀b ps,H b=some (.we ps)->∃more,H' b=some (.we (ps++more)))
  (ns:∀m,s.heap.Ns X.env.locals m->h'.Ns X.env.locals m) (aL:dB X.prog X.w H' h') (hg:AllBare g') :
  Inv X pins σ H' {s with heap:=h',gens:=g',drawn:=d',toks:=t'}:=by
 have neL:∀b o,X.s₀.heap.get? b=some o->b≠X.env.locals:=λb o e=>KH (KI (Kz e) I.ok.above);have neC:∀b o,X.s₀.heap.get? b=some o->b∉X.ex->b∉ch:=λb o e hx hb=>by
  rcases (hch b hb).1 with z|z
  ·exact hx z
  ·exact absurd (KI (Kz e) z) (LZ _)
 have cellK:∀x c,X.env.cells.lookup x=some c->∀v,s.heap.IsCell c v->h'.IsCell c v:=λx c e v ⟨o,ho,hd⟩=>by
  have nch:c∉ch:=λz=>(hch c z).2.2.1 x c e rfl;by_cases hc:c∈X.fs
  ·obtain⟨sl,q⟩:=slot c o (I.vH x c e) hc nch ho (I.cw x c e);exact⟨_,q,hd⟩
  ·exact⟨o,keep c o (I.vH x c e) hc nch ho (I.cw x c e),hd⟩
 refine⟨I.ok,I.os,hg,⟨λb o e n hb hx=>?_,λb o e n hb hx=>?_,λb o e n hx=>?_,λb o e hx=>?_,λb xs e=>jc b xs (I.base.jc b xs e),λb o xs e=>i4 b o xs (I.base.i4 b o xs e),λb ps e=>?_⟩,?_,λx c e=>?_,?_,λx c e=>?_,λp hp=>?_,aL,I.len⟩
 ·exact keep b o (neL b o e) hb (neC b o e hx) (I.base.keep b o e n hb hx) (I.base.free b o e n hx)
 ·obtain⟨sl,e1⟩:=I.base.slot b o e n hb hx;obtain⟨sl',e2⟩:=slot b _ (neL b o e) hb (neC b o e hx) e1 (I.base.free b o e n hx);exact⟨sl',e2⟩
 ·obtain⟨o',e1⟩:=I.base.there b o e hx;exact free b o' (neC b o e hx) e1 (I.base.free b o e n hx)
 ·obtain⟨o',e1⟩:=I.base.there b o e hx;exact there b o' (neC b o e hx) e1
 ·obtain⟨m1,e1⟩:=I.base.gZ b ps e;obtain⟨m2,e2⟩:=gZ b _ e1;exact⟨m1++m2,by rw[e2,Array.append_assoc]⟩
 ·obtain⟨m,hn,hl⟩:=I.loc;refine⟨m,ns m hn,λi x v e1 e2 e3=>?_⟩;obtain⟨u,r,l⟩:=hl i x v e1 e2 e3;refine⟨u,r,?_⟩;rcases l with l|⟨k,c,e,z⟩
  ·exact .inl l
  ·exact .inr ⟨k,c,e,cellK x c e _ z⟩
 ·obtain⟨v,z⟩:=I.cell x c e;exact⟨v,cellK x c e v z⟩
 ·obtain⟨m,⟨o,_,_,ho,_⟩,_⟩:=I.loc;exact free _ o (λz=>(hch _ z).2.1 rfl) ho I.free
 ·obtain⟨v,o,ho,hd⟩:=I.cell x c e;exact free c o (λz=>(hch c z).2.2.1 x c e rfl) ho (I.cw x c e)
 ·obtain⟨e,n,ne,nf,d⟩:=I.pin p hp;have nch:p.1∉ch:=λz=>(hch p.1 z).2.2.2 p hp rfl;exact⟨keep p.1 p.2 ne nf nch e n,free p.1 p.2 nch e n,ne,nf,d⟩
def Inv.un{t':Nat}(I:Inv X pins σ H s)(u:Un X.fs [] H H' s.heap h')(aL:dB X.prog X.w H' h'):Inv X pins σ H' {s with heap:=h',toks:=t'}:=by
 obtain⟨m,⟨o,es,ep,ho,r⟩,_⟩:=id I.loc;obtain⟨sl,hL⟩:=u.any ho I.free (by simp)
 exact I.step (g':=s.gens) (d':=s.drawn) (ch:=[]) (λ_ z=>nomatch z) (λb o _ hb _ e n=>u.keep b o e n hb (by simp)) (λb o _ hb _ e n=>u.slot b o e n hb (by simp)) (λb o _ e n=>u.free b o e n (by simp)) (λb o _ e=>u.there b o e (by simp)) u.jc u.i4 u.gZ (λm' hm=>by
  obtain⟨o',es',ep',ho',r'⟩:=hm;rw[ho] at ho';cases ho';exact⟨_,es',ep',hL,r'⟩) aL I.bare
def Inv.call{t':Nat}{d':Drawn}{ch:List Addr}(I:Inv X pins σ H s)(u:Un (iw X.stack) ch H H' s.heap h')(aL:dB X.prog X.w H' h')(hg:AllBare g')
  (hch:∀b∈ch,(b∈X.ex\/X.s₀.heap.objs.size<=b)/\b≠X.env.locals/\(∀x c,X.env.cells.lookup x=some c->c≠b)/\∀p∈X.pn++pins,p.1≠b) :
  Inv X pins σ H' {s with heap:=h',gens:=g',drawn:=d',toks:=t'}:=by
 obtain⟨m,⟨o,es,ep,ho,r⟩,_⟩:=id I.loc;obtain⟨sl,hL⟩:=u.any ho I.free λz=>(hch _ z).2.1 rfl;exact I.step (ch:=ch) hch (λb o hL hb hc e n=>u.keep b o e n (λz=>(Kv.mp (I.kU b z)).elim hL hb) hc) (λb o _ _ hc e n=>u.any e n hc) (λb o hc e n=>u.free b o e n hc) (λb o hc e=>u.there b o e hc) u.jc u.i4 u.gZ (λm' hm=>by
  obtain⟨o',es',ep',ho',r'⟩:=hm;rw[ho] at ho';cases ho';exact⟨_,es',ep',hL,r'⟩) aL hg
def Inv.turned{t':Nat}{it:Addr}(I:Inv X pins σ H s)(k:∀b o,b≠it->s.heap.get? b=some o->h'.get? b=some o)(hn:H it=none)(hL:it≠X.env.locals)
  (h1:it∈X.ex\/X.s₀.heap.objs.size<=it) (h2:∀x c,X.env.cells.lookup x=some c->c≠it) (h3:∀p∈X.pn++pins,p.1≠it):Inv X pins σ H {s with heap:=h',toks:=t'}:=by
 have nit:∀b u,H b=some u->b≠it:=λb u e z=>by rw[z,hn] at e;cases e
 refine I.step (g':=s.gens) (d':=s.drawn) (ch:=[it]) (λb hb=>?_) (λb o _ _ hc e _=>k b o (λz=>hc (by simp[z])) e) (λb o _ _ hc e _=>⟨o.slots,k b o (λz=>hc (by simp[z])) e⟩) (λ_ _ _ _ n=>n)
  (λb o hc e=>⟨o,k b o (λz=>hc (by simp[z])) e⟩) (λ_ _ e=>e) (λ_ _ _ e=>e) (λb ps e=>⟨#[],by rw[e];simp⟩) (λm hm=>?_) (λb u e=>?_) I.bare
 ·have e:b=it:=by simpa using hb
  subst e;exact⟨h1,hL,h2,h3⟩
 ·obtain⟨o,es,ep,ho,r⟩:=hm;exact⟨o,es,ep,k _ o (Lk hL) ho,r⟩
 ·refine (I.aL b u e).iC (λc v hc q=>k c v ?_ q) (λ_ q=>q) (λ_ _ q=>q) λ_ _ _ q=>q;rcases hc with z|z
  ·rw[z];exact nit b u e
  ·exact nit c _ z
def Inv.tok(I:Inv X pins σ H s)(t:Nat):Inv X pins σ H {s with toks:=t}:=I.un (h':=s.heap) (t':=t) Un.refl I.aL
def Inv.kept{t':Nat}(I:Inv X pins σ H s)(k:∀b u,s.heap.get? b=some u->h'.get? b=some u):Inv X pins σ H {s with heap:=h',toks:=t'}:=I.un (Un.kept k) (I.aL.kept k)
def Inv.laid{t':Nat}(I:Inv X pins σ H s)(k:∀b u,s.heap.get? b=some u->h'.get? b=some u)(hp:s.heap.objs.size<=a)(new:aN X.prog X.w (upd H a o) h' a o):
  Inv X pins σ (upd H a o) {s with heap:=h',toks:=t'}:=I.un (Un.laid k hp (I.aL.fresh hp)) (I.aL.laid k hp new)
def Inv.write{x e:Addr}{t':Nat}(I:Inv X pins σ H s)(mu:Hc (H x))(he:e=x\/H e=some (.own x))(k:∀b u,b≠e->s.heap.get? b=some u->h'.get? b=some u)(heo:∃u,h'.get? e=some u)
  (new:aN X.prog X.w (upd H x o) h' x o):Inv X pins σ (upd H x o) {s with heap:=h',toks:=t'}:=I.un (Un.write mu he k heo) (I.aL.write mu he k heo new)
def Inv.nJ{pins':List (Addr×Obj)}(I:Inv X pins σ H s)(h:∀p∈pins',s.heap.get? p.1=some p.2/\H p.1=none/\p.1≠X.env.locals/\p.1∉X.fs/\∀v,p.2.data≠.cell v):Inv X pins' σ H s:=
 ⟨I.ok,I.os,I.bare,I.base,I.loc,I.cell,I.free,I.cw,λp hp=>(Ld.mp hp).elim (λz=>I.pin p (LD _ z)) (h p),I.aL,I.len⟩
def ki(hN:N.Nodup)(a:N[i]?=some x)(b:N[j]?=some x):i=j:=by
 obtain⟨h1,e1⟩:=Kl.mp a;obtain⟨h2,e2⟩:=Kl.mp b;exact (List.getElem_inj hN).mp (e1.trans e2.symm)
def m8{A:Around}{v:V}{Q:Unit->Shared->Prop}(I:Inv X pins σ H s)(hN:X.N.Nodup)(hi:X.N[i]?=some x)(hx:Loc X.env.scope x)(r:RelV v u)
  (h:∀s',Inv X pins (σ.set i (some v)) H s'->(∃a,Heap.SameBut a s.heap s'.heap/\(a=X.env.locals\/X.env.cells.lookup x=some a))->Q () s') (hf:autoParam (X.fn x=true\/X.env.scope.names.lookup x=some .local) ℜ2):wpAny M A (storeName X.env x u) Q E s:=by
 obtain⟨m,hn,hl⟩:=id I.loc;have hcls:(X.env.scope.kind == .class || (X.env.scope.kind == .module && X.env.locals != X.env.globals))=false:=by rw[I.ok.kind];rfl
 have hiσ:i<σ.length:=by rw[I.len];exact (Kl.mp hi).1
 have vH:=I.vH;have tracked:∀{a:Addr} {h':Heap},(∃o,s.heap.get? a=some o/\H a=none)->Heap.SameBut a s.heap h'->dB X.prog X.w H h':=λ{a h'} ha hs b ob e=>by
  obtain⟨_,_,hfree⟩:=ha;refine (I.aL b ob e).iC (λc w' hc q=>(hs.2 c ?_).trans q) (λ_ q=>q) (λ_ _ q=>q) λ_ _ _ q=>q;rintro rfl;rcases hc with rfl|hc
  ·rw[hfree] at e;cases e
  ·rw[hfree] at hc;cases hc
 rcases hx with hk|hk
 ·refine wpAny_storeName_local hk hn (λh' hn' hs=>?_) hcls;obtain⟨oL,_,_,hoL,_⟩:=id hn;refine h _ ⟨I.ok,I.os,I.bare,⟨λb o e n hb hx=>?_,λb o e n hb hx=>?_,I.base.free,λb o e hx=>?_,I.base.jc,I.base.i4,I.base.gZ⟩,⟨_,hn',λj y v' e1 e2 e3=>?_⟩,λy c e=>?_,I.free,I.cw,λp hp=>?_,tracked ⟨oL,hoL,I.free⟩ hs,by simpa using I.len⟩ ⟨_,hs,.inl rfl⟩
  ·exact (hs.2 b (KH (KI (Kz e) I.ok.above))).trans (I.base.keep b o e n hb hx)
  ·obtain⟨sl,e1⟩:=I.base.slot b o e n hb hx;exact⟨sl,(hs.2 b (KH (KI (Kz e) I.ok.above))).trans e1⟩
  ·obtain⟨o',e1⟩:=I.base.there b o e hx;exact⟨o',(hs.2 b (KH (KI (Kz e) I.ok.above))).trans e1⟩
  ·by_cases hj:j=i
   ·subst hj;rw[hi] at e1;cases e1;rw[Mo hiσ] at e2;cases e2;exact⟨u,r,.inl ⟨hk,by simp⟩⟩
   ·rw[MY (Lk hj)] at e2;obtain⟨u',r',q⟩:=hl j y v' e1 e2 e3;refine⟨u',r',?_⟩;rcases q with ⟨k,e⟩|⟨k,c,e,z⟩
    ·refine .inl ⟨k,?_⟩;have:y≠x:=λe=>hj (ki hN e1 (e ▸ hi));simp[this,e]
    ·exact .inr ⟨k,c,e,z.sameBut hs (vH y c e)⟩
  ·obtain⟨w',z⟩:=I.cell y c e;exact⟨w',z.sameBut hs (vH y c e)⟩
  ·obtain⟨e,n,ne,nf,d⟩:=I.pin p hp;exact⟨(hs.2 p.1 ne).trans e,n,ne,nf,d⟩
 ·have hfn:X.fn x=true:=by
   rcases hf with z|z
   ·exact z
   ·rw[z] at hk;cases hk
  obtain⟨c,hc⟩:=I.ok.has x (.inl hk);obtain⟨w',z⟩:=I.cell x c hc;refine wpAny_storeName_cell I.ok.kind hk hc z (λh' hc' hs=>?_);obtain⟨oc,hoc,hocd⟩:=id z;refine h {s with heap:=h'} ⟨I.ok,I.os,I.bare,⟨λb o e n hb hx=>?_,λb o e n hb hx=>?_,I.base.free,λb o e hx=>?_,I.base.jc,I.base.i4,I.base.gZ⟩,⟨m,hn.sameBut hs (Lk (vH x c hc)),λj y v' e1 e2 e3=>?_⟩,λy c' e=>?_,I.free,I.cw,λp hp=>?_,tracked ⟨oc,hoc,I.cw x c hc⟩ hs,by simpa using I.len⟩ ⟨c,hs,.inr hc⟩
  ·exact (hs.2 b (KH (KI (Kz e) (I.ok.zF x c hfn hc)))).trans (I.base.keep b o e n hb hx)
  ·obtain⟨sl,e1⟩:=I.base.slot b o e n hb hx;exact⟨sl,(hs.2 b (KH (KI (Kz e) (I.ok.zF x c hfn hc)))).trans e1⟩
  ·obtain⟨o',e1⟩:=I.base.there b o e hx;exact⟨o',(hs.2 b (KH (KI (Kz e) (I.ok.zF x c hfn hc)))).trans e1⟩
  ·by_cases hj:j=i
   ·subst hj;rw[hi] at e1;cases e1;rw[Mo hiσ] at e2;cases e2;exact⟨u,r,.inr ⟨.inl hk,c,hc,hc'⟩⟩
   ·rw[MY (Lk hj)] at e2;obtain⟨u',r',q⟩:=hl j y v' e1 e2 e3;refine⟨u',r',?_⟩;rcases q with q|⟨k,c',e,z'⟩
    ·exact .inl q
    ·refine .inr ⟨k,c',e,z'.sameBut hs ?_⟩;rintro rfl;exact hj (ki hN e1 (I.ok.inj _ _ _ e hc ▸ hi))
  ·by_cases hcc:c'=c
   ·subst hcc;exact⟨_,hc'⟩
   ·obtain⟨w2,z2⟩:=I.cell y c' e;exact⟨w2,z2.sameBut hs hcc⟩
  ·obtain⟨e,n,ne,nf,d⟩:=I.pin p hp;refine⟨(hs.2 p.1 ?_).trans e,n,ne,nf,d⟩;intro q;rw[q,hoc] at e;have q':oc=p.2:=Option.some.inj e;exact d w' (by rw[<- q'];exact hocd)
def kZ{A:Around}{v:V}{Q:Unit->Shared->Prop}(I:Inv X pins σ H s)(hN:X.N.Nodup)(hi:X.N[i]?=some x)(hx:Loc X.env.scope x)(r:RelV v u)
  (h:∀s',Inv X pins (σ.set i (some v)) H s'->Q () s') (hf:autoParam (X.fn x=true\/X.env.scope.names.lookup x=some .local) ℜ2):wpAny M A (storeName X.env x u) Q E s:=
 m8 I hN hi hx r (λs' I' _=>h s' I') hf
def Inv.yB(I:Inv X pins σ H s)(ho:s'.os=s.os)(u:Un (iw X.stack) ch H H' s.heap s'.heap)(aL:dB X.prog X.w H' s'.heap)(hg:AllBare s'.gens)
  (hch:∀b∈ch,(b∈X.ex\/X.s₀.heap.objs.size<=b)/\b≠X.env.locals/\(∀x c,X.env.cells.lookup x=some c->c≠b)/\∀p∈X.pn++pins,p.1≠b):Inv X pins σ H' s':=by
 obtain⟨h',g',d',t',o'⟩:=s';have e:o'=s.os:=ho;subst e;exact I.call (g':=g') (t':=t') (d':=d') u aL hg hch
end
abbrev XK:=Value->Option Addr->Hp->Prop
abbrev St:=List (Option V)
variable{σ:St}
abbrev VK:=V->Hp->Prop
abbrev TE:=St->Hp->VK->Prop
abbrev TT:=St->Hp->(Bool->Hp->Prop)->Prop
abbrev TA:=St->Hp->(List V->Hp->Prop)->Prop
structure Ends where
 nx:St->Hp->Prop
 rt:VK
 bk:St->Hp->Prop:=λ_ _=>False
 ct:St->Hp->Prop:=λ_ _=>False
variable{D:Ends}
abbrev TS:=Ends->St->Hp->Prop
variable{tb:TS}
def EP(X:Cx)(pins:List (Addr×Obj))(σ:St)(Q:VK)(u:Value)(s':Shared):Prop:=∃v H',Inv X pins σ H' s'/\RelV v u/\Q v H'
def TP(X:Cx)(pins:List (Addr×Obj))(σ:St)(Q:Bool->Hp->Prop)(b:Bool)(s':Shared):Prop:=∃H',Inv X pins σ H' s'/\Q b H'
def AP(X:Cx)(pins:List (Addr×Obj))(σ:St)(Q:List V->Hp->Prop)(us:List Value)(s':Shared):Prop:=∃vs H',Inv X pins σ H' s'/\Vals vs us/\Q vs H'
def SP(X:Cx)(pins:List (Addr×Obj))(D:Ends)(f:Flow)(s':Shared):Prop:=
 match f with
 |.next=>∃σ' H',Inv X pins σ' H' s'/\D.nx σ' H'
 |.brk=>∃σ' H',Inv X pins σ' H' s'/\D.bk σ' H'
 |.cont=>∃σ' H',Inv X pins σ' H' s'/\D.ct σ' H'
 |.ret u=>∃v σ' H',Inv X pins σ' H' s'/\RelV v u/\D.rt v H'
def PE(X:Cx)(e:Expr)(t:TE):Prop:=
 ∀(pins:List (Addr×Obj)) (s:Shared) (σ:St) (H:Hp) (Q:VK),Inv X pins σ H s->t σ H Q->wpAny (model X.prog X.w) X.A (eval e X.env) (EP X pins σ Q) X.xe s
def PT(X:Cx)(e:Expr)(t:TT):Prop:=
 ∀(pins:List (Addr×Obj)) (s:Shared) (σ:St) (H:Hp) (Q:Bool->Hp->Prop),Inv X pins σ H s->t σ H Q->wpAny (model X.prog X.w) X.A (isTrue e X.env (eval e X.env)) (TP X pins σ Q) X.xe s
def PW(X:Cx)(e:Expr)(t:TT):Prop:=
 ∀(whole:Sem Value) (pins:List (Addr×Obj)) (s:Shared) (σ:St) (H:Hp) (Q:Bool->Hp->Prop),Inv X pins σ H s->t σ H Q->wpAny (model X.prog X.w) X.A (isTrue e X.env whole) (TP X pins σ Q) X.xe s
def PW.pt{t:TT}(h:PW X e t):PT X e t:=h _
def PA(X:Cx)(es:List Expr)(t:TA):Prop:=
 ∀(pos:Pos) (pins:List (Addr×Obj)) (s:Shared) (σ:St) (H:Hp) (Q:List V->Hp->Prop),Inv X pins σ H s->t σ H Q->wpAny (model X.prog X.w) X.A (spliced (backTo pos (starEach es X.env))) (AP X pins σ Q) X.xe s
def PS(X:Cx)(st:Stmt)(t:TS):Prop:=
 ∀(pins:List (Addr×Obj)) (s:Shared) (σ:St) (H:Hp) (D:Ends),Inv X pins σ H s->t D σ H->wpAny (model X.prog X.w) X.A (exec st X.env) (SP X pins D) X.xe s
def rE(X:Cx)(st:List Stmt)(t:TS):Prop:=
 ∀(pins:List (Addr×Obj)) (s:Shared) (σ:St) (H:Hp) (D:Ends),Inv X pins σ H s->t D σ H->wpAny (model X.prog X.w) X.A (execs st X.env) (SP X pins D) X.xe s
def bH{α:Type}{t:Sem α}{Q Q':α->Shared->Prop}{A:Around}{s:Shared}(h:wpAny M A t Q E s)(hQ:∀a s,Q a s->Q' a s):wpAny M A t Q' E s:=Lh h hQ λ_ _ x=>x
section
variable {X:Cx}
def jQ(i:Nat):TE:=λσ H Q=>∃v,σ[i]?=some (some v)/\Q v H
def tC(v:V):TE:=λ_ H Q=>Q v H
def Eb{pos:Pos}(hN:X.N[i]?=some x)(hv:Gq X.env.scope x)(hd:autoParam ((x ==("__debug__":Str))=false) ℜ1)(fJ:autoParam ((x ==("__classdict__":Str))=false) ℜ1):PE X (.Name x pos) (jQ i):=by
 intro pins s σ H Q I h;obtain⟨v,e,h⟩:=h;obtain⟨m,hn,hl⟩:=I.loc;obtain⟨u,r,l⟩:=hl i x v hN e hv;have fin:EP X pins σ Q u s:=⟨v,H,I,r,h⟩;rcases l with ⟨hk,hm⟩|⟨hk,c,hc,hcell⟩
 ·exact wpAny_Name (wpAny_loadName_local I.ok.kind hk hn hm fin) hd
 ·rcases hk with hk|hk
  ·exact wpAny_Name (wpAny_loadName_cell I.ok.kind hk hc hcell fin) hd
  ·exact wpAny_Name (wpAny_loadName_free I.ok.kind hk hc hcell fin fJ) hd
def yE{i j pos}:PE X (.Constant (.int i) j pos) (tC (.int i)):=λ_ _ _ H _ I h=>wpAny_Constant_int ⟨.int i,H,I.tok _,⟨_,rfl⟩,h⟩
def CF{b j pos}:PE X (.Constant (.bool b) j pos) (tC (.bl b)):=λ_ _ _ H _ I h=>Constant_bool ⟨.bl b,H,I,rfl,h⟩
def x_{j pos}:PE X (.Constant .none j pos) (tC .aI):=λ_ _ _ H _ I h=>Constant_none ⟨.aI,H,I,rfl,h⟩
def xv{x j pos}:PE X (.Constant (.str x) j pos) (tC (.str x)):=λ_ _ _ H _ I h=>Calls.Constant_str ⟨.str x,H,I.tok _,⟨_,rfl⟩,h⟩
def Gl(X:Cx)(x:Str):Prop:=X.env.kindOf x=some .globalImplicit
def dQ{s:Shared}{pos:Pos}(I:Inv X pins σ H s)(hg:Gl X x)(hm:X.mg x=some u)(h:Q u s)
  (hd:autoParam ((x ==("__debug__":Str))=false) ℜ1):wpAny (model X.prog X.w) X.A (eval (.Name x pos) X.env) Q E s:=
 Ol I.ok.kind hg (Calls.loadGlobal_global (by rw[I.ok.glob];exact I.mod.glob.keeps I.bk) hm h) hd
def eF{s:Shared}{pos:Pos}(I:Inv X pins σ H s)(hg:Gl X x)(hm:X.mg x=none)(hv:bootBuiltins x=some u)(h:Q u s)
  (hn:autoParam (x≠"__name__") ℜ1) (hd:autoParam ((x ==("__debug__":Str))=false) ℜ1):wpAny (model X.prog X.w) X.A (eval (.Name x pos) X.env) Q E s:=by
 obtain⟨mb,h1,h2⟩:=I.mod.blt;exact Ol I.ok.kind hg (Calls.loadGlobal_builtin (by rw[I.ok.glob];exact I.mod.glob.keeps I.bk) hm (by rw[I.ok.blt];exact h1.keeps I.bk) ((h2 x hn).trans hv) h) hd
def tP{v:V}{pos:Pos}(hg:Gl X x)(hm:X.mg x=some u)(r:RelV v u)(hd:autoParam ((x ==("__debug__":Str))=false) ℜ1):PE X (.Name x pos) (tC v):=
 λ_ _ _ H _ I h=>dQ I hg hm ⟨v,H,I,r,h⟩ hd
def AD{v:V}{pos:Pos}(hg:Gl X x)(hm:X.mg x=none)(hv:bootBuiltins x=some u)(r:RelV v u)(hn:autoParam (x≠"__name__") ℜ1)(hd:autoParam ((x ==("__debug__":Str))=false) ℜ1):PE X (.Name x pos) (tC v):=
 λ_ _ _ H _ I h=>eF I hg hm hv ⟨v,H,I,r,h⟩ hn hd
variable {a b:Expr} {ta tb:TE} {pos:Pos}
variable {tA tB':TT} {rest:List Expr}
def xr(t u:TT):TT:=λσ H Q=>t σ H λc H1=>if c=true then u σ H1 Q else Q false H1
def Gn(t u:TT):TT:=λσ H Q=>t σ H λc H1=>if c=true then Q true H1 else u σ H1 Q
def w8(t:TT):TT:=λσ H Q=>t σ H λc H1=>Q (!c) H1
def Co(ha:PT X a tA):PW X (.BoolOp .And [a] pos) tA:=by
 intro wh pins s σ H Q I h;refine isTrue_and (bH (ha pins s σ H Q I h) λc s1 e=>?_)
 cases c with
 |true=>exact isTrue_and_nil e
 |false=>exact e
def Dh(ha:PT X a tA):PW X (.BoolOp .Or [a] pos) tA:=by
 intro wh pins s σ H Q I h;refine isTrue_or (bH (ha pins s σ H Q I h) λc s1 e=>?_)
 cases c with
 |false=>exact isTrue_or_nil e
 |true=>exact e
def DJ(ha:PT X a tA)(hb:PW X (.BoolOp .And (b::rest) pos) tB'):PW X (.BoolOp .And (a::b::rest) pos) (xr tA tB'):=by
 intro wh pins s σ H Q I h;refine isTrue_and (bH (ha pins s σ H _ I h) λc s1 hq7=>?_);obtain⟨H1,I1,q1⟩:=hq7
 cases c with
 |true=>exact hb wh pins s1 σ H1 Q I1 q1
 |false=>exact⟨H1,I1,q1⟩
def Hv(ha:PT X a tA)(hb:PW X (.BoolOp .Or (b::rest) pos) tB'):PW X (.BoolOp .Or (a::b::rest) pos) (Gn tA tB'):=by
 intro wh pins s σ H Q I h;refine isTrue_or (bH (ha pins s σ H _ I h) λc s1 hq8=>?_);obtain⟨H1,I1,q1⟩:=hq8
 cases c with
 |true=>exact⟨H1,I1,q1⟩
 |false=>exact hb wh pins s1 σ H1 Q I1 q1
def Df(ha:PT X a tA):PT X (.UnaryOp .Not a pos) (w8 tA):=by
 intro pins s σ H Q I h;exact isTrue_not (ha pins s σ H (λc H1=>Q (!c) H1) I h)
def qi(ta tb:TE):TE:=λσ H Q=>ta σ H λx H1=>∃c,x=.bl c/\if c=true then tb σ H1 Q else Q (.bl false) H1
def pR(ta:TE):TE:=λσ H Q=>ta σ H λx H1=>∃c,x=.bl c/\Q (.bl (!c)) H1
def E6{op}{t:TE}(h:PE X a t):PE X (.BoolOp op [a] pos) t:=λpins s σ H Q I hw=>BoolOp_one (h pins s σ H Q I hw)
def FE(ha:PE X a ta)(hb:PE X (.BoolOp .And (b::rest) pos) tb):PE X (.BoolOp .And (a::b::rest) pos) (qi ta tb):=by
 intro pins s σ H Q I h;refine BoolOp_and (bH (ha pins s σ H _ I h) λv s1 hq9=>?_);obtain⟨x,H1,I1,r1,q1⟩:=hq9;obtain⟨c,rfl,q1⟩:=q1;cases r1;refine Mx ?_
 cases c with
 |true=>exact hb pins s1 σ H1 Q I1 q1
 |false=>exact⟨.bl false,H1,I1,rfl,q1⟩
def E3(ha:PE X a ta):PE X (.UnaryOp .Not a pos) (pR ta):=by
 intro pins s σ H Q I h;refine UnaryOp_ (bH (ha pins s σ H _ I h) λv s1 hq11=>?_);obtain⟨x,H1,I1,r1,q1⟩:=hq11;obtain⟨c,rfl,q1⟩:=q1;cases r1;exact not_of (Mx ⟨.bl (!c),H1,I1,rfl,q1⟩)
def HN(t:TT)(ta tb:TE):TE:=λσ H Q=>t σ H λc H1=>if c=true then ta σ H1 Q else tb σ H1 Q
def yl{c:Expr}(hc:PT X c tA)(ha:PE X a ta)(hb:PE X b tb):PE X (.IfExp c a b pos) (HN tA ta tb):=by
 intro pins s σ H Q I h;refine wpAny_IfExp (bH (hc pins s σ H _ I h) λd s1 hq12=>?_);obtain⟨H1,I1,q1⟩:=hq12
 cases d with
 |true=>exact ha pins s1 σ H1 Q I1 q1
 |false=>exact hb pins s1 σ H1 Q I1 q1
end
def a_(K:W.Frag)(H:Hp)(a:Addr)(xs:List V):Prop:=
 Rd H a (.lst xs) \/
  ∃(o:Obj) (its:Array Value) (n:Nat),K.lookup a=some o/\o.cls=.type "list"/\o.dict=none/\o.data=.seq its n/\its.size<=sizeLine/\Vals xs its.toList
def bu(K:W.Frag)(H:Hp)(a:Addr)(xs:List V):Prop:=
 Rd H a (.tup xs) \/
  ∃(o:Obj) (its:Array Value) (n:Nat),K.lookup a=some o/\o.cls=.type "tuple"/\o.data=.seq its n/\its.size<=sizeLine/\Vals xs its.toList
def IP:Value->Option V
 |.none=>some .aI
 |.bool b=>some (.bl b)
 |.int i _=>some (.int i)
 |.str x _=>some (.str x)
 |.bytes b _=>some (.qW b)
 |.float b _=>some (.FX b)
 |.ref a=>some (.ref a)
 |.type n=>some (.ty n)
 |_=>none
def RelV.abs{x:V}(r:RelV x u):IP u=some x:=by
 cases x with
 |aI=>cases r;rfl
 |bl _=>cases r;rfl
 |int _=>obtain⟨t,rfl⟩:=r;rfl
 |str _=>obtain⟨t,rfl⟩:=r;rfl
 |qW _=>obtain⟨t,rfl⟩:=r;rfl
 |FX _=>obtain⟨t,rfl⟩:=r;rfl
 |ref _=>cases r;rfl
 |ty _=>cases r;rfl
def RelV.inj{x y:V}(r:RelV x u)(q:RelV y u):x=y:=Option.some.inj (r.abs.symm.trans q.abs)
theorem Vals.inj:∀{xs ys:List V} {us:List Value},Vals xs us->Vals ys us->xs=ys
 |_,_,_,.nil,.nil=>rfl
 |_,_,_,.cons r t,.cons r' t'=>by rw[r.inj r',Vals.inj t t']
section
variable {X:Cx} {pins:List (Addr×Obj)} {σ:St} {H:Hp} {s:Shared} {a:Addr} {xs ys:List V}
def a_.of(h:H a=some (.lst xs)):a_ K H a xs:=.inl (.inl h)
def bu.of(h:H a=some (.tup xs)):bu K H a xs:=.inl (.inl h)
def Inv.list(I:Inv X pins σ H s)(h:a_ X.K H a xs):∃its:List Value,Vals xs its/\PlainL s.heap a its.toArray/\xs.length<=sizeLine:=by
 rcases h with h|⟨o,its,n,hk,hc,hd,hs,hz,r⟩
 ·obtain⟨z,its,n,r,e⟩:=h.ok I.aL;exact⟨its,r,⟨_,n,e,rfl,rfl,rfl⟩,z⟩
 ·refine⟨its.toList,r,⟨o,n,I.fi a o hk,hc,hd,by simpa using hs⟩,?_⟩
  have e:=r.length;simp only[La] at e;lia
def Inv.tuple(I:Inv X pins σ H s)(h:bu X.K H a xs):∃its:List Value,Vals xs its/\IsTup s.heap a its.toArray/\xs.length<=sizeLine:=by
 rcases h with h|⟨o,its,n,hk,hc,hs,hz,r⟩
 ·obtain⟨z,its,r,p⟩:=h.ok I.aL;exact⟨its,r,p.to,z⟩
 ·refine⟨its.toList,r,⟨o,I.fi a o hk,hc,n,by simpa using hs⟩,?_⟩
  have e:=r.length;simp only[La] at e;lia
def Inv.jN(I:Inv X pins σ H s)(h:a_ X.K H a xs)(h':a_ X.K H a ys):xs=ys:=by
 obtain⟨its,r,⟨o,n,e,_,_,d⟩,_⟩:=I.list h;obtain⟨its',r',⟨o',n',e',_,_,d'⟩,_⟩:=I.list h';rw[e] at e';cases e';rw[d] at d'
 injection d' with d1 _
 have:its=its':=by simpa using Lg Array.toList d1
 subst this;exact r.inj r'
def Inv.iY(I:Inv X pins σ H s)(h:bu X.K H a xs)(h':bu X.K H a ys):xs=ys:=by
 obtain⟨its,r,⟨o,e,_,n,d⟩,_⟩:=I.tuple h;obtain⟨its',r',⟨o',e',_,n',d'⟩,_⟩:=I.tuple h';rw[e] at e';cases e';rw[d] at d'
 injection d' with d1 _
 have:its=its':=by simpa using Lg Array.toList d1
 subst this;exact r.inj r'
end
abbrev Cx.lu(X:Cx)(E:Value->Shared->Prop):Cx:={X with xe:=E}
abbrev Cx.AK(X:Cx):Cx:=X.lu λ_ _=>False
def Cx.Ok.lu(ok:X.Ok)(E:Value->Shared->Prop):(X.lu E).Ok:=
 ⟨ok.mod,ok.kind,ok.glob,ok.blt,ok.above,ok.inj,ok.has,ok.zF,ok.hd,ok.frames,ok.Ad,ok.CP,ok.bs,ok.qN,ok.jG,ok.lN,ok.fC,ok.v7,ok.tabs⟩
def Cx.Ok.fP(ok:(X.lu E).Ok):X.Ok:=
 ⟨ok.mod,ok.kind,ok.glob,ok.blt,ok.above,ok.inj,ok.has,ok.zF,ok.hd,ok.frames,ok.Ad,ok.CP,ok.bs,ok.qN,ok.jG,ok.lN,ok.fC,ok.v7,ok.tabs⟩
section
variable {X:Cx} {pins:List (Addr×Obj)} {σ:St} {H:Hp} {s:Shared} {E:Value->Shared->Prop}
def Inv.lu(I:Inv X pins σ H s)(E:Value->Shared->Prop):Inv (X.lu E) pins σ H s:=⟨I.ok.lu E,I.os,I.bare,I.base,I.loc,I.cell,I.free,I.cw,I.pin,I.aL,I.len⟩
def Inv.fP(I:Inv (X.lu E) pins σ H s):Inv X pins σ H s:=⟨I.ok.fP,I.os,I.bare,I.base,I.loc,I.cell,I.free,I.cw,I.pin,I.aL,I.len⟩
def SP.fP{f:Flow}(h:SP (X.lu E) pins D f s'):SP X pins D f s':=by
 cases f with
 |next=>obtain⟨σ',H',I,q⟩:=h;exact⟨σ',H',I.fP,q⟩
 |brk=>obtain⟨σ',H',I,q⟩:=h;exact⟨σ',H',I.fP,q⟩
 |cont=>obtain⟨σ',H',I,q⟩:=h;exact⟨σ',H',I.fP,q⟩
 |ret u=>obtain⟨v,σ',H',I,r,q⟩:=h;exact⟨v,σ',H',I.fP,r,q⟩
def rE.AK{st:List Stmt}{t:TS}(h:rE X.AK st t):rE X st t:=λpins s σ H D I hw =>
 Lh (h pins s σ H D (I.lu _) hw) (λ_ _ q=>q.fP) λ_ _ z=>False.elim z
end
section
variable {X:Cx} {st:Stmt} {rest:List Stmt} {t u:TS} {e:Expr} {te:TE} {pos:Pos}
def pA:TS:=λD σ H=>D.nx σ H
def vp(t u:TS):TS:=λD σ H=>t {D with nx:=u D} σ H
def Cn:rE X [] pA:=λ_ _ σ H _ I h=>NK ⟨σ,H,I,h⟩
def Aa(h1:PS X st t)(h2:rE X rest u):rE X (st::rest) (vp t u):=by
 intro pins s σ H D I h;refine wpAny_execs_cons (bH (h1 pins s σ H {D with nx:=u D} I h) λf s1 q=>?_)
 cases f with
 |next =>
  obtain⟨σ',H',I',q⟩:=q;exact h2 pins s1 σ' H' D I' q
 |ret v=>exact q
 |brk=>exact q
 |cont=>exact q
def BE(h1:PS X st t):rE X [st] t:=by
 intro pins s σ H D I h;refine wpAny_execs_cons (bH (h1 pins s σ H D I h) λf s1 q=>?_)
 cases f with
 |next=>exact NK q
 |ret v=>exact q
 |brk=>exact q
 |cont=>exact q
def Inv.quiet{s:Shared}(I:Inv X pins σ H s):interactive X.env=false:=by simp[interactive,I.ok.kind]
def pZ(te:TE):TS:=λD σ H=>te σ H λ_ H1=>D.nx σ H1
def B5(he:PE X e te)(hs:autoParam (swapsWith e none pos.line X.env=pure false) ℜ0):PS X (.Expr e pos) (pZ te):=by
 intro pins s σ H D I h;exact wpAny_Expr_any (bH (he pins s σ H _ I h) λv s1 ⟨x,H1,I1,r1,q1⟩=>⟨σ,H1,I1,q1⟩) I.quiet hs
def yb(te:TE):TS:=λD σ H=>te σ H D.rt
def Ei(he:PE X e te):PS X (.Return (some e) pos) (yb te):=by
 intro pins s σ H D I h;exact wpAny_Return_some (bH (he pins s σ H _ I h) λv s1 ⟨x,H1,I1,r1,q1⟩=>⟨x,σ,H1,I1,r1,q1⟩)
def mX(c:TT)(t u:TS):TS:=λD σ H=>c σ H λb H1=>if b=true then t D σ H1 else u D σ H1
def Gr{c:Expr}{a b:List Stmt}{tc:TT}(hc:PT X c tc)(ha:rE X a t)(hb:rE X b u):PS X (.If c a b pos) (mX tc t u):=by
 intro pins s σ H D I h;refine wpAny_If (bH (hc pins s σ H _ I h) λd s1 hq13=>?_);obtain⟨H1,I1,q1⟩:=hq13
 cases d with
 |true=>exact ha pins s1 σ H1 D I1 q1
 |false=>exact hb pins s1 σ H1 D I1 q1
end
abbrev TG:=V->St->Hp->(St->Hp->Prop)->Prop
abbrev xI:=List V->St->Hp->(St->Hp->Prop)->Prop
def PG(X:Cx)(target:Expr)(t:TG):Prop:=
 ∀(pins:List (Addr×Obj)) (s:Shared) (σ:St) (H:Hp) (v:V) (u:Value) (Q:St->Hp->Prop),Inv X pins σ H s->RelV v u->t v σ H Q ->
  wpAny (model X.prog X.w) X.A (assign target X.env u) (λ_ s'=>∃σ' H',Inv X pins σ' H' s'/\Q σ' H') X.xe s
def Hg(X:Cx)(ts:List Expr)(t:xI):Prop:=
 ∀(pins:List (Addr×Obj)) (s:Shared) (σ:St) (H:Hp) (vs:List V) (us:List Value) (Q:St->Hp->Prop),Inv X pins σ H s->Vals vs us->t vs σ H Q ->
  wpAny (model X.prog X.w) X.A (assignInOrder ((assignEach ts X.env).map (·.2)) us) (λ_ s'=>∃σ' H',Inv X pins σ' H' s'/\Q σ' H') X.xe s
abbrev BC:=V->V->V->Hp->(Hp->Prop)->Prop
def Dz(X:Cx)(t:BC):Prop:=
 ∀(pins:List (Addr×Obj)) (s:Shared) (σ:St) (H:Hp) (o i v:V) (ov iv u:Value) (Q:Hp->Prop),Inv X pins σ H s->RelV o ov->RelV i iv->RelV v u->t o i v H Q ->
  wpAny (model X.prog X.w) X.A (setItem ov iv u) (λ_ s'=>∃H',Inv X pins σ H' s'/\Q H') X.xe s
section
variable {X:Cx} {pos:Pos}
def aO(i:Nat):TG:=λv σ H Q=>Q (σ.set i (some v)) H
def An(hN:X.N.Nodup)(hi:X.N[i]?=some x)(hx:Loc X.env.scope x)(hf:autoParam (X.fn x=true\/X.env.scope.names.lookup x=some .local) ℜ2):PG X (.Name x pos) (aO i):=by
 intro pins s σ H v u Q I r h;exact wpAny_assign_Name (kZ I hN hi hx r (λs' I'=>⟨_,H,I',h⟩) hf)
def lL:xI:=λvs σ H Q=>vs=[]/\Q σ H
def d6(t:TG)(u:xI):xI:=λvs σ H Q=>∃v r,vs=v::r/\t v σ H λσ' H'=>u r σ' H' Q
def Bs:Hg X [] lL:=by
 intro pins s σ H vs us Q I r h;obtain⟨e,h⟩:=h;subst e;cases r;exact assignInOrder_nil ⟨σ,H,I,h⟩
def zG{t:TG}{u:xI}(h1:PG X e t)(h2:Hg X es u)
  (hs:autoParam ((assignEach (e::es) X.env).map (·.2)=assign e X.env::(assignEach es X.env).map (·.2)) ℜ0):Hg X (e::es) (d6 t u):=by
 intro pins s σ H vs us Q I r h;obtain⟨v,vr,e1,h⟩:=h;subst e1
 cases r with
 |cons r rr =>
  rw[hs];refine assignInOrder_cons (bH (h1 pins s σ H _ _ _ I r h) λ_ s1 hq14=>?_);obtain⟨σ1,H1,I1,q1⟩:=hq14;exact h2 pins s1 σ1 H1 _ _ Q I1 rr q1
def rT(K:W.Frag)(n:Nat)(t:xI):TG:=λv σ H Q=>∃a xs,v=.ref a/\bu K H a xs/\xs.length=n/\t xs σ H Q
def Ea{k:Nat}{t:xI}{n:Nat}(hc:X.calm=true)(h:Hg X es t)
  (hn:autoParam ((assignEach es X.env).length=n) ℜ0) (hst:autoParam ((assignEach es X.env).findIdx? (·.1)=none) ℜ0):PG X (.Tuple es k pos) (rT X.K n t):=by
 intro pins s σ H v u Q I r hw;obtain⟨a,xs,e1,hq,hl,hw⟩:=hw;subst e1;cases r;obtain⟨its,rv,ht,hz⟩:=I.tuple hq;refine assign_Tuple_tuple (I.ok.hd hc) ht (by simp[hn,<- hl,rv.length]) hst λh' hx=>?_
 have I1:Inv X pins σ H {s with heap:=h'}:=I.kept (t':=s.toks) λb o e=>hx b o (KH (Kz e)) e
 exact h pins _ σ H xs _ Q I1 (by simpa using rv) hw
def xo(to ti:TE)(t:BC):TG:=λv σ H Q=>to σ H λo H1=>ti σ H1 λi H2=>t o i v H2 λH3=>Q σ H3
def DB{o i:Expr}{to ti:TE}{t:BC}(ho:PE X o to)(hi:PE X i ti)(hs:Dz X t)
  (ha:autoParam (∀v,assign (.Subscript o i pos) X.env v=(do
   let ov <- holding [v] (eval o X.env)
   let iv <- holding [v,ov] (eval i X.env)
   standAt pos
   holding [v,ov,iv] (setItem ov iv v)
   release [v,ov,iv] [])) ℜ3):PG X (.Subscript o i pos) (xo to ti t):=by
 intro pins s σ H v u Q I r h;rw[ha];refine Kh (Lu (bH (ho pins s σ H _ I h) λov s1 hq15=>?_));obtain⟨x,H1,I1,r1,q1⟩:=hq15;refine Kh (Lu (bH (hi pins s1 σ H1 _ I1 q1) λiv s2 hq16=>?_));obtain⟨y,H2,I2,r2,q2⟩:=hq16;refine Kh (Nk (Kh (Lu (bH (hs pins s2 σ H2 x y v ov iv u _ I2 r1 r2 r q2) λ_ s3 hq17=>?_))));obtain⟨H3,I3,q3⟩:=hq17;exact wpAny_release ⟨σ,H3,I3,q3⟩
def km(te:TE)(g:TG):TS:=λD σ H=>te σ H λx H1=>g x σ H1 D.nx
def EB{te:TE}{g:TG}(he:PE X e te)(hg:PG X tg g)(hs:autoParam (swapsWithSole [tg] e pos.line X.env=pure false) ℜ0)(hw:autoParam (swappedStores [tg] e X.env=pure none) ℜ0)
  (h1:autoParam ((assignEach [tg] X.env).map (·.2)=[assign tg X.env]) ℜ0):PS X (.Assign [tg] e pos) (km te g):=by
 intro pins s σ H D I h;refine wpAny_Assign_stores (bH (he pins s σ H _ I h) λv s1 hq18=>?_) hs hw;obtain⟨x,H1,I1,r1,q1⟩:=hq18;rw[h1];exact bH (hg pins s1 σ H1 x v _ I1 r1 q1) λ_ s2 q=>q
def FA{te:TE}{pos':Pos}(hN:X.N.Nodup)(hi:X.N[i]?=some x)(hx:Loc X.env.scope x)(he:PE X e te)(hs:autoParam (swapsWith e (some (.Name x pos')) pos.line X.env=pure false) ℜ0)(hf:autoParam (X.fn x=true\/X.env.scope.names.lookup x=some .local) ℜ2):
  PS X (.Assign [.Name x pos'] e pos) (km te (aO i)):=by
 intro pins s σ H D I h;refine wpAny_Assign_Name (bH (he pins s σ H _ I h) λv s1 hq19=>?_) hs;obtain⟨y,H1,I1,r1,q1⟩:=hq19;exact kZ I1 hN hi hx r1 (λs2 I2=>⟨_,H1,I2,q1⟩) hf
end
section
variable {X:Cx} {pos:Pos}
def wF(c:TT)(tb:TS):TS:=λD σ H=>∃W:Nat->St->Hp->Prop,(∃m,W m σ H)/\∀m σ H,W m σ H ->
 c σ H λb H1=>if b=true then ∃N:St->Hp->Prop,(∀σ' H',N σ' H'->∃m',m'<m/\W m' σ' H')/\tb {D with nx:=N,ct:=N,bk:=D.nx} σ H1 else D.nx σ H1
def xm{c:Expr}{tc:TT}(hp:PassesOwn (model X.prog X.w) X.A X.env X.xe)(hc:PT X c tc)(hb:rE X body tb):PS X (.While c body [] pos) (wF tc tb):=by
 intro pins s σ H D I h;obtain⟨W,⟨m0,w0⟩,turn⟩:=h;refine wpAny_While (codeAny_whileLoop (λn s'=>∃σ' H',Inv X pins σ' H' s'/\W n σ' H') ?_ m0 ⟨σ,H,I,w0⟩);rintro n s1 ⟨σ1,H1,I1,w1⟩;refine Ms hp (bH (hc pins s1 σ1 H1 _ I1 (turn n σ1 H1 w1)) λb s2 hq28=>?_);obtain⟨H2,I2,q2⟩:=hq28
 cases b with
 |true =>
  obtain⟨N,hN,q2⟩:=q2;rw[Ku rfl];refine Ms hp (bH (hb pins s2 σ1 H2 _ I2 q2) λf s3 q3=>?_)
  cases f with
  |next =>
   obtain⟨σ3,H3,I3,n3⟩:=q3;obtain⟨m',hm,w3⟩:=hN σ3 H3 n3;exact⟨m',hm,σ3,H3,I3,w3⟩
  |cont =>
   obtain⟨σ3,H3,I3,n3⟩:=q3;obtain⟨m',hm,w3⟩:=hN σ3 H3 n3;exact⟨m',hm,σ3,H3,I3,w3⟩
  |brk=>exact q3
  |ret v=>exact q3
 |false =>
  rw[Ko Ky];exact NK ⟨σ1,H2,I2,q2⟩
end
structure It where
 go:Nat->Hp->Prop
 CD:Nat->Hp->V->Hp->Prop
 stop:Nat->Hp->Prop
def ko(X:Cx)(pins:List (Addr×Obj))(H:Hp)(b:Addr):Prop:=
 H b=none/\b≠X.env.locals/\b∉X.fs/\(b∈X.ex\/X.s₀.heap.objs.size<=b)/\(∀x c,X.env.cells.lookup x=some c->c≠b)/\∀p∈X.pn++pins,p.1≠b
def Inv.nH{H':Hp}{s:Shared}(I:Inv X pins σ H s)(hb:s.heap.objs.size<=b)(hn:H' b=none):ko X pins H' b:=by
 refine⟨hn,LX (KI I.lt hb),I.HH hb,.inr (Km I.sz hb),λx c e z=>?_,λp hp z=>?_⟩
 ·obtain⟨v,q⟩:=I.cell x c e;exact absurd (KI q.lt (by rw[z];exact hb)) (LZ _)
 ·exact absurd (KI (Kz (I.pin p hp).1) (by rw[z];exact hb)) (LZ _)
structure Turn (P:Program) (w:World) (K:W.Frag) (tg:Expr) (J:It) (fp:List Addr) (it:Addr) (tn:Nat->Heap->Prop):Prop where
 mem:it∈fp
 obj:∀i h,tn i h->∀b∈fp,∃o,h.get? b=some o/\∀v,o.data≠.cell v
 keep:∀i h h',tn i h->(∀b∈fp,∀o,h.get? b=some o->h'.get? b=some o)->tn i h'
 item:∀(X:Cx),X.prog=P->X.w=w->X.K=K->X.calm=true->∀(i:Nat) (pins:List (Addr×Obj)) (s:Shared) (σ:St) (H:Hp) (E:Value->Shared->Prop),Inv X pins σ H s->(∀b∈fp,ko X pins H b)->tn i s.heap->J.go i H ->
  wpAny (model P w) X.A (pyNext (.ref it)) (λr s1=>∃u,r=some u /\
   wpAny (model P w) X.A (letOwnedTupleGo tg (.ref it) u) (λ_ s2=>∃x H',Inv X pins σ H' s2/\RelV x u/\J.CD i H x H'/\tn (i+1) s2.heap/\∀b∈fp,H' b=none) E s1) E s
 done:∀(X:Cx),X.prog=P->X.w=w->X.K=K->X.calm=true->∀(i:Nat) (pins:List (Addr×Obj)) (s:Shared) (σ:St) (H:Hp) (E:Value->Shared->Prop),Inv X pins σ H s->(∀b∈fp,ko X pins H b)->tn i s.heap->J.stop i H ->
  wpAny (model P w) X.A (pyNext (.ref it)) (λr s1=>r=none/\Inv X pins σ H s1) E s
 self:∀(A:Around) (i:Nat) (s:Shared) (Q:Value->Shared->Prop) (E:Value->Shared->Prop),tn i s.heap->Q (.ref it) s->wpAny (model P w) A (pyIter (.ref it)) Q E s
abbrev TI:=St->Hp->(It->Hp->Prop)->Prop
def IZ(X:Cx)(pins:List (Addr×Obj))(σ:St)(tg:Expr)(R:It->Hp->Prop)(itv:Value)(s2:Shared):Prop:=
 ∃(it:Addr) (fp:List Addr) (tn:Nat->Heap->Prop) (J:It) (H':Hp),itv=.ref it/\Inv X pins σ H' s2/\Turn X.prog X.w X.K tg J fp it tn/\tn 0 s2.heap/\(∀b∈fp,ko X pins H' b)/\R J H'
def PI(X:Cx)(tg iter:Expr)(wi:TI):Prop:=
 ∀(pins:List (Addr×Obj)) (s:Shared) (σ:St) (H:Hp) (R:It->Hp->Prop),Inv X pins σ H s->wi σ H R ->
  wpAny (model X.prog X.w) X.A (eval iter X.env) (λv s1=>wpAny (model X.prog X.w) X.A (pyIter v) (IZ X pins σ tg R) X.xe s1) X.xe s
def qG{A:Around}{s:Shared}{it:Addr}{o:Obj}{n:String}{vs:Array Value}{Q:Unit->Shared->Prop}(ho:s.heap.get? it=some o)(hc:o.cls=.type n)(hd:o.data=.fields vs)
    (hn:["enumerate","zip","dict_itemiterator","dict_reverseitemiterator","odict_iterator","itertools.zip_longest","itertools.pairwise"].contains n=false) (hQ:Q () s):wpAny M A (letOwnedTupleGo tg (.ref it) u) Q E s:=by
  unfold letOwnedTupleGo
  cases tg<;>first
    |exact Kt hQ
    | (cases u<;>first
        |exact Kt hQ
        | (refine Kh (wpAny_load ho ?_)
           rw[hc,hd];show wpAny M A (if (["enumerate","zip","dict_itemiterator","dict_reverseitemiterator","odict_iterator","itertools.zip_longest","itertools.pairwise"].contains n && vs[0]? == some (rawInt _))=true then _ else _) Q E s
           rw[Ko (by intro h;rw[hn,Bool.false_and] at h;cases h)]
           exact Kt hQ))
def Ab(K:W.Frag)(a:Addr):It:=
 ⟨λi H=>∃xs x,a_ K H a xs/\xs[i]?=some x,λi H x H'=>H'=H/\∀xs,a_ K H a xs->xs[i]?=some x,λi H=>∃xs,a_ K H a xs/\xs.length<=i⟩
def uT(K:W.Frag)(a:Addr):It:=
 ⟨λi H=>∃xs x,bu K H a xs/\xs[i]?=some x,λi H x H'=>H'=H/\∀xs,bu K H a xs->xs[i]?=some x,λi H=>∃xs,bu K H a xs/\xs.length<=i⟩
def y8(lo:Int)(n:Nat):It:=⟨λi _=>i<n,λi H x H'=>H'=H/\x=.int (lo+i),λi _=>n<=i⟩
def lT(a it:Addr):Turn P w K tg (Ab K a) [it] it (λi h=>h.IsListIter it a i) where
 mem:=by simp
 obj:=λi h st b hb=>by
  have e:b=it:=by simpa using hb
  subst e;obtain⟨o,e,c,d⟩:=st;exact⟨o,e,λv z=>by rw[d] at z;cases z⟩
 keep:=λi h h' st k=>st.at λo e=>k it (by simp) o e
 item:=by
  intro X hP hw hK hc i pins s σ H E I hf st hg;subst hP hw hK;obtain⟨xs,x,hq,hx⟩:=hg;obtain⟨its,rv,p,hz⟩:=I.list hq;obtain⟨u,hu,ru⟩:=rv.get hx;obtain⟨f0,f1,f2,f3,f4,f5⟩:=hf it (by simp)
  refine OS st p.isList (x:=u) (by simpa using hu) λh' st' sb=>?_
  have I1:Inv X pins σ H {s with heap:=h'}:=I.turned (t':=s.toks) (λb o hb e=>(sb.2 b hb).trans e) f0 f1 f3 f4 f5
  obtain⟨o,e,c,d⟩:=id st';exact⟨u,rfl,qG (s:={s with heap:=h'}) e c d (by decide) ⟨x,H,I1,ru,⟨rfl,λys hy=>by rw[I.jN hy hq];exact hx⟩,st',λb hb=>(hf b hb).1⟩⟩
 done:=by
  intro X hP hw hK hc i pins s σ H E I hf st hg;subst hP hw hK;obtain⟨xs,hq,hx⟩:=hg;obtain⟨its,rv,p,hz⟩:=I.list hq;obtain⟨f0,f1,f2,f3,f4,f5⟩:=hf it (by simp)
  have hl:=rv.length;exact wpAny_pyNext_list_end (I.ok.hd hc) st p.isList (by simp;lia) λh' eb=>⟨rfl,I.turned (t':=s.toks) (λb o hb e=>eb b o hb e) f0 f1 f3 f4 f5⟩
 self:=λ_ _ _ _ _ st h=>wpAny_pyIter_listiter st h
def jJ(a it:Addr):Turn P w K tg (uT K a) [it] it (λi h=>h.IsTupleIter it a i) where
 mem:=by simp
 obj:=λi h st b hb=>by
  have e:b=it:=by simpa using hb
  subst e;obtain⟨o,e,c,d⟩:=st;exact⟨o,e,λv z=>by rw[d] at z;cases z⟩
 keep:=λi h h' st k=>st.at λo e=>k it (by simp) o e
 item:=by
  intro X hP hw hK hc i pins s σ H E I hf st hg;subst hP hw hK;obtain⟨xs,x,hq,hx⟩:=hg;obtain⟨its,rv,p,hz⟩:=I.tuple hq;obtain⟨u,hu,ru⟩:=rv.get hx;obtain⟨f0,f1,f2,f3,f4,f5⟩:=hf it (by simp)
  refine wpAny_pyNext_tuple_item st (show s.heap.IsTuple a its.toArray from p) (x:=u) (by simpa using hu) λh' st' sb=>?_
  have I1:Inv X pins σ H {s with heap:=h'}:=I.turned (t':=s.toks) (λb o hb e=>(sb.2 b hb).trans e) f0 f1 f3 f4 f5
  obtain⟨o,e,c,d⟩:=id st';exact⟨u,rfl,qG (s:={s with heap:=h'}) e c d (by decide) ⟨x,H,I1,ru,⟨rfl,λys hy=>by rw[I.iY hy hq];exact hx⟩,st',λb hb=>(hf b hb).1⟩⟩
 done:=by
  intro X hP hw hK hc i pins s σ H E I hf st hg;subst hP hw hK;obtain⟨xs,hq,hx⟩:=hg;obtain⟨its,rv,p,hz⟩:=I.tuple hq;obtain⟨f0,f1,f2,f3,f4,f5⟩:=hf it (by simp)
  have hl:=rv.length;exact wpAny_pyNext_tuple_end (I.ok.hd hc) st (show s.heap.IsTuple a its.toArray from p) (by simp;lia) λh' eb=>⟨rfl,I.turned (t':=s.toks) (λb o hb e=>eb b o hb e) f0 f1 f3 f4 f5⟩
 self:=λ_ _ _ _ _ st h=>wpAny_pyIter_tupleiter st h
def sD{w:World}{K:PySem.W.Frag}(it:Addr)(lo:Int)(n:Nat):Turn P w K tg (y8 lo n) [it] it (λi h=>IsRangeIter h it (lo+(i:Nat)*1) ((n:Int)-(i:Nat)) 1) where
 mem:=by simp
 obj:=λi h st b hb=>by
  have e:b=it:=by simpa using hb
  subst e;exact⟨_,st,λv z=>by
   have z':Data.fields _=Data.cell v:=z
   cases z'⟩
 keep:=λi h h' st k=>k it (by simp) _ st
 item:=by
  intro X hP hw hK hc i pins s σ H E I hf st hg;subst hP hw hK;obtain⟨f0,f1,f2,f3,f4,f5⟩:=hf it (by simp)
  have W:=Walks.range (prog:=X.prog) (w:=X.w) (I.ok.hd hc) it lo 1 n;refine W.item i s _ _ hg st λv h' tk hv st' kk=>?_;obtain⟨t,rfl⟩:=hv;have I1:Inv X pins σ H {s with heap:=h',toks:=tk}:=I.turned (λb o hb e=>kk b o (by simpa using hb) e) f0 f1 f3 f4 f5
  refine⟨_,rfl,qG (s:={s with heap:=h',toks:=tk}) (n:="range_iterator") st' rfl rfl (by decide) ⟨.int (lo+i),H,I1,⟨t,?_⟩,⟨rfl,rfl⟩,st',λb hb=>(hf b hb).1⟩⟩
  rw[Int.mul_one]
 done:=by
  intro X hP hw hK hc i pins s σ H E I hf st hg;subst hP hw hK;obtain⟨f0,f1,f2,f3,f4,f5⟩:=hf it (by simp)
  exact wpAny_pyNext_range_end (I.ok.hd hc) st (by have:n<=i:=hg;lia) λh' eb=>⟨rfl,I.turned (t':=s.toks) (λb o hb e=>eb b o hb e) f0 f1 f3 f4 f5⟩
 self:=λ_ _ _ _ _ st h=>wpAny_pyIter_rangeiter st h
section
variable {X:Cx} {tg:Expr}
def pV{s:Shared}{R:It->Hp->Prop}{lo hi:Int}{t u v:Tok}{tk:Nat}(I:Inv X pins σ H s)(h1:-(2^62)<=lo)(h2:lo<2^62)(h3:-(2^62)<=hi)(h4:hi<2^62)
  (q:R (y8 lo (hi-lo).toNat) H):wpAny (model X.prog X.w) X.A (pyIter (.ref s.heap.objs.size)) (IZ X pins σ tg R) E {s with heap:=s.heap.push {cls:=.type "range",data:=.fields #[.int lo t,.int hi u,.int 1 v]},toks:=tk}:=by
 refine wpAny_pyIter_range (IsRange.new ..) (small_one h1 h2 h3 h4) ?_;have I1:Inv X pins σ H {s with heap:=s.heap.push {cls:=.type "range",data:=.fields #[.int lo t,.int hi u,.int 1 v]},toks:=tk}:=I.kept λb o e=>Kk _ e
 refine⟨(s.heap.push {cls:=.type "range",data:=.fields #[.int lo t,.int hi u,.int 1 v]}).objs.size,[(s.heap.push {cls:=.type "range",data:=.fields #[.int lo t,.int hi u,.int 1 v]}).objs.size],_,_,H,rfl,
  I1.kept (t':=tk) λb o e=>Kk _ e,sD _ lo (hi-lo).toNat,?_,λb hb=>?_,q⟩
 ·have e1:lo+((0:Nat):Int)*1=lo:=by simp
  have e2:(((hi-lo).toNat:Nat):Int)-((0:Nat):Int)=Builtin.Range.rangeSize lo hi 1:=by rw[rangeSize_one];split<;>lia
  show IsRangeIter _ _ (lo+((0:Nat):Int)*1) ((((hi-lo).toNat:Nat):Int)-((0:Nat):Int)) 1;rw[e1,e2];exact K1 _ rfl
 ·have e:b=(s.heap.push {cls:=.type "range",data:=.fields #[.int lo t,.int hi u,.int 1 v]}).objs.size:=by simpa using hb
  subst e;exact I1.nH (Kp _) (I1.aL.fresh (Kp _))
def mQ(ta:TA):TI:=λσ H R=>ta σ H λvs H1=>∃j:Int,vs=[.int j]/\-(2^62)<=j/\j<2^62/\R (y8 0 j.toNat) H1
def ma(ta:TA):TI:=λσ H R=>ta σ H λvs H1=>∃i j:Int,vs=[.int i,.int j]/\(-(2^62)<=i/\i<2^62/\-(2^62)<=j/\j<2^62)/\R (y8 i (j-i).toNat) H1
def uN{a:Expr}{ta:TA}{p pos:Pos}(hg:Gl X "range")(hm:X.mg "range"=none)(ha:PA X [a] ta)(hs:autoParam (starEach [a] X.env=[(false,eval a X.env)]) ℜ0):PI X tg (.Call (.Name "range" p) [a] [] pos) (mQ ta):=by
 intro pins s σ H R I h;refine Call_ (eF I hg hm boot_range (Lw (bH (ha pos pins s σ H _ I h) λus s1 hq31=>?_) hs rfl));obtain⟨vs,H1,I1,r1,q1⟩:=hq31;obtain⟨j,e,q1,q2,q⟩:=q1;subst e
 cases r1 with
 |cons r rr =>
  cases rr;obtain⟨t,rfl⟩:=r;exact call_range_1 (pV I1 (by lia) (by lia) q1 q2 (by simpa using q))
def uS{a b:Expr}{ta:TA}{p pos:Pos}(hg:Gl X "range")(hm:X.mg "range"=none)(ha:PA X [a,b] ta)(hs:autoParam (starEach [a,b] X.env=[(false,eval a X.env),(false,eval b X.env)]) ℜ0)(hs2:autoParam (starEach [b] X.env=[(false,eval b X.env)]) ℜ0):
  PI X tg (.Call (.Name "range" p) [a,b] [] pos) (ma ta):=by
 intro pins s σ H R I h;refine Call_ (eF I hg hm boot_range (Lw (bH (ha pos pins s σ H _ I h) λus s1 hq32=>?_) (by rw[hs,hs2]) (by rw[hs2];rfl)))
 obtain⟨vs,H1,I1,r1,q1⟩:=hq32;obtain⟨i,j,e,⟨q1,q2,q3,q4⟩,q⟩:=q1;subst e
 cases r1 with
 |cons r rr =>
  cases rr with
  |cons r' rr =>
   cases rr;obtain⟨t,rfl⟩:=r;obtain⟨t',rfl⟩:=r';exact call_range_2 (pV I1 q1 q2 q3 q4 q)
def DU(wi:TI)(g:TG)(tb:TS):TS:=λD σ H=>wi σ H λJ H1=>∃W:Nat->Nat->St->Hp->Prop,(∃m,W 0 m σ H1)/\∀i m σ H,W i m σ H ->
 (J.stop i H/\D.nx σ H)\/(J.go i H/\∃N:St->Hp->Prop,(∀σ' H',N σ' H'->∃m',m'<m/\W (i+1) m' σ' H')/\∀x H',J.CD i H x H'->g x σ H' λσ2 H2=>tb {D with nx:=N,ct:=N,bk:=D.nx} σ2 H2)
def iO(fp:List Addr)(h:Heap):List (Addr×Obj):=fp.filterMap λb=>(h.get? b).map λo=>(b,o)
def dH{o:Obj}(hb:b∈fp)(e:h.get? b=some o):(b,o)∈iO fp h:=Nx.mpr ⟨b,hb,by rw[e];rfl⟩
def vQ{p:Addr×Obj}(hp:p∈iO fp h):p.1∈fp/\h.get? p.1=some p.2:=by
 obtain⟨b,hb,e⟩:=Nx.mp hp
 cases q:h.get? b with
 |none=>rw[q] at e;cases e
 |some o =>
  rw[q] at e;have e':(b,o)=p:=Option.some.inj e;subst e';exact⟨hb,q⟩
def Inv.pinned{s:Shared}(I:Inv X pins σ H s)(hf:∀b∈fp,ko X pins H b)(ho:∀b∈fp,∃o,s.heap.get? b=some o/\∀v,o.data≠.cell v):Inv X (pins++iO fp s.heap) σ H s:=
 I.nJ λp hp=>(Ld.mp hp).elim (λz=>I.pin p (KG _ z)) λz=>by
  obtain⟨hb,e⟩:=vQ z;obtain⟨f0,f1,f2,_⟩:=hf p.1 hb;obtain⟨o,e',d⟩:=ho p.1 hb;rw[e] at e';cases e';exact⟨e,f0,f1,f2,d⟩
def Inv.fH{pl:List (Addr×Obj)}{s:Shared}(I:Inv X (pins++pl) σ H s):Inv X pins σ H s:=I.nJ λp hp=>I.pin p (KG _ (LD _ hp))
def Ef{iter:Expr}{wi:TI}{g:TG}{pos:Pos}(hp:PassesOwn (model X.prog X.w) X.A X.env X.xe)(hc:X.calm=true)(hi:PI X tg iter wi)(hg:PG X tg g)(hb:rE X body tb)
  (hs:autoParam (∀x,foldedSetIterable iter X.env x=pure x) ℜ3):PS X (.For tg iter body [] pos) (DU wi g tb):=by
 intro pins s σ H D I h;refine wpAny_For (bH (hi pins s σ H _ I h) λv s1 h1=>bH h1 λitv s2 h2=>?_) hs;obtain⟨it,fp,tn,J,H2,e,I2,T,st2,f2,W,⟨m0,w0⟩,turn⟩:=h2;subst e;have stat:∀{H':Hp},(∀b∈fp,H' b=none)->∀b∈fp,ko X pins H' b:=λhn b hb=>⟨hn b hb,(f2 b hb).2⟩;refine codeAny_forLoop_any (λn s'=>∃i σ' H',Inv X pins σ' H' s'/\tn i s'.heap/\(∀b∈fp,H' b=none)/\W i n σ' H') ?_ m0 ⟨0,σ,H2,I2,st2,λb hb=>(f2 b hb).1,w0⟩;rintro n s3 ⟨i,σ3,H3,I3,st3,fr3,w3⟩;rcases turn i n σ3 H3 w3 with ⟨stop,qn⟩|⟨go,N,hN,step⟩
 ·refine Ms hp (bH (T.done X rfl rfl rfl hc i pins s3 σ3 H3 X.xe I3 (stat fr3) st3 stop) λr s4 hq33=>?_);obtain⟨hr,I4⟩:=hq33;subst hr;exact NK ⟨σ3,H3,I4,qn⟩
 ·refine Ms hp (bH (T.item X rfl rfl rfl hc i pins s3 σ3 H3 X.xe I3 (stat fr3) st3 go) λr s4 hq34=>?_);obtain⟨u,hr,h4⟩:=hq34;subst hr;refine Ms hp (bH h4 λ_ s5 hq35=>?_);obtain⟨x,H5,I5,r5,y5,st5,fr5⟩:=hq35;have I5':=I5.pinned (stat fr5) (T.obj _ _ st5);refine Ms hp (bH (hg _ s5 σ3 H5 x u _ I5' r5 (step x H5 y5)) λ_ s6 hq36=>?_);obtain⟨σ6,H6,I6,q6⟩:=hq36;refine Ms hp (bH (hb _ s6 σ6 H6 _ I6 q6) λf s7 q7=>?_);have again:∀{σ7:St} {H7:Hp},Inv X (pins++iO fp s5.heap) σ7 H7 s7->N σ7 H7->∃m,m<n/\∃i σ' H',Inv X pins σ' H' s7/\tn i s7.heap/\(∀b∈fp,H' b=none)/\W i m σ' H':=λ{σ7 H7} I7 n7=>by
   obtain⟨m',hm,w7⟩:=hN σ7 H7 n7;refine⟨m',hm,i+1,σ7,H7,I7.fH,T.keep _ _ _ st5 λb hb o e=>(I7.pin (b,o) (KG _ (KG _ (dH hb e)))).1,λb hb=>?_,w7⟩;obtain⟨o,e,d⟩:=T.obj _ _ st5 b hb;exact (I7.pin (b,o) (KG _ (KG _ (dH hb e)))).2.1
  cases f with
  |next=>obtain⟨σ7,H7,I7,n7⟩:=q7;exact again I7 n7
  |cont=>obtain⟨σ7,H7,I7,n7⟩:=q7;exact again I7 n7
  |brk=>obtain⟨σ7,H7,I7,q7⟩:=q7;exact⟨σ7,H7,I7.fH,q7⟩
  |ret v=>obtain⟨x7,σ7,H7,I7,r7,q7⟩:=q7;exact⟨x7,σ7,H7,I7.fH,r7,q7⟩
end
def yF{K:PySem.W.Frag}{g:TG}(Pv:Nat->St->Hp->Prop)(h0:Pv 0 σ H)(hl:∀i σ H,i<=xs.length->Pv i σ H->a_ K H a xs)
  (hs:∀i x σ H,xs[i]?=some x->Pv i σ H->g x σ H λσ2 H2=>tb {D with nx:=Pv (i+1),ct:=Pv (i+1),bk:=D.nx} σ2 H2) (hd:∀σ H,Pv xs.length σ H->D.nx σ H) :
  ∃W:Nat->Nat->St->Hp->Prop,(∃m,W 0 m σ H)/\∀i m σ H,W i m σ H ->
   ((Ab K a).stop i H/\D.nx σ H)\/((Ab K a).go i H/\∃N:St->Hp->Prop,(∀σ' H',N σ' H'->∃m',m'<m/\W (i+1) m' σ' H')/\∀x H',(Ab K a).CD i H x H'->g x σ H' λσ2 H2=>tb {D with nx:=N,ct:=N,bk:=D.nx} σ2 H2):=by
 refine⟨λi m σ H=>m=xs.length-i/\i<=xs.length/\Pv i σ H,⟨xs.length,by simp,K4 _,h0⟩,?_⟩
 rintro i m σ H ⟨rfl,hi,p⟩;have q:=hl i σ H hi p;by_cases hlt:i<xs.length
 ·refine .inr ⟨⟨xs,xs[i],q,by simp[hlt]⟩,Pv (i+1),λσ' H' p'=>⟨xs.length-(i+1),by lia,rfl,hlt,p'⟩,λx H' y=>?_⟩
  obtain⟨e,y⟩:=y;subst e;exact hs i x σ _ (y xs q) p
 ·have e:i=xs.length:=by lia
  subst e;exact .inl ⟨⟨xs,q,Kp _⟩,hd σ H p⟩
def AV{K:PySem.W.Frag}{g:TG}(Pv:Nat->St->Hp->Prop)(h0:Pv 0 σ H)(hl:∀i σ H,i<=xs.length->Pv i σ H->bu K H a xs)
  (hs:∀i x σ H,xs[i]?=some x->Pv i σ H->g x σ H λσ2 H2=>tb {D with nx:=Pv (i+1),ct:=Pv (i+1),bk:=D.nx} σ2 H2) (hd:∀σ H,Pv xs.length σ H->D.nx σ H) :
  ∃W:Nat->Nat->St->Hp->Prop,(∃m,W 0 m σ H)/\∀i m σ H,W i m σ H ->
   ((uT K a).stop i H/\D.nx σ H)\/((uT K a).go i H/\∃N:St->Hp->Prop,(∀σ' H',N σ' H'->∃m',m'<m/\W (i+1) m' σ' H')/\∀x H',(uT K a).CD i H x H'->g x σ H' λσ2 H2=>tb {D with nx:=N,ct:=N,bk:=D.nx} σ2 H2):=by
 refine⟨λi m σ H=>m=xs.length-i/\i<=xs.length/\Pv i σ H,⟨xs.length,by simp,K4 _,h0⟩,?_⟩
 rintro i m σ H ⟨rfl,hi,p⟩;have q:=hl i σ H hi p;by_cases hlt:i<xs.length
 ·refine .inr ⟨⟨xs,xs[i],q,by simp[hlt]⟩,Pv (i+1),λσ' H' p'=>⟨xs.length-(i+1),by lia,rfl,hlt,p'⟩,λx H' y=>?_⟩
  obtain⟨e,y⟩:=y;subst e;exact hs i x σ _ (y xs q) p
 ·have e:i=xs.length:=by lia
  subst e;exact .inl ⟨⟨xs,q,Kp _⟩,hd σ H p⟩
def u6{lo:Int}{n:Nat}{g:TG}(Pv:Nat->St->Hp->Prop)(h0:Pv 0 σ H)
  (hs:∀i σ H,i<n->Pv i σ H->g (.int (lo+i)) σ H λσ2 H2=>tb {D with nx:=Pv (i+1),ct:=Pv (i+1),bk:=D.nx} σ2 H2) (hd:∀σ H,Pv n σ H->D.nx σ H) :
  ∃W:Nat->Nat->St->Hp->Prop,(∃m,W 0 m σ H)/\∀i m σ H,W i m σ H ->
   ((y8 lo n).stop i H/\D.nx σ H)\/((y8 lo n).go i H/\∃N:St->Hp->Prop,(∀σ' H',N σ' H'->∃m',m'<m/\W (i+1) m' σ' H')/\∀x H',(y8 lo n).CD i H x H'->g x σ H' λσ2 H2=>tb {D with nx:=N,ct:=N,bk:=D.nx} σ2 H2):=by
 refine⟨λi m σ H=>m=n-i/\i<=n/\Pv i σ H,⟨n,by simp,K4 _,h0⟩,?_⟩
 rintro i m σ H ⟨rfl,hi,p⟩;by_cases hlt:i<n
 ·refine .inr ⟨hlt,Pv (i+1),λσ' H' p'=>⟨n-(i+1),by lia,rfl,hlt,p'⟩,λx H' y=>?_⟩
  obtain⟨e,y⟩:=y;subst e y;exact hs i σ _ hlt p
 ·have e:i=n:=by lia
  subst e;exact .inl ⟨Kp _,hd σ H p⟩
abbrev R2:=V->V->Hp->VK->Prop
variable{r:R2}
def cI(X:Cx)(f:Value->Value->Sem Value)(r:R2):Prop:=
 ∀(pins:List (Addr×Obj)) (s:Shared) (σ:St) (H:Hp) (x y:V) (v u:Value) (Q:VK),Inv X pins σ H s->RelV x v->RelV y u->r x y H Q ->
  wpAny (model X.prog X.w) X.A (f v u) (EP X pins σ Q) X.xe s
def Ip(X:Cx)(f:Value->Sem Value)(r:V->Hp->VK->Prop):Prop:=
 ∀(pins:List (Addr×Obj)) (s:Shared) (σ:St) (H:Hp) (x:V) (v:Value) (Q:VK),Inv X pins σ H s->RelV x v->r x H Q ->
  wpAny (model X.prog X.w) X.A (f v) (EP X pins σ Q) X.xe s
def aX(X:Cx)(f:Value)(r:List V->Hp->VK->Prop):Prop:=
 ∀(pins:List (Addr×Obj)) (s:Shared) (σ:St) (H:Hp) (xs:List V) (us:List Value) (Q:VK),Inv X pins σ H s->Vals xs us->r xs H Q ->
  wpAny (model X.prog X.w) X.A (call f us) (EP X pins σ Q) X.xe s
def J6(X:Cx)(r:V->Hp->(Bool->Hp->Prop)->Prop):Prop:=
 ∀(pins:List (Addr×Obj)) (s:Shared) (σ:St) (H:Hp) (x:V) (v:Value) (Q:Bool->Hp->Prop),Inv X pins σ H s->RelV x v->r x H Q ->
  wpAny (model X.prog X.w) X.A (truthy v) (TP X pins σ Q) X.xe s
def x9(r:R2)(ta tb:TE):TE:=λσ H Q=>ta σ H λx H1=>tb σ H1 λy H2=>r x y H2 Q
def Hj(r:V->Hp->VK->Prop)(ta:TE):TE:=λσ H Q=>ta σ H λx H1=>r x H1 Q
def rI(C:Int->Int->Prop)(g:Int->Int->V):R2:=λx y H Q=>∃i j,x=.int i/\y=.int j/\C i j/\Q (g i j) H
def yU(g:Int->Int->V):R2:=λx y H Q=>∃i j,x=.int i/\y=.int j/\Q (g i j) H
def rU(g:Int->V):V->Hp->VK->Prop:=λx H Q=>∃i,x=.int i/\Q (g i) H
section
variable {X:Cx} {a b c:Expr} {ta tb tc:TE} {pos:Pos}
def DL(ha:PE X a ta)(hb:PE X b tb){s:Shared}{R:V->V->Hp->Prop}(I:Inv X pins σ H s)
  (h:ta σ H λx H1=>tb σ H1 λy H2=>R x y H2)  
  (hf:∀v u s2 x y H2,Inv X pins σ H2 s2->RelV x v->RelV y u->R x y H2->wpAny (model X.prog X.w) X.A (f v u) Q X.xe s2) :
  wpAny (model X.prog X.w) X.A (eval a X.env) (λv s₁=>wpAny (model X.prog X.w) X.A (eval b X.env) (λu s₂=>wpAny (model X.prog X.w) X.A (f v u) Q X.xe s₂) X.xe s₁) X.xe s:=by
 refine bH (ha pins s σ H _ I h) λv s1 hq37=>?_;obtain⟨x,H1,I1,r1,q1⟩:=hq37;refine bH (hb pins s1 σ H1 _ I1 q1) λu s2 hq38=>?_;obtain⟨y,H2,I2,r2,q2⟩:=hq38;exact hf v u s2 x y H2 I2 r1 r2 q2
def GY{op:Operator}(ho:cI X (binaryOp op) r)(ha:PE X a ta)(hb:PE X b tb):PE X (.BinOp a op b pos) (x9 r ta tb):=by
 intro pins s σ H Q I h;exact wpAny_BinOp (DL ha hb I h λv u s2 x y H2 I2 rx ry q=>ho pins s2 σ H2 x y v u Q I2 rx ry q)
def GF{op:UnaryOp}{r:V->Hp->VK->Prop}(ho:Ip X (unaryOp op) r)(ha:PE X a ta):PE X (.UnaryOp op a pos) (Hj r ta):=by
 intro pins s σ H Q I h;exact UnaryOp_ (bH (ha pins s σ H _ I h) λv s1 ⟨x,H1,I1,r1,q1⟩=>ho pins s1 σ H1 x v Q I1 r1 q1)
def He{C:Int->Int->Prop}
  (rule:∀(i j:Int) (t u:Tok) (s:Shared) (Q:Value->Shared->Prop) (E:Value->Shared->Prop),C i j->Q (.int (g i j) s.toks) {s with toks:=s.toks+1}->wpAny (model X.prog X.w) X.A (f (.int i t) (.int j u)) Q E s) :
  cI X f (rI C λi j=>.int (g i j)):=by
 intro pins s σ H x y v u Q I rx ry h;obtain⟨i,j,rfl,rfl,hc,q⟩:=h;obtain⟨t,rfl⟩:=rx;obtain⟨t',rfl⟩:=ry;exact rule i j t t' s _ _ hc ⟨.int (g i j),H,I.tok _,⟨_,rfl⟩,q⟩
def Gi
  (rule:∀(i j:Int) (t u:Tok) (s:Shared) (Q:Value->Shared->Prop) (E:Value->Shared->Prop),Q (.int (g i j) s.toks) {s with toks:=s.toks+1}->wpAny (model X.prog X.w) X.A (f (.int i t) (.int j u)) Q E s) :
  cI X f (yU λi j=>.int (g i j)):=by
 intro pins s σ H x y v u Q I rx ry h;obtain⟨i,j,rfl,rfl,q⟩:=h;obtain⟨t,rfl⟩:=rx;obtain⟨t',rfl⟩:=ry;exact rule i j t t' s _ _ ⟨.int (g i j),H,I.tok _,⟨_,rfl⟩,q⟩
def B2{g:Int->Int->Bool}
  (rule:∀(i j:Int) (t u:Tok) (s:Shared) (Q:Value->Shared->Prop) (E:Value->Shared->Prop),Q (.bool (g i j)) s->wpAny (model X.prog X.w) X.A (f (.int i t) (.int j u)) Q E s) :
  cI X f (yU λi j=>.bl (g i j)):=by
 intro pins s σ H x y v u Q I rx ry h;obtain⟨i,j,rfl,rfl,q⟩:=h;obtain⟨t,rfl⟩:=rx;obtain⟨t',rfl⟩:=ry;exact rule i j t t' s _ _ ⟨.bl (g i j),H,I,rfl,q⟩
def Jl(i j:Int):Prop:=0<j/\j<1073741824
def Gm(i j:Int):Prop:=0<=j/\j<=1000000/\i.natAbs<2^64
def yj(i j:Int):Prop:=(-(2^64)<i/\i<2^64)\/(-(2^64)<j/\j<2^64)
def yj.ok{i j:Int}(h:yj i j):IntMulOk i j:=by
 rcases h with ⟨h1,h2⟩|⟨h1,h2⟩
 ·exact .of_left (intBits_le_64 h1 h2)
 ·exact .of_right (intBits_le_64 h1 h2)
def DF:cI X (binaryOp .Add) (yU λi j=>.int (i+j)):=Gi λ_ _ _ _ _ _ _ q=>add_int q
def cX:cI X (binaryOp .Sub) (yU λi j=>.int (i-j)):=Gi λ_ _ _ _ _ _ _ q=>sub_int q
def DC:cI X (binaryOp .Mult) (rI yj λi j=>.int (i*j)):=He λ_ _ _ _ _ _ _ hc q=>mul_int q hc.ok
def nQ:cI X (binaryOp .FloorDiv) (rI Jl λi j=>.int (i / j)):=He λi j _ _ _ _ _ hc q=>by
 have h1:(0:Int)<j:=hc.1;have h2:j<1073741824:=hc.2;exact floordiv_int (by lia) (by rw[Int.fdiv_eq_ediv_of_nonneg i (by lia)];exact q) (.inl (PyProof.noPylong_small (by lia)))
def dM:cI X (binaryOp .Mod) (rI (λ_ j=>0<j) λi j=>.int (i % j)):=He λi j _ _ _ _ _ hc q=>by
 have h1:(0:Int)<j:=hc;exact mod_int' (by lia) (by rw[Int.fmod_eq_emod_of_nonneg i (by lia)];exact q)
def DE:cI X (binaryOp .Pow) (rI Gm λi j=>.int (i^j.toNat)):=He λ_ _ _ _ _ _ _ hc q=>pow_int_small hc.1 hc.2.1 hc.2.2 q
def En:cI X (binaryOp .LShift) (rI Gm λi j=>.int (i*2^j.toNat)):=He λ_ _ _ _ _ _ _ hc q=>lshift_int_small hc.1 hc.2.1 hc.2.2 q
def JV{f:Value->Sem Value}{g:Int->Int}
  (rule:∀(i:Int) (t:Tok) (s:Shared) (Q:Value->Shared->Prop) (E:Value->Shared->Prop),Q (.int (g i) s.toks) {s with toks:=s.toks+1}->wpAny (model X.prog X.w) X.A (f (.int i t)) Q E s) :
  Ip X f (rU λi=>.int (g i)):=by
 intro pins s σ H x v Q I rx h;obtain⟨i,rfl,q⟩:=h;obtain⟨t,rfl⟩:=rx;exact rule i t s _ _ ⟨.int (g i),H,I.tok _,⟨_,rfl⟩,q⟩
def cy:Ip X (unaryOp .USub) (rU λi=>.int (-i)):=JV λ_ _ _ _ _ q=>neg_int q
end
def Hz:V->V->Bool
 |.aI,.aI=>true|.aI,.int _=>true|.int _,.aI=>true|.aI,.bl _=>true|.bl _,.aI=>true|.aI,.str _=>true|.str _,.aI=>true
 |.int _,.int _=>true|.bl _,.bl _=>true|.str _,.str _=>true|.qW _,.qW _=>true
 |.int _,.str _=>true|.str _,.int _=>true|.bl _,.str _=>true|.str _,.bl _=>true
 |_,_=>false
def FY:R2:=λx y H Q=>Hz x y=true/\Q (.bl (decide (x=y))) H
def Fp:R2:=λx y H Q=>Hz x y=true/\Q (.bl (!decide (x=y))) H
def uu{i j:Int}:decide (V.int i=V.int j)=(i == j):=by
 rw[MH];simp
def zi{i j:Bool}:decide (V.bl i=V.bl j)=(i == j):=by
 rw[MH];simp
def tR{i j:Str}:decide (V.str i=V.str j)=(i == j):=by
 rw[MH];simp
def tS{i j:Array UInt8}:decide (V.qW i=V.qW j)=(i.toList == j.toList):=by
 rw[MH];cases i;cases j;simp
section
variable {X:Cx} {a b c:Expr} {ta tb tc:TE} {pos:Pos}
def aQ{s:Shared}{Q:VK}{k k':Bool}(I:Inv X pins σ H s)(q:Q (.bl k) H)(e:k=k'):EP X pins σ Q (.bool k') s:=by
 subst e;exact⟨.bl k,H,I,rfl,q⟩
def Gx:cI X (compareOp .Eq) FY:=by
 intro pins s σ H x y v u Q I rx ry h;obtain⟨hs,q⟩:=h
 cases x with
 |aI =>
  cases rx
  cases y with
  |aI=>cases ry;exact PySem.EqNone.eq_none_none (aQ I q (by simp))
  |bl j=>cases ry;exact PySem.EqNone.eq_none_bool (aQ I q (by simp))
  |int j=>obtain⟨t',rfl⟩:=ry;exact PySem.EqNone.eq_none_int (aQ I q (by simp))
  |str j=>obtain⟨t',rfl⟩:=ry;exact PySem.EqNone.eq_none_str (aQ I q (by simp))
  |_=>exact absurd (show false=true from hs) Ky
 |bl i =>
  cases rx
  cases y with
  |aI=>cases ry;exact PySem.EqNone.eq_bool_none (aQ I q (by simp))
  |bl j=>cases ry;exact eq_bool (aQ I q zi)
  |str j=>obtain⟨t',rfl⟩:=ry;exact PySem.EqMixed.eq_bool_str (aQ I q (by simp))
  |_=>exact absurd (show false=true from hs) Ky
 |int i =>
  obtain⟨t,rfl⟩:=rx
  cases y with
  |aI=>cases ry;exact PySem.EqNone.eq_int_none (aQ I q (by simp))
  |int j=>obtain⟨t',rfl⟩:=ry;exact eq_int (aQ I q uu)
  |str j=>obtain⟨t',rfl⟩:=ry;exact PySem.EqMixed.eq_int_str (aQ I q (by simp))
  |_=>exact absurd (show false=true from hs) Ky
 |str i =>
  obtain⟨t,rfl⟩:=rx
  cases y with
  |aI=>cases ry;exact PySem.EqNone.eq_str_none (aQ I q (by simp))
  |bl j=>cases ry;exact PySem.EqMixed.eq_str_bool (aQ I q (by simp))
  |int j=>obtain⟨t',rfl⟩:=ry;exact PySem.EqMixed.eq_str_int (aQ I q (by simp))
  |str j=>obtain⟨t',rfl⟩:=ry;exact eq_str (aQ I q tR)
  |_=>exact absurd (show false=true from hs) Ky
 |qW i =>
  obtain⟨t,rfl⟩:=rx
  cases y with
  |qW j=>obtain⟨t',rfl⟩:=ry;exact W.eq_bytes (aQ I q tS)
  |_=>exact absurd (show false=true from hs) Ky
 |_=>cases y<;>exact absurd (show false=true from hs) Ky
def CI:cI X (compareOp .NotEq) Fp:=by
 intro pins s σ H x y v u Q I rx ry h;obtain⟨hs,q⟩:=h
 cases x with
 |aI =>
  cases rx
  cases y with
  |aI=>cases ry;exact PySem.EqNone.ne_none_none (aQ I q (by simp))
  |bl j=>cases ry;exact PySem.EqNone.ne_none_bool (aQ I q (by simp))
  |int j=>obtain⟨t',rfl⟩:=ry;exact PySem.EqNone.ne_none_int (aQ I q (by simp))
  |str j=>obtain⟨t',rfl⟩:=ry;exact PySem.EqNone.ne_none_str (aQ I q (by simp))
  |_=>exact absurd (show false=true from hs) Ky
 |bl i =>
  cases rx
  cases y with
  |aI=>cases ry;exact PySem.EqNone.ne_bool_none (aQ I q (by simp))
  |bl j=>cases ry;exact ne_bool (aQ I q (Lg not zi))
  |str j=>obtain⟨t',rfl⟩:=ry;exact PySem.EqMixed.ne_bool_str (aQ I q (by simp))
  |_=>exact absurd (show false=true from hs) Ky
 |int i =>
  obtain⟨t,rfl⟩:=rx
  cases y with
  |aI=>cases ry;exact PySem.EqNone.ne_int_none (aQ I q (by simp))
  |int j=>obtain⟨t',rfl⟩:=ry;exact ne_int (aQ I q (Lg not uu))
  |str j=>obtain⟨t',rfl⟩:=ry;exact PySem.EqMixed.ne_int_str (aQ I q (by simp))
  |_=>exact absurd (show false=true from hs) Ky
 |str i =>
  obtain⟨t,rfl⟩:=rx
  cases y with
  |aI=>cases ry;exact PySem.EqNone.ne_str_none (aQ I q (by simp))
  |bl j=>cases ry;exact PySem.EqMixed.ne_str_bool (aQ I q (by simp))
  |int j=>obtain⟨t',rfl⟩:=ry;exact PySem.EqMixed.ne_str_int (aQ I q (by simp))
  |str j=>obtain⟨t',rfl⟩:=ry;exact ne_str (aQ I q (Lg not tR))
  |_=>exact absurd (show false=true from hs) Ky
 |qW i =>
  obtain⟨t,rfl⟩:=rx
  cases y with
  |qW j=>obtain⟨t',rfl⟩:=ry;exact W.ne_bytes (aQ I q (Lg not tS))
  |_=>exact absurd (show false=true from hs) Ky
 |_=>cases y<;>exact absurd (show false=true from hs) Ky
def iE:cI X (compareOp .Lt) (yU λi j=>.bl (decide (i<j))):=B2 λ_ _ _ _ _ _ _ q=>lt_int q
def GO:cI X (compareOp .LtE) (yU λi j=>.bl (decide (i<=j))):=B2 λ_ _ _ _ _ _ _ q=>le_int q
def CT:cI X (compareOp .Gt) (yU λi j=>.bl (decide (j<i))):=B2 λ_ _ _ _ _ _ _ q=>gt_int q
def yW:cI X (compareOp .GtE) (yU λi j=>.bl (decide (j<=i))):=B2 λ_ _ _ _ _ _ _ q=>ge_int q
def vV:cI X (compareOp .In) (λx y H Q=>∃i j,x=.str i/\y=.str j/\Q (.bl (!(Builtin.Str.occurrences j i 0 j.length 1).isEmpty)) H):=by
 intro pins s σ H x y v u Q I rx ry h;obtain⟨i,j,rfl,rfl,q⟩:=h;obtain⟨t,rfl⟩:=rx;obtain⟨t',rfl⟩:=ry;exact in_str (aQ I q rfl)
def bY:cI X (compareOp .Is) (λx y H Q=>y=.aI/\Q (.bl (decide (x=.aI))) H):=by
 intro pins s σ H x y v u Q I rx ry h;obtain⟨rfl,q⟩:=h;cases ry;refine is_none_gen (aQ I q ?_)
 cases x<;>first
  | (cases rx;rfl)
  | (obtain⟨t,rfl⟩:=rx;rfl)
def nk:cI X (compareOp .IsNot) (λx y H Q=>y=.aI/\Q (.bl (!decide (x=.aI))) H):=by
 intro pins s σ H x y v u Q I rx ry h;obtain⟨rfl,q⟩:=h;cases ry;refine isnot_none_gen (aQ I q ?_)
 cases x<;>first
  | (cases rx;rfl)
  | (obtain⟨t,rfl⟩:=rx;rfl)
def cI.or{r':R2}(h:cI X f r)(h':cI X f r'):cI X f (λx y H Q=>r x y H Q\/r' x y H Q):=by
 intro pins s σ H x y v u Q I rx ry q;rcases q with q|q
 ·exact h pins s σ H x y v u Q I rx ry q
 ·exact h' pins s σ H x y v u Q I rx ry q
def Cv{op:CmpOp}(ho:cI X (compareOp op) r)(ha:PE X a ta)(hb:PE X b tb)(hm:behindInMarks op b=false):PE X (.Compare a [op] [b] pos) (x9 r ta tb):=by
 intro pins s σ H Q I h;exact wpAny_Compare1 (DL ha hb I h λv u s2 x y H2 I2 rx ry q=>ho pins s2 σ H2 x y v u Q I2 rx ry q) hm
def kA(t:TE):TT:=λσ H Q=>t σ H λx H'=>∃k,x=.bl k/\Q k H'
def A9{op:CmpOp}(ho:cI X (compareOp op) r)(ha:PE X a ta)(hb:PE X b tb)(hm:behindInMarks op b=false):PT X (.Compare a [op] [b] pos) (kA (x9 r ta tb)):=by
 intro pins s σ H Q I h;refine wpAny_isTrue_Compare1 (bH (ha pins s σ H _ I h) λv s1 ⟨x,H1,I1,r1,q1⟩=>bH (hb pins s1 σ H1 _ I1 q1) λu s2 ⟨y,H2,I2,r2,q2⟩=>
  bH (ho pins s2 σ H2 x y v u _ I2 r1 r2 q2) λc s3 ⟨z,H3,I3,r3,k,e,q3⟩=>?_) hm
 subst e;cases r3;exact Mx ⟨H3,I3,q3⟩
def jR(r r':R2)(ta tb tc:TE):TE:=λσ H Q=>ta σ H λx H1=>tb σ H1 λy H2=>r x y H2 λz H3=>∃k,z=.bl k /\
 (if k=true then tc σ H3 λw' H4=>r' y w' H4 Q else Q (.bl false) H3)
def xb{op op':CmpOp}{r':R2}(ho:cI X (compareOp op) r)(ho':cI X (compareOp op') r')(ha:PE X a ta)(hb:PE X b tb)(hc:PE X c tc)
  (hm:autoParam (lastMarks [op,op'] [b,c]=false) ℜ5):PT X (.Compare a [op,op'] [b,c] pos) (kA (jR r r' ta tb tc)):=by
 intro pins s σ H Q I h;refine isTrue_chain (bH (ha pins s σ H _ I h) λv s1 ⟨x,H1,I1,r1,q1⟩=>test_link (bH (hb pins s1 σ H1 _ I1 q1) λu s2 ⟨y,H2,I2,r2,q2⟩=>
  bH (ho pins s2 σ H2 x y v u _ I2 r1 r2 q2) λd s3 ⟨z,H3,I3,r3,k,e,q3⟩=>?_)) hm
 subst e;cases r3;refine Mx ?_
 cases k with
 |false =>
  obtain⟨k',e',q'⟩:=q3;cases e';exact ite_ff ⟨H3,I3,q'⟩
 |true =>
  refine ite_tt (test_last (bH (hc pins s3 σ H3 _ I3 q3) λw' s4 ⟨z',H4,I4,r4,q4⟩=>bH (ho' pins s4 σ H4 y z' u w' _ I4 r2 r4 q4) λd' s5 hq39=>?_));obtain⟨z2,H5,I5,r5,k2,e2,q5⟩:=hq39;subst e2;cases r5;exact Mx ⟨H5,I5,q5⟩
def xX(K:W.Frag)(x:V)(H:Hp)(k:Bool):Prop:=
 match x with
 |.aI=>k=false
 |.bl b=>k=b
 |.int i=>k=(i != 0)
 |.str y=>y.length<=sizeLine/\k=((y.length:Int) != 0)
 |.qW y=>y.size<=sizeLine/\k=((y.size:Int) != 0)
 |.ref p=>(∃xs,a_ K H p xs/\k=!xs.isEmpty)\/(∃xs,bu K H p xs/\k=!xs.isEmpty)\/∃kvs,H p=some (.dK kvs)/\k=!kvs.isEmpty
 |_=>False
def rf{κ:Type}{kvs:List (κ×V)}{vs:List (κ×Value)}(r:KV kvs vs):(!vs.isEmpty)=!kvs.isEmpty:=by
 cases r<;>rfl
def k_{its:List Value}(r:Vals xs its):(!its.toArray.isEmpty)=!xs.isEmpty:=by
 cases r<;>simp
def jd:(sizeLine:Nat)<2^63:=by rw[L7];decide
def EC:J6 X (λx H Q=>∃k,xX X.K x H k/\Q k H):=by
 intro pins s σ H x v Q I rx h;obtain⟨k,e,q⟩:=h;have hl:=jd;have hs:sizeLine=16777216:=L7
 cases x with
 |aI =>
  cases rx;have e':k=false:=e;subst e';exact truthy_none ⟨H,I,q⟩
 |bl b =>
  cases rx;have e':k=b:=e;subst e';exact Mx ⟨H,I,q⟩
 |int i =>
  obtain⟨t,rfl⟩:=rx;have e':k=(i != 0):=e;subst e';exact PySem.P.truthy_int ⟨H,I,q⟩
 |str y =>
  obtain⟨t,rfl⟩:=rx;obtain⟨hy,e'⟩:y.length<=sizeLine/\k=((y.length:Int) != 0):=e;subst e';exact PySem.P.truthy_str (by lia) ⟨H,I.tok _,q⟩
 |qW y =>
  obtain⟨t,rfl⟩:=rx;obtain⟨hy,e'⟩:y.size<=sizeLine/\k=((y.size:Int) != 0):=e;subst e';exact W.truthy_bytes (by lia) ⟨H,I.tok _,q⟩
 |ref p =>
  cases rx;have e':(∃xs,a_ X.K H p xs/\k=!xs.isEmpty)\/(∃xs,bu X.K H p xs/\k=!xs.isEmpty)\/∃kvs,H p=some (.dK kvs)/\k=!kvs.isEmpty:=e;rcases e' with ⟨xs,hx,e'⟩|⟨xs,hx,e'⟩|⟨kvs,hx,e'⟩
  ·subst e';obtain⟨its,r,pl,hz⟩:=I.list hx;have hlen:=r.length;exact wpAny_truthy_list pl.isList (by simp only[Kq];lia) ⟨H,I.tok _,by rw[k_ r];exact q⟩
  ·subst e';obtain⟨its,r,pl,hz⟩:=I.tuple hx;have hlen:=r.length;exact truthy_tuple pl (by simp only[Kq];lia) ⟨H,I.tok _,by rw[k_ r];exact q⟩
  ·subst e';obtain⟨hz,hS,vs,r,m⟩:kvs.length<=sizeLine/\(p == sysModules)=false/\∃vs,KV kvs vs/\s.heap.DictOf (bQ X.prog X.w) p vs:=I.aL p _ hx;have hlen:kvs.length=vs.length:=Paired.length r;exact wpAny_truthy_dict hS m (by lia) ⟨H,I.tok _,by rw[rf r];exact q⟩
 |_=>exact (show False from e).elim
def wM(ha:PE X a ta)(he:∀whole,isTrue a X.env whole=(do let v <- whole;standAt a.pos;holding [v] (truthy v))):
  PT X a (λσ H Q=>ta σ H λx H'=>∃k,xX X.K x H' k/\Q k H'):=by
 intro pins s σ H Q I h;exact isTrue_plain (bH (ha pins s σ H _ I h) λv s1 ⟨x,H1,I1,r1,q1⟩=>EC pins s1 σ H1 x v Q I1 r1 q1) (he _)
def qV:cI X (binaryOp .Add) (λx y H Q=>∃i j,x=.str i/\y=.str j/\i.length+j.length<=sizeLine/\Q (.str (i++j)) H):=by
 intro pins s σ H x y v u Q I rx ry h;obtain⟨i,j,rfl,rfl,hz,q⟩:=h;obtain⟨t,rfl⟩:=rx;obtain⟨t',rfl⟩:=ry;exact add_str (λt' tk=>⟨.str (i++j),H,I.tok _,⟨_,rfl⟩,q⟩) hz
def vals1{x:V}(r:Vals [x] us):∃u,us=[u]/\RelV x u:=by
 cases r with
 |cons r1 r2=>cases r2;exact⟨_,rfl,r1⟩
def vals2{x y:V}(r:Vals [x,y] us):∃u w',us=[u,w']/\RelV x u/\RelV y w':=by
 cases r with
 |cons r1 r2 =>
  cases r2 with
  |cons r3 r4=>cases r4;exact⟨_,_,rfl,r1,r3⟩
def yv:aX X (.builtin "abs") (λxs H Q=>∃i,xs=[.int i]/\Q (.int (if i<0 then -i else i)) H):=by
 intro pins s σ H xs us Q I r h;obtain⟨i,rfl,q⟩:=h;obtain⟨u,rfl,t,rfl⟩:=vals1 r;exact call_abs_int λu tk=>⟨.int (if i<0 then -i else i),H,I.tok _,⟨_,rfl⟩,q⟩
def uF(hc:X.calm=true):aX X (.builtin "min") (λxs H Q=>∃i j,xs=[.int i,.int j]/\Q (.int (if j<i then j else i)) H):=by
 intro pins s σ H xs us Q I r h;obtain⟨i,j,rfl,q⟩:=h;obtain⟨u,w',rfl,⟨t,rfl⟩,⟨t',rfl⟩⟩:=vals2 r;refine min_two_ints (I.ok.hd hc) λh' tk k=>⟨_,H,I.kept k,?_,q⟩;by_cases hj:j<i
 ·rw[Ku hj,Ku hj];exact⟨_,rfl⟩
 ·rw[Ko hj,Ko hj];exact⟨_,rfl⟩
def lV:aX X (.type "int") (λxs H Q=>(∃i,xs=[.int i]/\Q (.int i) H)\/∃k,xs=[.bl k]/\Q (.int (if k then 1 else 0)) H):=by
 intro pins s σ H xs us Q I r h;rcases h with ⟨i,rfl,q⟩|⟨k,rfl,q⟩
 ·obtain⟨u,rfl,t,rfl⟩:=vals1 r;exact call_int_int ⟨.int i,H,I,⟨_,rfl⟩,q⟩
 ·obtain⟨u,rfl,r1⟩:=vals1 r;cases r1;exact call_int_bool ⟨.int (if k then 1 else 0),H,I.tok _,⟨_,rfl⟩,q⟩
def GD(K:W.Frag)(x:V)(H:Hp)(n:Nat):Prop:=
 match x with
 |.str y=>y.length<=sizeLine/\n=y.length
 |.qW y=>y.size<=sizeLine/\n=y.size
 |.ref p=>(∃xs,a_ K H p xs/\n=xs.length)\/∃xs,bu K H p xs/\n=xs.length
 |_=>False
def iB:aX X (.builtin "len") (λxs H Q=>∃x n,xs=[x]/\GD X.K x H n/\Q (.int n) H):=by
 intro pins s σ H xs us Q I r h;obtain⟨x,n,rfl,e,q⟩:=h;obtain⟨u,rfl,rx⟩:=vals1 r;have hl:=jd;have hs:sizeLine=16777216:=L7
 cases x with
 |str y =>
  obtain⟨t,rfl⟩:=rx;obtain⟨hy,e'⟩:y.length<=sizeLine/\n=y.length:=e;subst e';exact len_str (by lia) ⟨.int _,H,I.tok _,⟨_,rfl⟩,q⟩
 |qW y =>
  obtain⟨t,rfl⟩:=rx;obtain⟨hy,e'⟩:y.size<=sizeLine/\n=y.size:=e;subst e';exact W.len_bytes (by lia) ⟨.int _,H,I.tok _,⟨_,rfl⟩,q⟩
 |ref p =>
  cases rx;have e':(∃xs,a_ X.K H p xs/\n=xs.length)\/∃xs,bu X.K H p xs/\n=xs.length:=e;rcases e' with ⟨xs,hx,e'⟩|⟨xs,hx,e'⟩
  ·subst e';obtain⟨its,r',pl,hz⟩:=I.list hx;have hlen:=r'.length;exact Calls.call_len_list pl.isList (by simp only[Kq];lia) ⟨.int xs.length,H,I.tok _,⟨_,by simp only[Kq];rw[hlen]⟩,q⟩
  ·subst e';obtain⟨its,r',pl,hz⟩:=I.tuple hx;have hlen:=r'.length;exact len_tuple pl (by simp only[Kq];lia) ⟨.int xs.length,H,I.tok _,⟨_,by simp only[Kq];rw[hlen]⟩,q⟩
 |_=>exact (show False from e).elim
end
structure FG (h:Heap) (x dx C:Addr) (mA:Str->Option Value):Prop where
 obj:h.get? x=some (W.instObj C dx)
 ns:h.Ns1 dx mA
 ne:dx≠x
def lU{dx:Addr}(n:h.Ns1 dx mA):∃od,h.get? dx=some od/\∀name,W.lookIn name od=some (mA name):=by
 obtain⟨o,es,ep,ho,hd,hk,_,hm⟩:=n;refine⟨o,ho,λname=>?_⟩;have e:=hm name;unfold nsFind findBy at e;rw[<- Array.find?_toList] at e;unfold W.lookIn;rw[hd];dsimp only;split
 ·rename_i y q;rw[q] at e;exact Lg some e
 ·rename_i q;rw[q] at e;have a:es.toList.any (·.refKey)=false:=by
   rw[List.any_eq_false];intro y hy;obtain⟨z,t,hkey⟩:=hk y (Array.mem_toList_iff.mp hy);simp[DictEntry.refKey,hkey]
  have a':¬ es.toList.any (·.refKey)=true:=by rw[a];exact Ky
  rw[Ko a'];exact Lg some e
def FG.look{x dx:Addr}(I:FG h x dx C mA):∃od,W.InstAt h x (W.instObj C dx) C (some od)/\∀name,W.lookIn name od=some (mA name):=
 let ⟨od,ho,hl⟩:=lU I.ns
 ⟨od,⟨I.obj,rfl,rfl,ho⟩,hl⟩
def jo.some_of{v:V}{o:Option Value}(r:jo (some v) o):∃u,o=some u/\RelV v u:=by
 cases o with
 |none=>exact (show False from r).elim
 |some u=>exact⟨u,rfl,r⟩
section
variable {P:Program} {w:World} {H H':Hp} {h h':Heap} {a C dx:Addr} {fs fs':List (Str×V)}
def Bb(aL:dB P w H h)(e:H a=some (.ins C dx fs)):∃mA,FG h a dx C mA/\(∀f,jo (fs.lookup f) (mA f))/\PySem.Within mA (fs.map (·.1))/\fs.length<=1000/\H dx=some (.own a):=by
 obtain⟨d,z,ne,ob,mA,n,r,q⟩:=(show aN P w H h a (.ins C dx fs) from aL a _ e);exact⟨mA,⟨ob,n,ne⟩,r,q,z,d⟩
end
structure Jh (K:W.Frag) (C:Addr):Prop where
 pg:W.plainGet K C Str.empty=true
 hd:W.hasDictIn K C=true
 po:W.plainOver K C=true
 sa:W.findIn K (.ref C) "__setattr__"=some (some (.builtin "object.__setattr__"))
def Jh.get(c:Jh K C)(f:Str):W.plainGet K C f=true:=c.pg
section
variable {X:Cx} {pins:List (Addr×Obj)} {σ:St} {H:Hp} {s:Shared} {a C dx:Addr} {fs:List (Str×V)} {f:Str} {v:V} {A:Around} {E:Value->Shared->Prop}
def Cy{prog:Program}{env:Env}{f:Str}{pos:Pos}{s:Shared}(hb:attributeBase e f env (eval e env)=eval e env)
  (h:wpAny (model prog w) A (eval e env) (λo s₁=>wpAny (model prog w) A (getAttr o f true) Q E s₁) E s):wpAny (model prog w) A (eval (.Attribute e f pos) env) Q E s:=
 Attribute_any_ h (by rw[arm_eval_Attribute,hb])
end
section
variable {X:Cx} {pins:List (Addr×Obj)} {σ:St} {H:Hp} {s:Shared} {A:Around} {E:Value->Shared->Prop} {Q:Value->Shared->Prop} {c:Value} {b:Bool}
inductive gR (K:W.Frag) (H:Hp):V->Value->Prop where
 |aI:gR K H .aI (.type "NoneType")
 |bl (x:Bool):gR K H (.bl x) (.type "bool")
 |int (i:Int):gR K H (.int i) (.type "int")
 |str (x:Str):gR K H (.str x) (.type "str")
 |FX (x:UInt64):gR K H (.FX x) (.type "float")
 |lst {a:Addr} {xs:List V} (e:H a=some (.lst xs)):gR K H (.ref a) (.type "list")
 |iH {a:Addr} {o:Obj} {xs:List V} (e:H a=some (.iH o (.lst xs))):gR K H (.ref a) (.type "list")
 |tup {a:Addr} {xs:List V} (e:H a=some (.tup xs)):gR K H (.ref a) (.type "tuple")
 |dK {a:Addr} {kvs:List (Key×V)} (e:H a=some (.dK kvs)):gR K H (.ref a) (.type "dict")
 |dT {a:Addr} {kvs:List (List Key×V)} (e:H a=some (.dT kvs)):gR K H (.ref a) (.type "dict")
 |ins {a C dx:Addr} {fs:List (Str×V)} (e:H a=some (.ins C dx fs)) (cl:Jh K C) (ha:W.findIn K (.ref C) "__class__"=some (some (.builtin "object.__class__")))
   (hn:W.specialIn K (.builtin "object.__class__") "__get__"=some (some (.builtin "getset_descriptor.__get__"))) (htk:W.takesIn K (.builtin "object.__class__")=some true)
   (hm:W.mroIn K C (.type "object")=some true):gR K H (.ref a) (.ref C)
def lQ{x:V}{t:Value}(I:Inv X pins σ H s)(rx:RelV x u)(ty:gR X.K H x t)(e:W.kitOne X.K t c=some b)(h:∀tk,Q (.bool b) {s with toks:=tk}):
  wpAny (model X.prog X.w) A (call (.builtin "isinstance") [u,c]) Q E s:=by
 cases ty with
 |aI=>cases (show u=Value.none from rx);exact Mk W.kitx_none I.fi True.intro e (λz=>nomatch z) h
 |bl y=>cases (show u=Value.bool y from rx);exact Mk W.kitx_bool I.fi True.intro e (λz=>nomatch z) h
 |int i=>obtain⟨t,q⟩:=(show ∃t,u=Value.int i t from rx);cases q;exact Mk W.kitx_int I.fi True.intro e (λz=>nomatch z) h
 |str y=>obtain⟨t,q⟩:=(show ∃t,u=Value.str y t from rx);cases q;exact Mk W.kitx_str I.fi True.intro e (λz=>nomatch z) h
 |FX y=>obtain⟨t,q⟩:=(show ∃t,u=Value.float y t from rx);cases q;exact Mk W.kitx_float I.fi True.intro e (λz=>nomatch z) h
 |@lst a xs ea =>
  cases (show u=Value.ref a from rx)
  obtain⟨_,_,n,_,h1⟩:=(show aN X.prog X.w H s.heap a (.lst xs) from I.aL a _ ea);exact Mk W.kitx_list I.fi ⟨_,h1,rfl⟩ e (λz=>nomatch z) h
 |@iH a ob xs ea =>
  cases (show u=Value.ref a from rx)
  obtain⟨_,_,_,n,_,h1⟩:=(show aN X.prog X.w H s.heap a (.iH ob (.lst xs)) from I.aL a _ ea);exact Mk W.kitx_list I.fi ⟨_,h1,rfl⟩ e (λz=>nomatch z) h
 |@tup a xs ea =>
  cases (show u=Value.ref a from rx)
  obtain⟨_,_,_,p⟩:=(show aN X.prog X.w H s.heap a (.tup xs) from I.aL a _ ea);obtain⟨o,h1,h2,_⟩:=p;exact Mk W.kitx_tuple I.fi ⟨o,h1,h2⟩ e (λz=>nomatch z) h
 |@dK a kvs ea =>
  cases (show u=Value.ref a from rx)
  obtain⟨_,_,vs,_,p⟩:=(show aN X.prog X.w H s.heap a (.dK kvs) from I.aL a _ ea);obtain⟨o,es,ep,h1,h2,_⟩:=p;exact Mk W.kitx_dict I.fi ⟨o,h1,h2.1⟩ e (λz=>nomatch z) h
 |@dT a kvs ea =>
  cases (show u=Value.ref a from rx)
  obtain⟨_,_,xs,_,o,es,ep,h1,h2,_⟩:=(show aN X.prog X.w H s.heap a (.dT kvs) from I.aL a _ ea);exact Mk W.kitx_dict I.fi ⟨o,h1,h2.1⟩ e (λz=>nomatch z) h
 |@ins a C dx fs ea cl ha hn htk hm =>
  cases (show u=Value.ref a from rx)
  obtain⟨mA,O,_⟩:=Bb I.aL ea;obtain⟨od,J,_⟩:=O.look;exact Mk (W.kitx_own (cl.get _) cl.hd ha hn htk hm) I.fi J e (λz=>nomatch z) h
end
structure bt (k:Nat) (A:Around):Prop where
 hd:A.handled=none
 dp:A.depth+3*k+5<recursionLimit
 un:A.units+16*k+200<cLine
 gd:A.guards=some []
def bt.mono{k:Nat}{A:Around}(r:bt k A)(h:j<=k):bt j A:=⟨r.hd,by have:=r.dp;lia,by have:=r.un;lia,r.gd⟩
def bt.deeper{k:Nat}{A:Around}(r:bt (k+1) A)(env:Env):bt k (A.deeper env):=
 ⟨r.hd,by have:=r.dp;show A.depth+1+3*k+5<_;lia,by have:=r.un;show A.units+3+16*k+200<_;lia,r.gd⟩
def bt.in1{k:Nat}{A:Around}(r:bt (k+1) A):bt k A.in1:=
 ⟨r.hd,by have:=r.dp;show A.depth+3*k+5<_;lia,by have:=r.un;show A.units+1+16*k+200<_;lia,r.gd⟩
def rW{A:Around}:(A.under (.builtin "type.__call__" ⟨.ref C::us,kw⟩)).depth=A.depth+1:=by
 first|rfl|simp[Around.under,Code.weight,Code.isCreation,Code.isGuard,Code.isCaller,Code.frames,Code.isFrame,guardIds]
def r6{A:Around}:(A.under (.builtin "type.__call__" ⟨.ref C::us,kw⟩)).units=A.units+1:=by
 first|rfl|simp[Around.under,Code.cUnits,Code.frames,Code.isFrame]
def bt.make{k:Nat}{A:Around}(r:bt (k+1) A)(C:Addr)(us:List Value)(kw:List (Str×Value)):bt k (A.under (.builtin "type.__call__" ⟨.ref C::us,kw⟩)):=
 ⟨r.hd,by have:=r.dp;rw[rW];lia,by have:=r.un;rw[r6];lia,by have h:=r.gd;first|exact h | (simp[Around.under,Code.guards,Code.isGuard,guardIds];exact h)⟩
def bt.depth{k:Nat}{A:Around}(r:bt k A):A.depth<recursionLimit:=by have:=r.dp;lia
def bt.units{k:Nat}{A:Around}(r:bt k A):A.units+64<cLine:=by have:=r.un;lia
def kh:TA:=λ_ H Q=>Q [] H
def iy(ta:TE)(tr:TA):TA:=λσ H Q=>ta σ H λx H1=>tr σ H1 λxs H2=>Q (x::xs) H2
section
variable {X:Cx} {e:Expr} {es:List Expr} {te:TE} {t:TA} {pos:Pos}
def rC:PA X [] kh:=λ_ _ _ _ H Q I h=>Calls.spliced_nil ⟨[],H,I,.nil,h⟩
def jy(ha:PE X e te)(hr:PA X es t)(hs:autoParam (starEach (e::es) X.env=(false,eval e X.env)::starEach es X.env) ℜ0):PA X (e::es) (iy te t):=by
 intro pos pins s σ H Q I h;rw[hs];show wpAny _ _ (spliced ((false,eval e X.env)::backTo pos (starEach es X.env))) _ _ s;refine Calls.spliced_cons (bH (ha pins s σ H _ I h) λu s1 hq46=>?_);obtain⟨x,H1,I1,r1,q1⟩:=hq46;exact bH (hr pos pins s1 σ H1 _ I1 q1) λus s2 ⟨xs,H2,I2,r2,q2⟩=>⟨x::xs,H2,I2,.cons r1 r2,q2⟩
def zE(t:TA):TE:=λσ H Q=>t σ H λxs H1=>xs.length<=sizeLine/\∀p,H1 p=none->Q (.ref p) (upd H1 p (.tup xs))
def wW(t:TA):TE:=λσ H Q=>t σ H λxs H1=>xs.length<=sizeLine/\∀p,H1 p=none->Q (.ref p) (upd H1 p (.lst xs))
def EE{x1}(h:PA X es t):PE X (.Tuple es x1 pos) (zE t):=by
 intro pins s σ H Q I hq;refine wpAny_Tuple_spliced (bH (h pos pins s σ H _ I hq) λus s1 ⟨xs,H1,I1,r,z,q⟩=>⟨by rw[<- r.length];exact z,?_⟩)
 have hf:H1 s1.heap.objs.size=none:=I1.aL.fresh (Kp _);refine⟨.ref s1.heap.objs.size,upd H1 s1.heap.objs.size (.tup xs),I1.laid (t':=s1.toks) (λb u e=>Kk _ e) (Kp _) ?_,rfl,q _ hf⟩;exact⟨z,us,r,⟨_,K1 _ rfl,rfl,_,rfl,rfl⟩⟩
def DW(h:PA X es t):PE X (.List es pos) (wW t):=by
 intro pins s σ H Q I hq;refine wpAny_List_spliced (bH (h pos pins s σ H _ I hq) λus s1 ⟨xs,H1,I1,r,z,q⟩=>⟨by rw[<- r.length];exact z,?_⟩)
 have hf:H1 s1.heap.objs.size=none:=I1.aL.fresh (Kp _);refine⟨.ref s1.heap.objs.size,upd H1 s1.heap.objs.size (.lst xs),I1.laid (t':=s1.toks) (λb u e=>Kk _ e) (Kp _) ?_,rfl,q _ hf⟩;exact⟨z,us,0,r,K1 _ rfl⟩
end
abbrev Sp:=List V->Hp->VK->XK->Prop
abbrev oC:=List Env->Hp->Shared->XK->Value->Shared->Prop
variable{CX:oC}
structure rZ (P:Program) (w:World) (K:W.Frag) (mg:Str->Option Value) (base:Heap) (A:Around) (outer:List Env) (s:Shared) (H:Hp):Prop where
 frames:A.frames=some outer
 mod:Mod K mg base
 bs:∀b o,base.get? b=some o->s.heap.get? b=some o/\H b=none
 qN:base.objs.size<=s.heap.objs.size
 fC:s.heap.FunFrames base outer
 v7:∀b∈iw outer,H b=none
 aL:dB P w H s.heap
 bare:AllBare s.gens
 tabs:TabsOk K H
def CE(outer:List Env)(P:Program)(w:World)(H:Hp)(s:Shared)(Q:VK)(u:Value)(s':Shared):Prop:=
 ∃v H',s'.os=s.os/\AllBare s'.gens/\Un (iw outer) [] H H' s.heap s'.heap/\dB P w H' s'.heap/\RelV v u/\Q v H'
def CR(CX:oC)(outer:List Env)(P:Program)(w:World)(H:Hp)(s:Shared)(Q:VK)(E:XK)(r:Result)(s':Shared):Prop:=
 match r with
 |.ok (.ret u)=>CE outer P w H s Q u s'
 |.ok _=>False
 |.error e=>CX outer H s E e s'
structure dP (P:Program) (w:World) (K:W.Frag) (mg:Str->Option Value) (base:Heap) (CX:oC) (k:Nat) (f:Addr) (fd:FuncData) (ps:List Str) (sp:Sp):Prop where
 len:∀vs H Q E,sp vs H Q E->vs.length=ps.length
 run:∀(A:Around) (outer:List Env) (s:Shared) (H:Hp) (args:Args) (us:List Value) (vs:List V) (Q:VK) (E:XK),bt k A->rZ P w K mg base A outer s H->BindsTo s fd args (ps.zip us)->Vals vs us->sp vs H Q E ->
  codeAny (model P w) A (.call (.ref f) args) (CR CX outer P w H s Q E) s
def dP.mono{k:Nat}{f:Addr}{ps:List Str}{sp:Sp}(F:dP P w K mg base CX j f fd ps sp)(h:j<=k):
  dP P w K mg base CX k f fd ps sp:=⟨F.len,λA outer s H args us vs Q E hr=>F.run A outer s H args us vs Q E (hr.mono h)⟩
def rZ.make{A:Around}{s:Shared}(e:rZ P w K mg base A outer s H)(C:Addr)(us:List Value)(kw:List (Str×Value)):
  rZ P w K mg base (A.under (.builtin "type.__call__" ⟨.ref C::us,kw⟩)) outer s H:=⟨by first|exact e.frames | (simpa[Around.under,Code.envs,Code.isFrame,pushEnvs] using e.frames),e.mod,e.bs,e.qN,e.fC,e.v7,e.aL,e.bare,e.tabs⟩
section
variable {X:Cx} {pins:List (Addr×Obj)} {σ:St} {H:Hp} {s s':Shared}
def Inv.Bm(I:Inv X pins σ H s):rZ X.prog X.w X.K X.mg X.base X.A X.stack s H:=
 ⟨I.ok.frames,I.ok.mod,I.bs,Km I.ok.qN I.sz,I.stack,I.ju,I.aL,I.bare,I.ok.tabs.un I.base⟩
def Inv.after{Q:VK}(I:Inv X pins σ H s)(h:CE X.stack X.prog X.w H s Q u s'):EP X pins σ Q u s':=by
 obtain⟨v,H',os,bare,un,aL,r,q⟩:=h;obtain⟨hh,g,d,t,os'⟩:=s';obtain rfl:os'=s.os:=os;exact⟨v,H',I.call (h':=hh) (g':=g) (d':=d) (t':=t) (ch:=[]) un aL bare (λb z=>absurd z (by simp)),r,q⟩
end
def gI(sp:Sp)(dvs:List V)(E:XK)(t:TA):TE:=λσ H Q=>t σ H λvs H1=>sp (vs++dvs) H1 Q E
def Binds(K:W.Frag)(fd:FuncData)(ps:List Str)(ds:List Value):Prop:=
 ∀(s:Shared) (us:List Value),K.In s.heap->(us++ds).length=ps.length->BindsTo s fd ⟨us,[]⟩ (ps.zip (us++ds))
def Binds.all{ps:List Str}(h:∀us:List Value,us.length=ps.length->bindArgs fd ⟨us,[]⟩=pure (ps.zip us)):Binds K fd ps []:=λs us _ hl=>by
 rw[Le] at hl ⊢;exact .of_eq (h us hl)
def Passes(CX:oC)(X:Cx)(E:XK):Prop:=∀(pins:List (Addr×Obj)) (σ:St) (H:Hp) (s:Shared) (e:Value) (s':Shared),Inv X pins σ H s->CX X.stack H s E e s'->X.xe e s'
section
variable {X:Cx} {CX:oC} {k:Nat} {f C:Addr} {fd:FuncData} {ps:List Str} {sp:Sp} {dvs:List V} {ds:List Value} {E:XK} {x m:Str} {p pos apos:Pos} {e o:Expr} {es:List Expr} {ta:TE} {t:TA}
def yr{s:Shared}{Q:VK}{vs:List V}(F:dP X.prog X.w X.K X.mg X.base CX k f fd ps sp)(hr:bt k X.A)(hb:Binds X.K fd ps ds)(hd:Vals dvs ds)(hx:Passes CX X E)
  (I:Inv X pins σ H s) (r:Vals vs us) (h:sp (vs++dvs) H Q E):wpAny (model X.prog X.w) X.A (call (.ref f) us) (EP X pins σ Q) X.xe s:=by
 have r2:Vals (vs++dvs) (us++ds):=r.append hd;have hl:(us++ds).length=ps.length:=by rw[<- r2.length];exact F.len _ _ _ _ h
 refine MZ (NL (F.run X.A X.stack s H ⟨us,[]⟩ (us++ds) (vs++dvs) Q E hr I.Bm (hb s us I.fi hl) r2 h) λr s' hq=>?_)
 cases r with
 |error e=>exact hx pins σ H s e s' I hq
 |ok fl =>
  cases fl with
  |ret u=>exact I.after hq
  |next=>exact False.elim hq
  |brk=>exact False.elim hq
  |cont=>exact False.elim hq
def BQ(F:dP X.prog X.w X.K X.mg X.base CX k f fd ps sp)(hr:bt k X.A)(hg:Gl X x)(hm:X.mg x=some (.ref f))(hk:W.keepIn X.K (.ref f)=true)(hb:Binds X.K fd ps ds)(hd:Vals dvs ds)(hx:Passes CX X E)
  (ha:PA X (e::es) t) (hdb:autoParam ((x ==("__debug__":Str))=false) ℜ1) (he:autoParam (starEach (e::es) X.env=(false,eval e X.env)::starEach es X.env) ℜ0) (hpl:autoParam ((backTo pos (starEach es X.env)).any (·.1)=false) ℜ0) :
  PE X (.Call (.Name x p) (e::es) [] pos) (gI sp dvs E t):=by
 intro pins s σ H Q I h;refine LO (dQ I hg hm ?_ hdb);refine O4 (h₀:=X.base) I.ok.mod.jz hk (bH (ha pos pins s σ H _ I h) λus s1 ⟨vs,H1,I1,r,q⟩=>⟨I1.fi,?_⟩) he hpl;exact yr F hr hb hd hx I1 r q
def zx(F:dP X.prog X.w X.K X.mg X.base CX k f fd ps sp)(hr:bt k X.A)(hg:Gl X x)(hm:X.mg x=some (.ref f))(hk:W.keepIn X.K (.ref f)=true)(hb:Binds X.K fd ps ds)(hd:Vals dvs ds)(hx:Passes CX X E)
  (hdb:autoParam ((x ==("__debug__":Str))=false) ℜ1):PE X (.Call (.Name x p) [] [] pos) (gI sp dvs E kh):=by
 intro pins s σ H Q I h;refine LO (dQ I hg hm ?_ hdb);exact W.callWith_K0 I.fi hk (yr (us:=[]) F hr hb hd hx I .nil h)
end
def PK(X:Cx)(kws:List Keyword)(t:TA):Prop:=
 ∀(pos:Pos) (pins:List (Addr×Obj)) (s:Shared) (σ:St) (H:Hp) (Q:List V->Hp->Prop),Inv X pins σ H s->t σ H Q->wpAny (model X.prog X.w) X.A (evalAll ((backToKw pos (keywordEach kws X.env)).map (·.2))) (AP X pins σ Q) X.xe s
section
variable {X:Cx} {CX:oC} {k:Nat} {f C:Addr} {fd:FuncData} {ps ks:List Str} {sp:Sp} {E:XK} {x m:Str} {p pos apos kpos:Pos} {e o:Expr} {es:List Expr} {kws:List Keyword} {te ta:TE} {t tk:TA} {nm:Option Str}
def EN:PK X [] kh:=λ_ _ _ _ H Q I h=>wpAny_evalAll_nil ⟨[],H,I,.nil,h⟩
def Cf(ha:PE X e te)(hr:PK X kws t):PK X (⟨nm,e,kpos⟩::kws) (iy te t):=by
 intro pos pins s σ H Q I h;show wpAny _ _ (evalAll ((do let v <- eval e X.env;standAt pos;pure v)::(backToKw pos (keywordEach kws X.env)).map (·.2))) _ _ s
 refine wpAny_evalAll_cons (Kh (bH (ha pins s σ H _ I h) λu s1 ⟨x,H1,I1,r1,q1⟩=>Kh (Nk (Kt ?_))));exact bH (hr pos pins s1 σ H1 _ I1 q1) λus s2 ⟨xs,H2,I2,r2,q2⟩=>⟨x::xs,H2,I2,.cons r1 r2,q2⟩
variable {g:List Value->List Value->List Value} {gV:List V->List V->List V}
end
structure ax (N P:List Str) (sc:Scope):Prop where
 kind:sc.kind=.function
 co:sc.isCoroutine=false
 gen:sc.isGenerator=false
 nd:N.Nodup
 pre:N.take P.length=P
 par:∀x∈P,sc.names.lookup x=some .local\/sc.names.lookup x=some .cell
 Fu:∀y∈sc.names,y.2≠.free
theorem mL:∀{binds:List (Str×Value)} {m:Str->Option Value},(∀v,(x,v)∉binds)->bindL kindOf binds m x=m x
 |[],_,_=>rfl
 | (n,v)::r,m,h=>by
  unfold bindL;rw[mL λw hw=>h w (Kx _ hw)];split
  ·have:x≠n:=by rintro rfl;exact h v Kw
   simp[this]
  ·rfl
theorem mS:∀{binds:List (Str×Value)} {m:Str->Option Value},(∀v,(x,v)∉binds)->bindC kindOf binds m x=m x
 |[],_,_=>rfl
 | (n,v)::r,m,h=>by
  unfold bindC;rw[mS λw hw=>h w (Kx _ hw)];split
  ·rfl
  ·have:x≠n:=by rintro rfl;exact h v Kw
   simp[this]
theorem me{v:Value}:∀{P:List Str} {vs:List Value} {i:Nat} {m:Str->Option Value},P.Nodup->P[i]?=some x->vs[i]?=some v->kindOf x=some .local ->
  bindL kindOf (P.zip vs) m x=some v
 |[],_,_,_,_,h,_,_=>by simp at h
 |_::_,[],_,_,_,_,h,_=>by simp at h
 |p::P,w::vs,0,m,nd,h1,h2,hk=>by
  simp at h1 h2;subst h1;subst h2;show bindL kindOf ((p,w)::P.zip vs) m p=_;unfold bindL;rw[mL λv hv=>(LV.mp nd).1 (OK hv).1,Ku hk];simp
 |p::P,w::vs,i+1,m,nd,h1,h2,hk=>by
  show bindL kindOf ((p,w)::P.zip vs) m x=_;unfold bindL;exact me (i:=i) (LV.mp nd).2 (by simpa using h1) (by simpa using h2) hk
theorem lS{v:Value}:∀{P:List Str} {vs:List Value} {i:Nat} {m:Str->Option Value},P.Nodup->P[i]?=some x->vs[i]?=some v->kindOf x≠some .local ->
  bindC kindOf (P.zip vs) m x=some v
 |[],_,_,_,_,h,_,_=>by simp at h
 |_::_,[],_,_,_,_,h,_=>by simp at h
 |p::P,w::vs,0,m,nd,h1,h2,hk=>by
  simp at h1 h2;subst h1;subst h2;show bindC kindOf ((p,w)::P.zip vs) m p=_;unfold bindC;rw[mS λv hv=>(LV.mp nd).1 (OK hv).1,Ko hk];simp
 |p::P,w::vs,i+1,m,nd,h1,h2,hk=>by
  show bindC kindOf ((p,w)::P.zip vs) m x=_;unfold bindC;exact lS (i:=i) (LV.mp nd).2 (by simpa using h1) (by simpa using h2) hk
def start(N:List Str)(vs:List V):St:=vs.map some++List.replicate (N.length-vs.length) none
def iZ(CX:oC)(P:Program)(w:World)(K:W.Frag)(mg:Str->Option Value)(base:Heap)(N:List Str)(qual:Str)(scope:Scope)(f:Addr)(cd:Value)(A:Around)(outer:List Env)(s:Shared)(H:Hp)(E:XK):Cx where
 prog:=P
 w:=w
 K:=K
 mg:=mg
 base:=base
 A:=A.deeper (envOfC qual scope s.heap.objs.size f cd)
 N:=N
 s₀:=s
 H₀:=H
 env:=envOfC qual scope s.heap.objs.size f cd
 outer:=outer
 stack:=envOfC qual scope s.heap.objs.size f cd::outer
 ex:=[]
 calm:=true
 fn:=λ_=>true
 pn:=[]
 xe:=λe s'=>wpAny (model P w) (A.deeper (envOfC qual scope s.heap.objs.size f cd)) (leaving (envOfC qual scope s.heap.objs.size f cd) e) (λ_ s''=>CX outer H s E e s'') (λe' s''=>CX outer H s E e' s'') s'
def pE{sc:Scope}{n:Nat}(h:sc.names.lookup x=some .cell):∃c,(cellsFrom n sc.names []).lookup x=some c:=by
 have q:=W.cellsFrom_some sc.names n [] (.inl h);exact Ny.mp q
def vF{ps:List Str}{qual:Str}{f:Addr}{cd:Value}{A:Around}{s s1:Shared}{E:XK}{vs:List V}
  (S:ax N ps scope) (hd:A.handled=none) (e0:rZ P w K mg base A outer s H) (hl:vs.length=ps.length) (r:Vals vs us)
  (x:InCallC s s.heap.objs.size (bindL (envOfC qual scope s.heap.objs.size f cd).kindOf (ps.zip us) λ_=>none) (cellsFrom (s.heap.objs.size+1) scope.names []) (bindC (envOfC qual scope s.heap.objs.size f cd).kindOf (ps.zip us) λ_=>none) s1) :
  Inv (iZ CX P w K mg base N qual scope f cd A outer s H E) [] (start N vs) H s1:=by
 have hpl:ps.length<=N.length:=by have:=Lg List.length S.pre;rw[KD] at this;lia
 obtain⟨h1,tk,rfl,hk⟩:=x.done;have noA:∀b:Addr,b∉(iZ CX P w K mg base N qual scope f cd A outer s H E).ex:=λb z=>absurd (show b∈([]:List Addr) from z) (by simp)
 refine⟨⟨e0.mod,S.kind,rfl,rfl,Kp _,λy z c h1 h2=>?_,λy hy=>?_,λy c _ h=>?_,λ_=>hd,Around.frames_deeper e0.frames,.inr ⟨rfl,rfl⟩,λb z=>absurd z (noA b),e0.bs,e0.qN,λb _ _=>noA b,λb z=>absurd z (noA b),e0.fC,e0.v7,e0.tabs⟩,
  rfl,e0.bare,Un.kept hk,⟨_,x.toInCall.ns,λi y v h1 h2 h3=>?_⟩,λy c h=>⟨_,x.cell y c h⟩,e0.aL.fresh (Kp _),λy c h=>?_,λp hp=>absurd (show p∈([]:List (Addr×Obj)) from hp) (by simp),e0.aL.kept hk,?_⟩
 ·exact name_of_addr x.apart (PySem.mem_of_lookup h1) (PySem.mem_of_lookup h2)
 ·have hy:scope.names.lookup y=some .cell\/scope.names.lookup y=some .free:=hy;rcases hy with hy|hy
  ·exact pE hy
  ·exact absurd rfl (S.Fu _ (PySem.mem_of_lookup hy))
 ·exact Me (x.above y c (PySem.mem_of_lookup h))
 ·have hi:i<vs.length:=by
   unfold start at h2;by_cases hi:i<vs.length
   ·exact hi
   ·rw[KL (by simpa using hi)] at h2
    rw[OG] at h2
    split at h2<;>cases h2
  have ha:vs[i]?=some v:=by
   unfold start at h2;rw[KR (by simpa using hi),Kn] at h2
   cases e:vs[i]? with
   |none=>rw[e] at h2;cases h2
   |some a=>rw[e] at h2;cases h2;rfl
  obtain⟨u,hu,rv⟩:=r.get ha;have hp:ps[i]?=some y:=by
   rw[<- S.pre,List.getElem?_take_of_lt (by lia)];exact h1
  have ndP:ps.Nodup:=by rw[<- S.pre];exact S.nd.sublist (List.take_sublist _ _)
  refine⟨u,rv,?_⟩;rcases S.par y (Li hp) with k|k
  ·exact .inl ⟨k,me ndP hp hu k⟩
  ·obtain⟨c,e⟩:=pE (n:=s.heap.objs.size+1) k;refine .inr ⟨.inl k,c,e,?_⟩;have q:=x.cell y c e;rw[lS ndP hp hu (by show scope.names.lookup y≠_;rw[k];decide)] at q
   exact q
 ·exact e0.aL.fresh (Me (x.above y c (PySem.mem_of_lookup h)))
 ·unfold start;show _=N.length;rw[Kj,Ki,K6];lia
def zm{k:Nat}{f:Addr}{name qual:Str}{params:Arguments}{dV kV doc pm cdv ct oc:Value}{an od:Option Addr}
  {osl:Array (Option Value)} {ps:List Str} {sp:Sp} (lk:K.lookup f=some ⟨oc,od,.func (W.fnOf name qual params body scope dV kV doc pm an cdv ct),osl⟩) (fJ:W.codeIn K cdv qual=true) (S:ax N ps scope)
  (len:∀vs H Q E,sp vs H Q E->vs.length=ps.length)
  (hbody:∀(A:Around) (outer:List Env) (s:Shared) (H:Hp) (vs:List V) (Q:VK) (E:XK),bt k (A.deeper (envOfC qual scope s.heap.objs.size f cdv))->sp vs H Q E ->
   ∃t,rE (iZ CX P w K mg base N qual scope f cdv A outer s H E) body t/\t {nx:=λ_ H'=>Q .aI H',rt:=Q} (start N vs) H) :
  dP P w K mg base CX (k+1) f (W.fnOf name qual params body scope dV kV doc pm an cdv ct) ps sp:=by
 refine⟨len,λA outer s H args us vs Q E hr e0 hb r jr=>?_⟩;have hl:=len _ _ _ _ jr;have KX:K.In s.heap:=e0.mod.jz.keeps λb o e=>(e0.bs b o e).1;have lim:s.heap.NoLimit:=e0.mod.nolimit.keeps λb o e=>(e0.bs b o e).1;have hkind:∀y∈ps.zip us,scope.names.lookup y.1=some .local\/(scope.names.lookup y.1=some .cell/\((cellsFrom (s.heap.objs.size+1) scope.names []).lookup y.1).isSome=true):=λ⟨n,v⟩ hy=>by
  rcases S.par n (OK hy).1 with q|q
  ·exact .inl q
  ·exact .inr ⟨q,W.cellsFrom_some _ _ _ (.inl q)⟩
 refine codeAny_call_function hr.depth (KX _ _ lk) rfl S.co S.gen rfl (W.codeRec_of KX fJ) (hb _ _ _ _ ?_);refine wpAny_newFunctionEnv_cells S.kind hkind λenv he s1 x=>?_;subst he;refine⟨lim.keeps x.toInCall.keep,codeAny_func ?_⟩;obtain⟨t,ht,hq⟩:=hbody A outer s H vs Q E (hr.deeper _) jr;have I:Inv (iZ CX P w K mg base N qual scope f cdv A outer s H E) [] (start N vs) H s1:=vF S hr.hd e0 hl r x;refine Lh (ht [] s1 (start N vs) H _ I hq) (λfl s' hs=>?_) λe s' hs=>hs;have fin:∀{σ':St} {H':Hp} {v:V} {u:Value},Inv (iZ CX P w K mg base N qual scope f cdv A outer s H E) [] σ' H' s'->RelV v u->Q v H'->CE outer P w H s Q u s':=
  λ{σ' H' v u} J rv q=>⟨v,H',J.os,J.bare,J.base,J.aL,rv,q⟩
 cases fl with
 |ret u =>
  obtain⟨v,σ',H',J,rv,q⟩:=hs;exact fin J rv q
 |next =>
  obtain⟨σ',H',J,q⟩:=hs;exact fin (v:=V.aI) (u:=Value.none) J rfl q
 |brk =>
  obtain⟨_,_,_,q⟩:=hs;exact False.elim q
 |cont =>
  obtain⟨_,_,_,q⟩:=hs;exact False.elim q
section
variable {X:Cx} {x:Str} {p pos:Pos} {e:Expr} {es:List Expr} {t:TA} {id T:String} {r:List V->Hp->VK->Prop}
def B7(r:List V->Hp->VK->Prop)(t:TA):TE:=λσ H Q=>t σ H λvs H1=>r vs H1 Q
def wB(hc:aX X (.builtin id) r)(hg:Gl X x)(hm:X.mg x=none)(hv:bootBuiltins x=some (.builtin id))(ha:PA X (e::es) t)(hn:autoParam (x≠"__name__") ℜ1)(hdb:autoParam ((x ==("__debug__":Str))=false) ℜ1)
  (he:autoParam (starEach (e::es) X.env=(false,eval e X.env)::starEach es X.env) ℜ0) (hpl:autoParam ((backTo pos (starEach es X.env)).any (·.1)=false) ℜ0):PE X (.Call (.Name x p) (e::es) [] pos) (B7 r t):=by
 intro pins s σ H Q I h;refine LO (eF I hg hm hv ?_ hn hdb);exact PyProof.Rows.callWith_builtin1 (bH (ha pos pins s σ H _ I h) λus s1 ⟨vs,H1,I1,r1,q1⟩=>hc pins s1 σ H1 vs us Q I1 r1 q1) he hpl
def vR(hc:aX X (.type T) r)(hg:Gl X x)(hm:X.mg x=none)(hv:bootBuiltins x=some (.type T))(ha:PA X (e::es) t)(hn:autoParam (x≠"__name__") ℜ1)(hdb:autoParam ((x ==("__debug__":Str))=false) ℜ1)
  (he:autoParam (starEach (e::es) X.env=(false,eval e X.env)::starEach es X.env) ℜ0) (hpl:autoParam ((backTo pos (starEach es X.env)).any (·.1)=false) ℜ0):PE X (.Call (.Name x p) (e::es) [] pos) (B7 r t):=by
 intro pins s σ H Q I h;refine LO (eF I hg hm hv ?_ hn hdb);exact Lw (bH (ha pos pins s σ H _ I h) λus s1 ⟨vs,H1,I1,r1,q1⟩=>hc pins s1 σ H1 vs us Q I1 r1 q1) he hpl
end
end L2
namespace HT
open PySem PyProof.Rows
section
variable {prog:Program} {w:World} {A:Around} {E:Value->Shared->Prop} {s:Shared}
def Af{t b:Addr}{vs ws:List Value}{Q:Value->Shared->Prop}(ht:IsTup s.heap t vs.toArray)(hb:IsTup s.heap b ws.toArray)(hv:vs≠[])
  (h1:ws=[]->Q (.ref t) s) (h2:ws≠[]->Q (.ref s.heap.objs.size) {s with heap:=s.heap.push {cls:=.type "tuple",data:=.seq (vs++ws).toArray}})
  (hsz:vs.length+ws.length<=sizeLine):wpAny (model prog w) A (binaryOp .Add (.ref t) (.ref b)) Q E s:=by
 obtain⟨⟨cls,dd,data,sl⟩,ho,hc,n,hd⟩:=id ht;obtain⟨⟨cls2,dd2,data2,sl2⟩,ho2,hc2,n2,hd2⟩:=id hb;simp only at hc hd hc2 hd2;subst hc hd hc2 hd2;have e:vs.toArray++ws.toArray=(vs++ws).toArray:=by simp
 by_cases hw:ws=[]
 ·exact concat_meets ⟨_,ho,rfl⟩ ⟨_,ho2,rfl⟩ noFill_tuple_add seq_tuple_add PySem.F.slot_tuple_add PySem.F.entry_tuple_add (PySem.F.args_tuple_add_2 _ _)
   (tuple_addW1 t b vs.toArray ws.toArray n n2 dd dd2 sl sl2 (by simpa using hv) (by simp[hw])) ⟨ho,ho2,h1 hw⟩
 ·refine concat_meets ⟨_,ho,rfl⟩ ⟨_,ho2,rfl⟩ noFill_tuple_add seq_tuple_add PySem.F.slot_tuple_add PySem.F.entry_tuple_add (PySem.F.args_tuple_add_2 _ _)
   (tuple_addW2 t b vs.toArray ws.toArray n n2 dd dd2 sl sl2 (by simpa using hv) (by simpa using hw) (by rw[List.size_toArray,List.size_toArray];exact hsz)) ⟨ho,ho2,?_⟩
  rw[e];exact h2 hw
def bM(n d:Nat):Option Int->Nat
 |none=>d
 |some v=>if v<0 then (v+(n:Int)).toNat else min v.toNat n
def dk(n d:Nat):bM n d none=d:=rfl
def cP(n d k:Nat):bM n d (some (k:Int))=min k n:=by
 show (if (k:Int)<0 then ((k:Int)+(n:Int)).toNat else min (k:Int).toNat n)=min k n
 rw[if_neg (by lia),Int.toNat_natCast]
def sj(n d:Nat)(hd:d<=n)(o:Option Int):bM n d o<=n:=by
 cases o with
 |none=>exact hd
 |some v =>
  show (if v<0 then (v+(n:Int)).toNat else min v.toNat n)<=n
  by_cases hv:v<0
  ·rw[if_pos hv];lia
  ·rw[if_neg hv];exact Nat.min_le_right _ _
def tW(v:Int)(n d:Nat):(if v<0 then max (v+(n:Int)) 0 else min v (n:Int))=((bM n d (some v):Nat):Int):=by
 show (if v<0 then max (v+(n:Int)) 0 else min v (n:Int))=(((if v<0 then (v+(n:Int)).toNat else min v.toNat n):Nat):Int)
 by_cases hv:v<0
 ·simp only[if_pos hv];lia
 ·simp only[if_neg hv];lia
def rM(lo hi:Option Int)(n:Nat):Builtin.Slice.sliceAdjust lo hi 1 (n:Int)=(((bM n 0 lo:Nat):Int),((bM n n hi:Nat):Int)):=by
 have h1:¬ ((1:Int)<0):=by lia
 unfold Builtin.Slice.sliceAdjust;simp only[h1,if_false];refine Prod.ext ?_ ?_
 ·cases lo with
  |none=>rfl
  |some v=>exact tW v n 0
 ·cases hi with
  |none=>rfl
  |some v=>exact tW v n n
def sL(i j:Nat):Builtin.Slice.slicePlaces (i:Int) (j:Int) 1=j-i:=by
 unfold Builtin.Slice.slicePlaces;have h1:(1:Int) > 0:=by lia
 simp only[h1,if_true,Int.ediv_one]
 split<;>lia
def j8{v:Value}{o:Option Int}{Q:Option Int->Shared->Prop}(p:IsPart v o)(h:Q o s):wpAny (model prog w) A (Builtin.Slice.slicePartIndex v) Q E s:=by
 cases p with
 |none=>exact slicePart_none h
 |int i t=>exact slicePart_int h
def iX{sl:Addr}{vl vu:Value}{lo hi:Option Int}{n:Nat}{Q:Int×Int×Nat->Shared->Prop}(hs:s.heap.IsSliceOf sl vl vu .none)(pl:IsPart vl lo)(pu:IsPart vu hi)
  (h:Q (((bM n 0 lo:Nat):Int),1,bM n n hi-bM n 0 lo) s):wpAny (model prog w) A (Builtin.Slice.sliceApplied (.ref sl) (pure (n:Int))) Q E s:=by
 obtain⟨os,hos,hcs,oF⟩:=id hs;unfold Builtin.Slice.sliceApplied Builtin.Slice.sliceFields;refine wpAny_bind (wpAny_bind (wpAny_field hos oF (x:=vl) rfl (wpAny_bind (wpAny_field hos oF (x:=vu) rfl (wpAny_bind (wpAny_field hos oF (x:=.none) rfl (wpAny_pure ?_)))))));refine wpAny_bind (slicePart_none ?_);show wpAny _ _ (if ((1:Int) == 0)=true then _ else _) _ _ s
 rw[if_neg (by decide)]
 refine wpAny_bind (j8 pl (wpAny_bind (j8 pu (wpAny_bind (wpAny_pure ?_)))));show wpAny _ _ (match Builtin.Slice.sliceAdjust lo hi 1 (n:Int) with | (lo,hi)=>pure (lo,(1:Int),Builtin.Slice.slicePlaces lo hi 1)) _ _ s
 rw[rM lo hi n];show wpAny _ _ (pure (((bM n 0 lo:Nat):Int),(1:Int),Builtin.Slice.slicePlaces ((bM n 0 lo:Nat):Int) ((bM n n hi:Nat):Int) 1)) _ _ s;rw[sL];exact wpAny_pure h
def yc(xs:Array Value)(i k:Nat):((List.range k).filterMap λ(m:Nat)=>xs[((i:Int)+(m:Int)*1).toNat]?).toArray=((xs.toList.drop i).take k).toArray:=by
 have e:(λ(m:Nat)=>xs[((i:Int)+(m:Int)*1).toNat]?)=λm=>xs[i+m]?:=by
  funext m
  have:((i:Int)+(m:Int)*1).toNat=i+m:=by lia
  rw[this]
 rw[e];have:=pick_run xs i k;rw[List.filterMap_map] at this;have e2:((λx=>xs[x]?) ∘ λx=>i+x)=λm=>xs[i+m]?:=rfl;rw[e2] at this;rw[this]
def iz{t sl:Addr}{items:Array Value}{vl vu:Value}{lo hi:Option Int}{Q:Value->Shared->Prop}(ht:IsTup s.heap t items)(hs:s.heap.IsSliceOf sl vl vu .none)(pl:IsPart vl lo)(pu:IsPart vu hi)
  (hw:¬ (bM items.size 0 lo=0/\bM items.size items.size hi=items.size))
  (h:Q (.ref s.heap.objs.size) {s with heap:=s.heap.push {cls:=.type "tuple",data:=.seq ((items.toList.drop (bM items.size 0 lo)).take (bM items.size items.size hi-bM items.size 0 lo)).toArray}})
  (hsz:items.size<=sizeLine):wpAny (model prog w) A (getItem (.ref t) (.ref sl)) Q E s:=by
 have htake:sizeOk (.seq ((items.toList.drop (bM items.size 0 lo)).take (bM items.size items.size hi-bM items.size 0 lo)).toArray):=by
  show ((items.toList.drop (bM items.size 0 lo)).take (bM items.size items.size hi-bM items.size 0 lo)).toArray.size<=sizeLine;rw[List.size_toArray,List.length_take,List.length_drop,Array.length_toList];exact Nat.le_trans (Nat.min_le_right _ _) (Nat.le_trans (Nat.sub_le _ _) hsz)
 have hj:bM items.size items.size hi<=items.size:=sj _ _ (Nat.le_refl _) hi;obtain⟨os,hos,hcs,oF⟩:=id hs;have hTs:s.TypeIs (.ref sl) "slice":=⟨os,hos,hcs⟩;unfold getItem
 try with_reducible refine wpAny_holding ?_
 first|refine wpAny_bind (wpAny_pure ?_)|skip
 refine wpAny_bind (wpAny_sequenceKey ht.typeIs (by decide) ?_)
 refine wpAny_bind (wpAny_callSpecial?_slot (name:=Str.ofString "__getitem__") ht.typeIs PyProof.Rows.slot_tuple_getitem
  (wpAny_call_entry PyProof.Rows.slot_tuple_getitem ht.typeIs entry_tuple_getitem ?_ (args_tuple_getitem _ _)))
 show wpAny _ _ (Builtin.Tuple.tupleItemsOf (.ref t) >>= _) _ _ s;refine wpAny_bind (tupleItemsOf_ ht ?_);refine wpAny_bind (wpAny_typeOf hTs ?_);rw[if_pos (by decide)]
 refine wpAny_bind (iX hs pl pu ?_);have hno:¬ ((((bM items.size 0 lo:Nat):Int) == 0 && (1:Int) == 1 && (bM items.size items.size hi-bM items.size 0 lo) == items.size)=true):=by
  intro q;rw[Bool.and_eq_true,Bool.and_eq_true] at q;have q1:((bM items.size 0 lo:Nat):Int)=0:=eq_of_beq q.1.1;have q2:bM items.size items.size hi-bM items.size 0 lo=items.size:=eq_of_beq q.2;exact hw ⟨by lia,by lia⟩
 show wpAny _ _ (if (((bM items.size 0 lo:Nat):Int) == 0 && (1:Int) == 1 && (bM items.size items.size hi-bM items.size 0 lo) == items.size)=true then _ else _) _ _ s
 rw[if_neg hno,yc]
 first
  |exact wpAny_bind (m:=Builtin.Tuple.tupleExact _) (wpAny_newObj_type (wpAny_pure ⟨_,rfl,wpAny_pure h⟩) htake)
  |exact wpAny_bind (m:=Builtin.Tuple.tupleExact _) (wpAny_newObj_type (wpAny_bind (wpAny_pure (wpAny_pure ⟨_,rfl,wpAny_pure h⟩))) htake)
  |exact wpAny_bind (wpAny_bind (m:=Builtin.Tuple.tupleExact _) (wpAny_newObj_type (wpAny_pure (wpAny_pure ⟨_,rfl,wpAny_pure h⟩)) htake))
  |exact wpAny_bind (wpAny_bind (m:=Builtin.Tuple.tupleExact _) (wpAny_newObj_type (wpAny_pure ⟨_,rfl,wpAny_pure h⟩) htake))
end
end HT
namespace L2
open PySem PySem.Spec PyProof.Rows
variable{xs:List (List Key×Addr×Value)}{its its' us:List Value}{α:Type}{pins:List (Addr×Obj)}{σ:St}{H H':Hp}{x y:V}{u:Value}{o:Option V}{P:Program}{w:World}{kvs:List (List Key×V)}{a:Addr}{Q:Value->Shared->Prop}
abbrev TO:=St->Hp->(Option Int->Hp->Prop)->Prop
def PO(X:Cx)(e:Option Expr)(t:TO):Prop:=
 ∀(pins:List (Addr×Obj)) (s:Shared) (σ:St) (H:Hp) (Q:Option Int->Hp->Prop),Inv X pins σ H s->t σ H Q ->
  wpAny (model X.prog X.w) X.A (evalPart e X.env) (λu s'=>∃o H',Inv X pins σ H' s'/\IsPart u o/\Q o H') X.xe s
def ip:TO:=λ_ H Q=>Q none H
def oW(t:TE):TO:=λσ H Q=>t σ H λx H1=>∃i,x=.int i/\Q (some i) H1
def intsAre_of{ns:List Int}:∀{us:List Value},Vals (ns.map V.int) us->IntsAre us ns:=by
 induction ns with
 |nil=>intro us r;rw[MS] at r;cases r;exact .nil
 |cons n ns ih =>
  intro us r;rw[KA] at r
  cases r with
  |cons r1 r2 =>
   obtain⟨t,e⟩:=r1;subst e;exact .cons n t (ih r2)
section
variable {X:Cx} {e:Expr} {te:TE} {lo hi:Option Expr} {tl th:TO} {pos p2:Pos}
def A0:PO X none ip:=by
 intro pins s σ H Q I h;rw[evalPart_none];exact Kt ⟨none,H,I,.none,h⟩
def Av(h:PE X e te):PO X (some e) (oW te):=by
 intro pins s σ H Q I hw;rw[evalPart_some];refine bH (h pins s σ H _ I hw) λu s1 hq50=>?_;obtain⟨x,H1,I1,r1,q1⟩:=hq50;obtain⟨i,rfl,q⟩:=q1;obtain⟨t,rfl⟩:=r1;exact⟨some i,H1,I1,.int i t,q⟩
def CM(X:Cx)(r:V->Option Int->Option Int->Hp->VK->Prop):Prop:=
 ∀(pins:List (Addr×Obj)) (s:Shared) (σ:St) (H:Hp) (x:V) (v vl vu:Value) (lo hi:Option Int) (sl:Addr) (Q:VK),Inv X pins σ H s->RelV x v->s.heap.IsSliceOf sl vl vu .none->IsPart vl lo->IsPart vu hi->r x lo hi H Q ->
  ∃T id,typeLookup (.type T) "__getitem__"=pure (some (.builtin id))/\s.TypeIs v T/\wpAny (model X.prog X.w) X.A (getItem v (.ref sl)) (EP X pins σ Q) X.xe s
def Ho(r:V->Option Int->Option Int->Hp->VK->Prop)(te:TE)(tl th:TO):TE:=λσ H Q=>te σ H λx H1=>tl σ H1 λl H2=>th σ H2 λu H3=>r x l u H3 Q
def zR{r:V->Option Int->Option Int->Hp->VK->Prop}(hr:CM X r)(he:PE X e te)(hl:PO X lo tl)(hu:PO X hi th):PE X (.Subscript e (.Slice lo hi none p2) pos) (Ho r te tl th):=by
 intro pins s σ H Q I h;refine Subscript_ (bH (he pins s σ H _ I h) λv s1 hq51=>?_);obtain⟨x,H1,I1,r1,q1⟩:=hq51;refine wpAny_Slice (bH (hl pins s1 σ H1 _ I1 q1) λvl s2 ⟨l,H2,I2,pl,q2⟩=>bH (hu pins s2 σ H2 _ I2 q2) λvu s3 hq52=>?_);obtain⟨u,H3,I3,pu,q3⟩:=hq52;rw[evalPart_none];refine Kt ?_;have I4:Inv X pins σ H3 {s3 with heap:=s3.heap.push {cls:=.type "slice",data:=.fields #[vl,vu,.none]}}:=I3.kept (t':=s3.toks) λb ob q=>Kk _ q
 obtain⟨T,id,hT,ht,hg⟩:=hr pins {s3 with heap:=s3.heap.push {cls:=.type "slice",data:=.fields #[vl,vu,.none]}} σ H3 x v vl vu l u s3.heap.objs.size Q I4 r1 (Heap.IsSliceOf.new ..) pl pu q3
 show wpAny (model X.prog X.w) X.A (subscriptTail e (.Slice lo hi none p2) v (.ref s3.heap.objs.size)) (EP X pins σ Q) X.xe {s3 with heap:=s3.heap.push {cls:=.type "slice",data:=.fields #[vl,vu,.none]}}
 exact tail_any (ops:=[.ref s3.heap.objs.size,v]) ht hT hg (by with_unfolding_all rfl)
def fE(xs:List V)(lo hi:Option Int):List V:=(xs.drop (HT.bM xs.length 0 lo)).take (HT.bM xs.length xs.length hi-HT.bM xs.length 0 lo)
def jf(xs:List V)(lo hi:Option Int):(fE xs lo hi).length<=xs.length:=by
 unfold fE;rw[KD,KQ];exact Km (Nat.min_le_right _ _) (Nat.sub_le _ _)
def wK(K:W.Frag):V->Option Int->Option Int->Hp->VK->Prop:=λx lo hi H Q=>∃a xs,x=.ref a/\bu K H a xs /\
 ¬ (HT.bM xs.length 0 lo=0/\HT.bM xs.length xs.length hi=xs.length)/\∀p,H p=none->Q (.ref p) (upd H p (.tup (fE xs lo hi)))
def ym:CM X (wK X.K):=by
 intro pins s σ H x v vl vu lo hi sl Q I rx hs pl pu h;obtain⟨a,xs,rfl,hx,hw,q⟩:=h;cases rx;obtain⟨its,r,ht,hz⟩:=I.tuple hx;have hlen:its.toArray.size=xs.length:=by rw[Kq];exact r.length.symm
 refine⟨"tuple",_,PyProof.Rows.slot_tuple_getitem.lookup,ht.typeIs,?_⟩;refine HT.iz ht hs pl pu (by rw[hlen];exact hw) ?_ (by rw[hlen];exact hz)
 rw[hlen];refine⟨.ref s.heap.objs.size,_,I.laid (t':=s.toks) (o:=.tup (fE xs lo hi)) (λb ob q=>Kk _ q) (Kp _) ?_,rfl,q _ (I.aL.fresh (Kp _))⟩;exact⟨Km (jf xs lo hi) hz,_,(r.drop (HT.bM xs.length 0 lo)).take (HT.bM xs.length xs.length hi-HT.bM xs.length 0 lo),d9.new _ _⟩
def Gu(K:W.Frag):R2:=λx y H Q=>∃a b xs ys,x=.ref a/\y=.ref b/\bu K H a xs/\bu K H b ys/\xs≠[]/\xs.length+ys.length<=sizeLine /\
 (ys=[]->Q (.ref a) H)/\(ys≠[]->∀p,H p=none->Q (.ref p) (upd H p (.tup (xs++ys))))
def Vals.mV{xs:List V}(r:Vals xs us):us=[] ↔ xs=[]:=by
 cases r with
 |nil=>simp
 |cons _ _=>simp
def Ce:cI X (binaryOp .Add) (Gu X.K):=by
 intro pins s σ H x y v u Q I rx ry h;obtain⟨a,b,xs,ys,rfl,rfl,ha,hb,hx,hz,q1,q2⟩:=h;cases rx;cases ry;obtain⟨its,r1,p1,_⟩:=I.tuple ha;obtain⟨its2,r2,p2,_⟩:=I.tuple hb;refine HT.Af p1 p2 (λz=>hx (r1.mV.mp z)) (λz=>⟨.ref a,H,I,rfl,q1 (r2.mV.mp z)⟩) (λz=>?_) (by rw[<- r1.length,<- r2.length];exact hz)
 refine⟨.ref s.heap.objs.size,_,I.laid (t':=s.toks) (o:=.tup (xs++ys)) (λb ob q=>Kk _ q) (Kp _) ?_,rfl,q2 (λw=>z (r2.mV.mpr w)) _ (I.aL.fresh (Kp _))⟩;exact⟨by rw[Kj];exact hz,_,r1.append r2,d9.new _ _⟩
end
def jO(n:Nat)(i:Int):Option Nat:=if 0<=i then (if i<n then some i.toNat else none) else if -(n:Int)<=i then some (i+n).toNat else none
def bS(xs:List α)(i:Int):Option α:=(jO xs.length i).bind λj=>xs[j]?
def tJ{n:Nat}{i:Int}{j:Nat}(h:jO n i=some j):seqIndex? i n=some j/\j<n/\-(n:Int)<=i/\i<n:=by
 unfold jO at h;by_cases h0:0<=i
 ·rw[Ku h0] at h;by_cases h1:i<n
  ·rw[Ku h1] at h;have e:i.toNat=j:=Option.some.inj h;exact⟨by rw[seqIndex_of h0 h1,e],by lia,by lia,h1⟩
  ·rw[Ko h1] at h;cases h
 ·rw[Ko h0] at h;by_cases h1:-(n:Int)<=i
  ·rw[Ku h1] at h;have e:(i+n).toNat=j:=Option.some.inj h;exact⟨by rw[Pz (by lia) h1,e],by lia,h1,by lia⟩
  ·rw[Ko h1] at h;cases h
def nu{xs:List α}{i:Int}{v:α}(h:bS xs i=some v):∃j,seqIndex? i xs.length=some j/\xs[j]?=some v/\j<xs.length/\-(xs.length:Int)<=i/\i<xs.length:=by
 unfold bS at h
 cases e:jO xs.length i with
 |none=>rw[e] at h;cases h
 |some j =>
  rw[e] at h;obtain⟨h1,h2,h3,h4⟩:=tJ e;exact⟨j,h1,h,h2,h3,h4⟩
def bw{xs:List α}{j:Nat}{v:α}(h:xs[j]?=some v):bS xs (j:Int)=some v:=by
 have hj:j<xs.length:=(Kl.mp h).1;have e:jO xs.length (j:Int)=some j:=by
  unfold jO;rw[Ku (by lia),Ku (by lia)];simp
 unfold bS;rw[e];exact h
def fS(xs:List α)(v:α):bS (xs++[v]) (-1)=some v:=by
 have hl:(xs++[v]).length=xs.length+1:=by simp
 have e:jO (xs++[v]).length (-1)=some xs.length:=by
  unfold jO;rw[hl,Ko (by decide),Ku (by lia)]
  congr 1;lia
 unfold bS;rw[e];show (xs++[v])[xs.length]?=some v;simp
def uw(b:Expr):Prop:=∀o i,subscripted b false o i=operate [o,i] (getItem o i)
def uR(X:Cx)(r:R2):Prop:=
 ∀(value slice:Expr) (pins:List (Addr×Obj)) (s:Shared) (σ:St) (H:Hp) (x y:V) (v u:Value) (Q:VK),Inv X pins σ H s->RelV x v->RelV y u->r x y H Q ->
  subscripted slice false v u=operate [v,u] (getItem v u)->wpAny (model X.prog X.w) X.A (subscriptTail value slice v u) (EP X pins σ Q) X.xe s
def uK(X:Cx)(id:String)(r:V->List V->Hp->VK->Prop):Prop:=
 ∀(pins:List (Addr×Obj)) (s:Shared) (σ:St) (H:Hp) (x:V) (xs:List V) (v:Value) (us:List Value) (Q:VK),Inv X pins σ H s->RelV x v->Vals xs us->r x xs H Q ->
  wpAny (model X.prog X.w) X.A (call (.builtin id) (v::us)) (EP X pins σ Q) X.xe s
section
variable {X:Cx} {a b:Expr} {ta tb:TE} {pos:Pos}
def uR.or{r r':R2}(h:uR X r)(h':uR X r'):uR X (λx y H Q=>r x y H Q\/r' x y H Q):=by
 intro value slice pins s σ H x y v u Q I rx ry q hs;rcases q with q|q
 ·exact h value slice pins s σ H x y v u Q I rx ry q hs
 ·exact h' value slice pins s σ H x y v u Q I rx ry q hs
def C7{r:R2}(hr:uR X r)(ha:PE X a ta)(hb:PE X b tb)(hs:uw b):PE X (.Subscript a b pos) (x9 r ta tb):=by
 intro pins s σ H Q I h;exact Subscript_ (DL ha hb I h λv u s2 x y H2 I2 rx ry q=>hr a b pins s2 σ H2 x y v u Q I2 rx ry q (hs _ _))
def Hn(K:W.Frag):R2:=λx y H Q=>∃p xs i v,x=.ref p/\y=.int i/\a_ K H p xs/\bS xs i=some v/\Q v H
def EK(K:W.Frag):R2:=λx y H Q=>∃p xs i v,x=.ref p/\y=.int i/\bu K H p xs/\bS xs i=some v/\Q v H
def HS:R2:=λx y H Q=>∃z i c,x=.str z/\y=.int i/\z.length<=sizeLine/\bS z.cps.toList i=some c/\Q (.str ⟨#[c]⟩) H
def AA:uR X (Hn X.K):=by
 intro value slice pins s σ H x y v u Q I rx ry h hs;obtain⟨p,xs,i,z,rfl,rfl,hq,he,q⟩:=h;cases rx;obtain⟨t,rfl⟩:=ry;obtain⟨its,r,pl,hz⟩:=I.list hq;obtain⟨j,h1,h2,h3,h4,h5⟩:=nu he;obtain⟨w,ew,rw'⟩:=r.get h2;have hl:=r.length;have hn:=jd;have fin:EP X pins σ Q w s:=⟨z,H,I,rw',q⟩;by_cases h0:0<=i
 ·have hj:i.toNat=j:=by
   rw[seqIndex_of h0 h5] at h1;exact Option.some.inj h1
  exact item_listR pl.isList h0 (by lia) (by rw[hj];simpa using ew) fin hs
 ·have hj:(i+(its.toArray.size:Int)).toNat=j:=by
   rw[Pz (by lia) h4] at h1
   rw[Kq,<- hl];exact Option.some.inj h1
  exact subscriptTail_builtinR (x:=w) pl.isList.typeIs slot_list_getitem.lookup
   (wpAny_getItem_list_neg (Q:=λr s'=>r=w/\EP X pins σ Q r s') pl.isList (by lia) (by rw[Kq]<;>lia) (by lia) (by rw[hj];simpa using ew) ⟨rfl,fin⟩) hs
def sJ:uR X (EK X.K):=by
 intro value slice pins s σ H x y v u Q I rx ry h hs;obtain⟨p,xs,i,z,rfl,rfl,hq,he,q⟩:=h;cases rx;obtain⟨t,rfl⟩:=ry;obtain⟨its,r,pl,hz⟩:=I.tuple hq;obtain⟨j,h1,h2,h3,h4,h5⟩:=nu he;obtain⟨w,ew,rw'⟩:=r.get h2;have hl:=r.length;have hn:=jd;have fin:EP X pins σ Q w s:=⟨z,H,I,rw',q⟩;exact subscriptTail_builtinR (x:=w) pl.typeIs slot_tuple_getitem.lookup
  (getItem_tuple (j:=j) (Q:=λr s'=>r=w/\EP X pins σ Q r s') pl (by lia) (by lia) (by rw[Kq,<- hl];exact h1) (by simpa using ew) ⟨rfl,fin⟩) hs
def Fg:uR X HS:=by
 intro value slice pins s σ H x y v u Q I rx ry h hs;obtain⟨z,i,c,rfl,rfl,hz,he,q⟩:=h;obtain⟨t,rfl⟩:=rx;obtain⟨t',rfl⟩:=ry;obtain⟨j,h1,h2,h3,h4,h5⟩:=nu he;have hl:z.cps.toList.length=z.length:=by simp[Str.length]
 rw[hl] at h1 h4 h5;have hn:=jd;exact tail_any (Po s z t) slot_str_getitem.lookup (getItem_str (c:=c) (by
  have e1:decide (i < -(2^63:Int))=false:=KJ (by lia)
  have e2:decide (i >= 2^63)=false:=KJ (by lia)
  rw[e1,e2,Bool.or_false]) (by rw[h1];simpa using h2) ⟨.str ⟨#[c]⟩,H,I.tok _,⟨_,rfl⟩,q⟩) hs
def JZ(K:W.Frag):R2:=λx y H Q=>Hn K x y H Q\/EK K x y H Q\/HS x y H Q
def DM:uR X (JZ X.K):=AA.or (sJ.or Fg)
def qZ(its:List Value)(n j:Nat)(u:Value):Obj.mapSeq (·.setIfInBounds j u) {cls:=.type "list",data:=.seq its.toArray n}={cls:=.type "list",data:=.seq (its.set j u).toArray n}:=by
 simp[Obj.mapSeq]
def Inv.lst{s:Shared}{p:Addr}{xs:List V}(I:Inv X pins σ H s)(h:H p=some (.lst xs)):
  ∃(its:List Value) (n:Nat),Vals xs its/\s.heap.get? p=some {cls:=.type "list",data:=.seq its.toArray n}/\xs.length<=sizeLine:=by
 obtain⟨z,its,n,r,e⟩:=I.aL p _ h;exact⟨its,n,r,e,z⟩
def Inv.FQ{s:Shared}{p:Addr}{xs ys:List V}{n n':Nat}{f:Obj->Obj}(I:Inv X pins σ H s)(h:H p=some (.lst xs))
  (ho:s.heap.get? p=some {cls:=.type "list",data:=.seq its.toArray n}) (hf:f {cls:=.type "list",data:=.seq its.toArray n}={cls:=.type "list",data:=.seq its'.toArray n'}) (r:Vals ys its') (hz:ys.length<=sizeLine) (t:Nat) :
  Inv X pins σ (upd H p (.lst ys)) {s with heap:=s.heap.update p f,toks:=t}:=by
 have e:(s.heap.update p f).get? p=some {cls:=.type "list",data:=.seq its'.toArray n'}:=by
  rw[LM f ho (by rw[hf]<;>rfl),hf]
 refine I.write (x:=p) (e:=p) (by rw[h];trivial) (.inl rfl) (λb u hb q=>(MO _ _ (Lk hb)).trans q) ⟨_,e⟩ ?_
 exact⟨hz,its',n',r,e⟩
def Hl:V->V->V->Hp->(Hp->Prop)->Prop:=λo i v H Q=>∃p xs k j,o=.ref p/\i=.int k/\H p=some (.lst xs)/\jO xs.length k=some j/\Q (upd H p (.lst (xs.set j v)))
def set_list:Dz X Hl:=by
 intro pins s σ H o i v ov iv u Q I ro ri rv h;obtain⟨p,xs,k,j,rfl,rfl,hp,hj,q⟩:=h;cases ro;obtain⟨t,rfl⟩:=ri;obtain⟨its,n,r,ho,hz⟩:=I.lst hp;obtain⟨h1,h2,h3,h4⟩:=tJ hj;have hl:=r.length;have hn:=jd;have I':Inv X pins σ (upd H p (.lst (xs.set j v))) {s with heap:=s.heap.update p (Obj.mapSeq (·.setIfInBounds j u))}:=
  I.FQ hp ho (qZ its n j u) (r.set rv j) (by rw[Mt];exact hz) s.toks
 by_cases h0:0<=k
 ·have hk:k.toNat=j:=by
   rw[seqIndex_of h0 h4] at h1;exact Option.some.inj h1
  exact W.ki_setAt ho h0 (by lia) (by rw[Kq,<- hl];exact h4) (by rw[hk];exact⟨_,I',q⟩)
 ·have hk:(k+(its.toArray.size:Int)).toNat=j:=by
   rw[Pz (by lia) h3] at h1
   rw[Kq,<- hl];exact Option.some.inj h1
  exact W.ki_setBack ho (by lia) (by rw[Kq,<- hl];exact h3) (by lia) (by rw[hk];exact⟨_,I',q⟩)
def og(lo hi:Option Int)(n:Nat):(sliceBounds lo hi none n).1=((HT.bM n 0 lo:Nat):Int)/\(sliceBounds lo hi none n).2.1=((HT.bM n n hi:Nat):Int)/\(sliceBounds lo hi none n).2.2=1:=by
 refine⟨?_,?_,rfl⟩
 ·cases lo with
  |none=>simp[sliceBounds,HT.bM]
  |some i =>
   simp only[sliceBounds,HT.bM,Option.getD_none,show (1:Int) > 0 by decide,MT]
   by_cases h:i<0
   ·simp only[h,MT]<;>lia
   ·simp only[h,Mz]<;>lia
 ·cases hi with
  |none=>simp[sliceBounds,HT.bM]
  |some i =>
   simp only[sliceBounds,HT.bM,Option.getD_none,show (1:Int) > 0 by decide,MT]
   by_cases h:i<0
   ·simp only[h,MT]<;>lia
   ·simp only[h,Mz]<;>lia
def lj(its:List Value)(lo hi:Option Int):slicePick its.toArray lo hi none=((its.drop (HT.bM its.length 0 lo)).take (HT.bM its.length its.length hi-HT.bM its.length 0 lo)).toArray:=by
 obtain⟨h1,h2,h3⟩:=og lo hi its.toArray.size;unfold slicePick;rw[h1,h2,h3];simp only[sliceRange_one,pick_run,Kq]<;>rfl
def GA(K:W.Frag):V->Option Int->Option Int->Hp->VK->Prop:=λx lo hi H Q=>∃a xs,x=.ref a/\a_ K H a xs/\∀p,H p=none->Q (.ref p) (upd H p (.lst (fE xs lo hi)))
def tq:CM X (GA X.K):=by
 intro pins s σ H x v vl vu lo hi sl Q I rx hs pl pu h;obtain⟨a,xs,rfl,hx,q⟩:=h;cases rx;obtain⟨its,r,ht,hz⟩:=I.list hx;have hlen:=r.length;refine⟨"list",_,slot_list_getitem.lookup,ht.isList.typeIs,?_⟩;refine wpAny_getItem_list_slice ht.isList hs pl pu .none (by simp) ?_ (by rw[Kq]<;>lia)
 rw[lj,<- hlen];refine⟨.ref s.heap.objs.size,_,I.laid (t':=s.toks) (o:=.lst (fE xs lo hi)) (λb ob q=>Kk _ q) (Kp _) ?_,rfl,q _ (I.aL.fresh (Kp _))⟩;exact⟨Km (jf xs lo hi) hz,_,0,(r.drop (HT.bM xs.length 0 lo)).take (HT.bM xs.length xs.length hi-HT.bM xs.length 0 lo),K1 _ rfl⟩
def cu:V->Bool
 |.aI=>true
 |.bl _=>true
 |.int _=>true
 |.str _=>true
 |_=>false
def wR:V->V->Bool
 |.aI,.aI=>true
 |.bl a,.bl b=>a == b
 |.bl a,.int b=>(if a then 1 else 0) == b
 |.int a,.bl b=>a ==(if b then 1 else 0)
 |.int a,.int b=>a == b
 |.str a,.str b=>a == b
 |_,_=>false
def sG{A:Around}{s:Shared}{v:Value}(ry:RelV y u)(rx:RelV x v)(fy:cu y=true)(fx:cu x=true):SeqAt.EqAt A s u v (wR y x):=by
 cases y with
 |aI =>
  cases ry
  cases x with
  |aI=>cases rx;exact SeqAt.EqAt.same _
  |bl b=>cases rx;exact SeqAt.EqAt.none_bool b
  |int b=>obtain⟨t,rfl⟩:=rx;exact SeqAt.EqAt.none_int b t
  |str b=>obtain⟨t,rfl⟩:=rx;exact SeqAt.EqAt.none_str b t
  |_=>exact absurd (show false=true from fx) Ky
 |bl a =>
  cases ry
  cases x with
  |aI=>cases rx;exact SeqAt.EqAt.bool_none a
  |bl b=>cases rx;exact SeqAt.EqAt.bool_bool a b
  |int b=>obtain⟨t,rfl⟩:=rx;exact SeqAt.EqAt.bool_int a b t
  |str b=>obtain⟨t,rfl⟩:=rx;exact SeqAt.EqAt.bool_str a b t
  |_=>exact absurd (show false=true from fx) Ky
 |int a =>
  obtain⟨t',rfl⟩:=ry
  cases x with
  |aI=>cases rx;exact SeqAt.EqAt.int_none a t'
  |bl b=>cases rx;exact SeqAt.EqAt.int_bool a t' b
  |int b=>obtain⟨t,rfl⟩:=rx;exact SeqAt.EqAt.int_int a t' b t
  |str b=>obtain⟨t,rfl⟩:=rx;exact SeqAt.EqAt.int_str a t' b t
  |_=>exact absurd (show false=true from fx) Ky
 |str a =>
  obtain⟨t',rfl⟩:=ry
  cases x with
  |aI=>cases rx;exact SeqAt.EqAt.str_none a t'
  |bl b=>cases rx;exact SeqAt.EqAt.str_bool a t' b
  |int b=>obtain⟨t,rfl⟩:=rx;exact SeqAt.EqAt.str_int a t' b t
  |str b=>obtain⟨t,rfl⟩:=rx;exact SeqAt.EqAt.str_str a t' b t
  |_=>exact absurd (show false=true from fx) Ky
 |_=>exact absurd (show false=true from fy) Ky
def sA(x:V)(u:Value):Bool:=match u with
 |.none=>wR .aI x
 |.bool b=>wR (.bl b) x
 |.int i _=>wR (.int i) x
 |.str z _=>wR (.str z) x
 |_=>false
def zc(r:RelV y u)(f:cu y=true):sA x u=wR y x:=by
 cases y with
 |aI=>cases r;rfl
 |bl b=>cases r;rfl
 |int i=>obtain⟨t,rfl⟩:=r;rfl
 |str z=>obtain⟨t,rfl⟩:=r;rfl
 |_=>exact absurd (show false=true from f) Ky
theorem h_:∀{xs:List V} {us:List Value},Vals xs us->xs.all cu=true->us.any (sA x)=xs.any λy=>wR y x
 |_,_,.nil,_=>rfl
 |y::xs,u::us,.cons r t,f=>by
  rw[L_,Lz] at f;rw[Nl,Nl,zc r f.1,h_ t f.2]
theorem fT{A:Around}{s:Shared}{v:Value}(rx:RelV x v)(fx:cu x=true):∀{xs:List V} {us:List Value},Vals xs us->xs.all cu=true->∀u∈us,SeqAt.EqAt A s u v (sA x u)
 |_,_,.nil,_=>λu hu=>by cases hu
 |y::xs,u::us,.cons r t,f=>λu' hu=>by
  rw[L_,Lz] at f;rcases Kv.mp hu with rfl|hu
  ·rw[zc r f.1];exact sG r rx f.1 fx
  ·exact fT rx fx t f.2 u' hu
def iW(x:V)(xs:List V):Bool:=xs.any λy=>wR y x
def Ik(K:W.Frag)(neg:Bool):R2:=λx y H Q=>∃p xs,y=.ref p/\(a_ K H p xs\/bu K H p xs)/\cu x=true/\xs.all cu=true/\Q (.bl (if neg then !iW x xs else iW x xs)) H
def my:cI X (compareOp .In) (Ik X.K false):=by
 intro pins s σ H x y v u Q I rx ry h;obtain⟨p,xs,rfl,hq,fx,fs,q⟩:=h;cases ry;rcases hq with hq|hq
 ·obtain⟨its,r,pl,hz⟩:=I.list hq;refine SeqAt.in_listAt (sA x) pl.isList (λw hw=>fT rx fx r fs w (by simpa using hw)) ⟨.bl _,H,I,rfl,?_⟩
  rw[show its.toArray.any (sA x)=its.any (sA x) by simp,h_ r fs]
  exact q
 ·obtain⟨its,r,pl,hz⟩:=I.tuple hq;refine SeqAt.in_tupleAt (sA x) pl (λw hw=>fT rx fx r fs w (by simpa using hw)) ⟨.bl _,H,I,rfl,?_⟩
  rw[show its.toArray.any (sA x)=its.any (sA x) by simp,h_ r fs]
  exact q
def nA:cI X (compareOp .NotIn) (Ik X.K true):=by
 intro pins s σ H x y v u Q I rx ry h;obtain⟨p,xs,rfl,hq,fx,fs,q⟩:=h;cases ry;rcases hq with hq|hq
 ·obtain⟨its,r,pl,hz⟩:=I.list hq;refine SeqAt.notIn_listAt (sA x) pl.isList (λw hw=>fT rx fx r fs w (by simpa using hw)) ⟨.bl _,H,I,rfl,?_⟩
  rw[show its.toArray.any (sA x)=its.any (sA x) by simp,h_ r fs]
  exact q
 ·obtain⟨its,r,pl,hz⟩:=I.tuple hq;refine SeqAt.notIn_tupleAt (sA x) pl (λw hw=>fT rx fx r fs w (by simpa using hw)) ⟨.bl _,H,I,rfl,?_⟩
  rw[show its.toArray.any (sA x)=its.any (sA x) by simp,h_ r fs]
  exact q
def oi:cI X (compareOp .NotIn) (λx y H Q=>∃i j,x=.str i/\y=.str j/\Q (.bl (!(!(Builtin.Str.occurrences j i 0 j.length 1).isEmpty))) H):=by
 intro pins s σ H x y v u Q I rx ry h;obtain⟨i,j,rfl,rfl,q⟩:=h;obtain⟨t,rfl⟩:=rx;obtain⟨t',rfl⟩:=ry;exact notIn_str ⟨.bl _,H,I,rfl,q⟩
def aX.or{f:Value}{r r':List V->Hp->VK->Prop}(h:aX X f r)(h':aX X f r'):aX X f (λxs H Q=>r xs H Q\/r' xs H Q):=by
 intro pins s σ H xs us Q I rs q;rcases q with q|q
 ·exact h pins s σ H xs us Q I rs q
 ·exact h' pins s σ H xs us Q I rs q
def oj:aX X (.type "list") (λxs H Q=>∃p ys,xs=[.ref p]/\(a_ X.K H p ys\/bu X.K H p ys)/\∀l,H l=none->Q (.ref l) (upd H l (.lst ys))):=by
 intro pins s σ H xs us Q I r h;obtain⟨p,ys,rfl,hq,q⟩:=h;obtain⟨u,rfl,rx⟩:=vals1 r;cases rx;have fin:∀(its:List Value),Vals ys its->ys.length<=sizeLine->∀(h':Heap) (c':Nat),(∀b o',s.heap.get? b=some o'->h'.get? b=some o') ->
   h'.get? s.heap.objs.size=some {cls:=.type "list",dict:=none,data:=.seq its.toArray c',slots:=#[]}->EP X pins σ Q (.ref s.heap.objs.size) {s with heap:=h'}:=λits r' hz h' c' kp e =>
  ⟨.ref s.heap.objs.size,_,I.laid (t':=s.toks) kp (Kp _) (show aN X.prog X.w _ h' _ (.lst ys) from⟨hz,its,c',r',e⟩),rfl,q _ (I.aL.fresh (Kp _))⟩
 rcases hq with hq|hq
 ·obtain⟨its,r',pl,hz⟩:=I.list hq;have hlen:=r'.length;obtain⟨o,ho,hc,n,hd⟩:=pl.isList;exact call_list_seq p (.inl rfl) ho hc hd (λh' c' kp e=>fin its r' hz h' c' kp e) (by simp only[Kq]<;>lia)
 ·obtain⟨its,r',pl,hz⟩:=I.tuple hq;have hlen:=r'.length;obtain⟨o,ho,hc,n,hd⟩:=pl;exact call_list_seq p (.inr rfl) ho hc hd (λh' c' kp e=>fin its r' hz h' c' kp e) (by simp only[Kq]<;>lia)
def eG:aX X (.type "tuple") (λxs H Q=>∃p ys,xs=[.ref p]/\((a_ X.K H p ys/\∀l,H l=none->Q (.ref l) (upd H l (.tup ys)))\/(bu X.K H p ys/\Q (.ref p) H))):=by
 intro pins s σ H xs us Q I r h;obtain⟨p,ys,rfl,h⟩:=h;obtain⟨u,rfl,rx⟩:=vals1 r;cases rx;rcases h with ⟨hq,q⟩|⟨hq,q⟩
 ·obtain⟨its,r',pl,hz⟩:=I.list hq;have hlen:=r'.length;refine call_tuple_list pl.isList (λh' kp=>?_) (by simp only[Kq]<;>lia)
  have I1:Inv X pins σ H {s with heap:=h'}:=I.kept (t':=s.toks) kp
  have I2:Inv X pins σ (upd H h'.objs.size (.tup ys)) {s with heap:=h'.push {cls:=.type "tuple",data:=.seq its.toArray}}:=
   I1.laid (t':=s.toks) (λb o e=>Kk _ e) (Kp _) (show aN X.prog X.w _ _ _ (.tup ys) from⟨hz,its,r',d9.new _ _⟩)
  exact⟨.ref h'.objs.size,_,I2,rfl,q _ (I1.aL.fresh (Kp _))⟩
 ·obtain⟨its,r',pl,hz⟩:=I.tuple hq;exact call_tuple_same pl ⟨.ref p,H,I,rfl,q⟩
def Hx(K:W.Frag)(T:String)(x:V)(H:Hp):Prop:=match x with
 |.str _=>T="str"
 |.int _=>T="int"
 |.ref p=>(T="list"/\∃xs,a_ K H p xs)\/(T="tuple"/\∃o,K.lookup p=some o/\o.cls=.type "tuple"/\o.dict=none) \/
   (T="dict"/\((∃kvs,H p=some (.dK kvs))\/∃kvs,H p=some (.dT kvs)))\/(T="set"/\∃S n,H p=some (.set S n))
 |_=>False
def xW{s:Shared}{T:String}{v:Value}(I:Inv X pins σ H s)(r:RelV x v)(ty:Hx X.K T x H):
  s.TypeIs v T/\∀a,v=.ref a->∃ob,s.heap.get? a=some ob/\ob.dict=none:=by
 cases x with
 |str z =>
  obtain⟨t,rfl⟩:=r
  cases (show T="str" from ty)
  exact⟨Po s z t,λ_ e=>nomatch e⟩
 |int i =>
  obtain⟨t,rfl⟩:=r
  cases (show T="int" from ty)
  exact⟨Ox s i t,λ_ e=>nomatch e⟩
 |ref p =>
  cases r;rcases ty with ⟨rfl,xs,hq⟩|⟨rfl,o,hk,hc,hd⟩|⟨rfl,hk⟩|⟨rfl,S,n,hk⟩
  ·obtain⟨its,_,pl,_⟩:=I.list hq;refine⟨pl.isList.typeIs,λa e=>?_⟩;cases e;obtain⟨o,n,e,c,hd,_⟩:=pl;exact⟨o,e,hd⟩
  ·refine⟨⟨o,I.fi p o hk,hc⟩,λa e=>?_⟩;cases e;exact⟨o,I.fi _ o hk,hd⟩
  ·have z:∃o,s.heap.get? p=some o/\o.ExactDict:=by
    rcases hk with ⟨kvs,hk⟩|⟨kvs,hk⟩
    ·obtain⟨_,_,_,_,o,_,_,e,ex,_⟩:=I.aL p _ hk;exact⟨o,e,ex⟩
    ·obtain⟨_,_,_,_,o,_,_,e,ex,_⟩:=I.aL p _ hk;exact⟨o,e,ex⟩
   obtain⟨o,e,ex⟩:=z;refine⟨⟨o,e,ex.1⟩,λa e2=>?_⟩;cases e2;exact⟨o,e,ex.2.1⟩
  ·obtain⟨o,_,_,_,e,ex,_⟩:=I.aL p _ hk;refine⟨⟨o,e,ex.1⟩,λa e2=>?_⟩;cases e2;exact⟨o,e,ex.2.1⟩
 |_=>exact False.elim ty
def zj(K:W.Frag)(T:String)(r:V->List V->Hp->VK->Prop)(to:TE):TE:=λσ H Q=>to σ H λx H1=>Hx K T x H1/\r x [] H1 Q
def Fs(K:W.Frag)(T:String)(r:V->List V->Hp->VK->Prop)(to:TE)(t:TA):TE:=λσ H Q=>to σ H λx H1=>Hx K T x H1/\t σ H1 λxs H2=>r x xs H2 Q
variable {o e:Expr} {es:List Expr} {to:TE} {t:TA} {name:Str} {apos cpos:Pos} {T id:String} {r:V->List V->Hp->VK->Prop}
def Dr(pa:PlainAttrs T)(slot:Slot T name id)(hty:typeOf (.builtin id)=pure (.type "method_descriptor"))(hm:uK X id r)(ho:PE X o to)
  (hbase:autoParam (attributeBase o name X.env (eval o X.env)=eval o X.env) ℜ0) (hline:autoParam ((apos.endLine == cpos.line)=true) ℜ0):PE X (.Call (.Attribute o name apos) [] [] cpos) (zj X.K T r to):=by
 intro pins s σ H Q I h;refine wpAny_Call_method0_late hbase hline (bH (ho pins s σ H _ I h) λv s1 hq53=>?_);obtain⟨x,H1,I1,r1,ty,q1⟩:=hq53;obtain⟨h1,h2⟩:=xW I1 r1 ty;exact⟨T,id,pa,slot,hty,h1,h2,NA rfl (PySem.evalArgs_none (hm pins s1 σ H1 x [] v [] Q I1 r1 .nil q1))⟩
def GJ(pa:PlainAttrs T)(slot:Slot T name id)(hty:typeOf (.builtin id)=pure (.type "method_descriptor"))(hm:uK X id r)(ho:PE X o to)(ha:PA X (e::es) t)
  (hbase:autoParam (attributeBase o name X.env (eval o X.env)=eval o X.env) ℜ0)
  (hfew:autoParam (((backTo cpos (starEach (e::es) X.env)).all (λx=>!x.1) && (backToKw cpos (keywordEach [] X.env)).all (λx=>x.1.isSome)
   && decide ((e::es).length+([]:List Keyword).length+(if ([]:List Keyword).isEmpty then 0 else 1)<30))=true) ℜ0)
  (hline:autoParam ((apos.endLine == cpos.line)=true) ℜ0) (hs:autoParam (starEach (e::es) X.env=(false,eval e X.env)::starEach es X.env) ℜ0) (hplain:autoParam ((backTo cpos (starEach es X.env)).any (·.1)=false) ℜ0) :
  PE X (.Call (.Attribute o name apos) (e::es) [] cpos) (Fs X.K T r to t):=by
 intro pins s σ H Q I h;refine wpAny_Call_method_late hbase hfew hline rfl (bH (ho pins s σ H _ I h) λv s1 hq54=>?_);obtain⟨x,H1,I1,r1,ty,q1⟩:=hq54;obtain⟨h1,h2⟩:=xW I1 r1 ty;refine⟨T,id,pa,slot,hty,h1,h2,?_⟩;have hA:=ha cpos pins s1 σ H1 _ I1 q1;rw[hs] at hA ⊢;refine NA (by show (false || (backTo cpos (starEach es X.env)).any (·.1))=false;rw[hplain]<;>rfl) (Calls.evalArgs_plain ?_)
 exact bH hA λus s2 ⟨vs,H2,I2,r2,q2⟩=>hm pins s2 σ H2 x vs v us Q I2 r1 r2 q2
/- xs.append(e),list.index on a module's tuple .. are uK facts of 06m -/
end
def Hk(X:Cx)(id:String)(r:V->List V->Hp->VK->Prop):Prop:=
 ∀(pins:List (Addr×Obj)) (s:Shared) (σ:St) (H:Hp) (x:V) (xs:List V) (v:Value) (us:List Value) (Q:VK),Inv X pins σ H s->RelV x v->Vals xs us->r x xs H Q ->
  wpAny (model X.prog X.w) X.A (call (.builtin id) (v::us)) (EP X pins σ Q) X.xe s
theorem Vals.one:∀{x:V} {us:List Value},Vals [x] us->∃u,us=[u]/\RelV x u
 |_,_,.cons r .nil=>⟨_,rfl,r⟩
theorem Vals.eraseIdx:∀{xs:List V} {us:List Value} (i:Nat),Vals xs us->Vals (xs.eraseIdx i) (us.eraseIdx i)
 |_,_,_,.nil=>.nil
 |_,_,0,.cons _ t=>t
 |_,_,i+1,.cons r t=>.cons r (Vals.eraseIdx i t)
theorem Vals.rep{xs:List V}(h:Vals xs us):∀k:Nat,Vals (List.replicate k xs).flatten (List.replicate k us).flatten
 |0=>.nil
 |k+1=>by
  rw[Lc,Lc,LU,LU];exact Vals.append h (Vals.rep h k)
theorem mI:∀(l:List α) (i:Nat),(l.eraseIdx i).length<=l.length
 |[],_=>Kp _
 |_::_,0=>LY _
 |_::r,i+1=>Nat.succ_le_succ (mI r i)
theorem foldl_rep(its:List Value):∀(k:Nat) (acc:List Value),
  List.foldl (λx1 x2=>x1++x2) acc.toArray (List.replicate k its.toArray)=(acc++(List.replicate k its).flatten).toArray
 |0,acc=>by simp
 |k+1,acc=>by
  have e:acc.toArray++its.toArray=(acc++its).toArray:=by simp
  have e2:(acc++its)++(List.replicate k its).flatten=acc++(List.replicate (k+1) its).flatten:=by
   rw[Lc,LU,KN]
  rw[<- e2,<- foldl_rep its k (acc++its),<- e,Lc,OL]
section
variable {X:Cx} {pins:List (Addr×Obj)} {σ:St} {H:Hp} {s:Shared} {l b:Addr} {xs ys zs:List V}
def Inv.E2{n:Nat}{f:Array Value->Array Value}{t':Nat}(I:Inv X pins σ H s)(hH:H l=some (.lst xs))
  (e:s.heap.get? l=some {cls:=.type "list",data:=.seq its.toArray n}) (hf:f its.toArray=its'.toArray) (hv:Vals ys its') (hz:ys.length<=sizeLine) :
  Inv X pins σ (upd H l (.lst ys)) {s with heap:=s.heap.update l (Obj.mapSeq f),toks:=t'}:=by
 have q:=PySem.IsL.update e f;rw[hf] at q;refine I.write (x:=l) (e:=l) (by rw[hH];exact trivial) (.inl rfl) (λb' u hb hu=>(MO s.heap (Obj.mapSeq f) (Lk hb)).trans hu) ⟨_,q⟩ ?_
 exact⟨hz,its',_,hv,q⟩
def Inv.Ew{t':Nat}(I:Inv X pins σ H s)(hv:Vals ys its)(hz:ys.length<=sizeLine):
  Inv X pins σ (upd H s.heap.objs.size (.lst ys)) {s with heap:=s.heap.push {cls:=.type "list",data:=.seq its.toArray},toks:=t'}:=
 I.laid (λ_ _ q=>Kk _ q) (Kp _) ⟨hz,its,0,hv,K1 _ rfl⟩
def Inv.fresh(I:Inv X pins σ H s):H s.heap.objs.size=none:=I.aL.fresh (Kp _)
def Inv.pe(I:Inv X pins σ H s)(hH:H l=some (.lst xs)):xs.length<=sizeLine/\∃(its:List Value) (n:Nat),Vals xs its/\xs.length=its.length/\s.heap.get? l=some {cls:=.type "list",data:=.seq its.toArray n}:=by
 obtain⟨z,its,n,r,e⟩:=I.aL l _ hH;exact⟨z,its,n,r,r.length,e⟩
def xY{n:Nat}(h:n<=sizeLine):Builtin.List.listTooLong n=false:=by
 unfold Builtin.List.listTooLong;exact KJ (by lia)
end
section
variable {X:Cx}
def ug:V->List V->Hp->VK->Prop:=λx vs H Q=>∃l xs y,x=.ref l/\vs=[y]/\H l=some (.lst xs)/\xs.length<sizeLine/\Q .aI (upd H l (.lst (xs++[y])))
def mC:Hk X "list.append" ug:=by
 intro pins s σ H x vs v us Q I rx rv h;obtain⟨l,xs,y,rfl,rfl,hH,hz,q⟩:=h;cases rx;obtain⟨u,rfl,ru⟩:=rv.one;obtain⟨z,its,n,r,hl,e⟩:=I.pe hH;refine MI F.slot_list_append ⟨_,e,rfl⟩ F.entry_list_append (F.args_list_append_2 _ _) (PySem.list_append l its.toArray n u (by rw[Kq];lia)) ⟨e,?_⟩
 refine⟨.aI,_,I.E2 (its':=its++[u]) hH e (by simp) (r.append (.cons ru .nil)) ?_,rfl,q⟩
 rw[Kj,LN];lia
def Eg:V->List V->Hp->VK->Prop:=λx vs H Q=>∃l xs i k y,x=.ref l/\vs=[.int i]/\H l=some (.lst xs)/\-(2^63)<=i/\i<2^63/\seqIndex? i xs.length=some k/\xs[k]?=some y/\Q y (upd H l (.lst (xs.eraseIdx k)))
def y9:Hk X "list.pop" Eg:=by
 intro pins s σ H x vs v us Q I rx rv h;obtain⟨l,xs,i,k,y,rfl,rfl,hH,h1,h2,hk,hy,q⟩:=h;cases rx;obtain⟨u,rfl,ru⟩:=rv.one;obtain⟨t,rfl⟩:=ru;obtain⟨z,its,n,r,hl,e⟩:=I.pe hH;obtain⟨w,hw,rw'⟩:=r.get hy;refine MI F.slot_list_pop ⟨_,e,rfl⟩ F.entry_list_pop (F.args_list_pop_2 _ _)
  (MeetsSeq.list_pop_at l its.toArray n i t k w (Pa h1 h2) (by rw[Kq,<- hl];exact hk) (by rw[<- KW];exact hw) (by rw[Kq];lia)) ⟨e,?_⟩
 refine⟨y,_,I.E2 (its':=its.eraseIdx k) hH e ?_ (r.eraseIdx k) ?_,rw',q⟩
 ·show its.toArray.eraseIdxIfInBounds k=(its.eraseIdx k).toArray;rw[List.eraseIdxIfInBounds_toArray]
 ·have:=mI xs k;lia
def IF:R2:=λx y H Q=>∃l b xs zs,x=.ref l/\y=.ref b/\H l=some (.lst xs)/\H b=some (.lst zs)/\xs.length+zs.length<=sizeLine/\∀p,H p=none->Q (.ref p) (upd H p (.lst (xs++zs)))
def Fi:cI X (binaryOp .Add) IF:=by
 intro pins s σ H x y v u Q I rx ry h;obtain⟨l,b,xs,zs,rfl,rfl,hH,hB,hz,q⟩:=h;cases rx;cases ry;obtain⟨z,its,n,r,hl,e⟩:=I.pe hH;obtain⟨z2,its2,n2,r2,hl2,e2⟩:=I.pe hB;refine PySem.P.add_list e e2 ?_ (by rw[Kq,Kq];lia)
 have ea:its.toArray++its2.toArray=(its++its2).toArray:=by simp
 rw[ea];exact⟨.ref _,_,I.Ew (t':=s.toks) (r.append r2) (by rw[Kj];lia),rfl,q _ I.fresh⟩
def Gy:R2:=λx y H Q=>∃l k xs,x=.ref l/\y=.int k/\H l=some (.lst xs)/\-(2^63)<=k/\k<2^63/\xs.length*k.toNat<=sizeLine /\
 ∀p,H p=none->Q (.ref p) (upd H p (.lst (List.replicate k.toNat xs).flatten))
def len_rep(xs:List α)(k:Nat):(List.replicate k xs).flatten.length=k*xs.length:=by
 induction k with
 |zero=>simp
 |succ k ih=>rw[Lc,LU,Kj,ih,O5,Nat.add_comm]
def Em:cI X (binaryOp .Mult) Gy:=by
 intro pins s σ H x y v u Q I rx ry h;obtain⟨l,k,xs,rfl,rfl,hH,h1,h2,hz,q⟩:=h;cases rx;obtain⟨t,rfl⟩:=ry;obtain⟨z,its,n,r,hl,e⟩:=I.pe hH;have hlen:its.toArray.size*k.toNat<=sizeLine:=by rw[Kq,<- hl];exact hz
 have hcap:¬ its.toArray.size*k.toNat >(2^63-1) / 8:=by
  have:(sizeLine:Nat)<=(2^63-1) / 8:=by decide
  lia
 have hfit:¬ (!Builtin.List.listFitsIndex k)=true:=by
  rw[Pa h1 h2];exact Ky
 have hlong:¬ Builtin.List.listTooLong (its.toArray.size*k.toNat)=true:=by
  rw[xY hlen];exact Ky
 have hnew:List.foldl (λx1 x2=>x1++x2) #[] (List.replicate (if its.toArray.isEmpty=true then 0 else k.toNat) its.toArray)=(List.replicate k.toNat its).flatten.toArray:=by
  have f0:∀m:Nat,List.foldl (λx1 x2=>x1++x2) #[] (List.replicate m its.toArray)=(List.replicate m its).flatten.toArray:=λm=>by
   have:=foldl_rep its m [];rw[L8] at this;exact this
  rw[f0]
  cases its with
  |nil=>simp
  |cons a r'=>rw[Ko (by simp)]
 refine Oy (T:="list") (U:="int") (by decide) ⟨_,e,rfl⟩ (λs'=>Ox s' k t) noFill_list_mul F.fills_int_mul F.slot_int_rmul repeat_list F.slot_int_index.lookup
  (MI F.slot_int_rmul (Ox s k t) F.entry_int_rmul (F.args_int_rmul_2 _ _) (int___rmul___int_list k t l its.toArray n)
   ⟨e,rfl,⟨_,e,rfl⟩,MI F.slot_list_mul ⟨_,e,rfl⟩ F.entry_list_mul (F.args_list_mul_2 _ _) (AutoListH.list___mul___list_int_3 l its.toArray n k t hfit hcap hlong) ⟨e,?_⟩⟩)
 rw[hnew];exact⟨.ref _,_,I.Ew (t':=s.toks) (r.rep k.toNat) (by rw[len_rep,Nat.mul_comm];exact hz),rfl,q _ I.fresh⟩
end
section
variable {κ:Type} [DecidableEq κ]
def b_(kvs:List (κ×V))(k:κ):Option V:=(kvs.find? λkv=>decide (kv.1=k)).map (·.2)
def putK(kvs:List (κ×V))(k:κ)(v:V):List (κ×V):=
 if (kvs.any λkv=>decide (kv.1=k))=true then kvs.map (λkv=>if kv.1=k then (kv.1,v) else kv) else kvs++[(k,v)]
def bU{p:κ×V}{r:List (κ×V)}{k:κ}(e:p.1=k):b_ (p::r) k=some p.2:=by simp[b_,Mf,e]
def bI{p:κ×V}{r:List (κ×V)}{k:κ}(e:¬ p.1=k):b_ (p::r) k=b_ r k:=by simp[b_,Mf,e]
theorem eL(k:κ):∀kvs:List (κ×V),(kvs.any λkv=>decide (kv.1=k))=(b_ kvs k).isSome
 |[]=>rfl
 |p::r=>by
  rw[Nl];by_cases e:p.1=k
  ·simp only[bU e,KY e,Bool.true_or,Option.isSome_some]
  ·rw[bI e,KJ e,Bool.false_or];exact eL k r
theorem pX(k j:κ)(y:V):∀kvs:List (κ×V),b_ (kvs.map λkv=>if kv.1=k then (kv.1,y) else kv) j=(b_ kvs j).map λx=>if j=k then y else x
 |[]=>rfl
 |p::r=>by
  have ih:=pX k j y r;rw[KA];by_cases h:p.1=k
  ·rw[Ku h];by_cases e:p.1=j
   ·rw[bU (p:=(p.1,y)) e,bU e,Nt,Ku (e.symm.trans h)]
   ·rw[bI (p:=(p.1,y)) e,bI e,ih]
  ·rw[Ko h];by_cases e:p.1=j
   ·rw[bU (p:=p) e,bU e,Nt,Ko (λz=>h (e.trans z))]
   ·rw[bI (p:=p) e,bI e,ih]
theorem lZ(k j:κ)(y:V):∀kvs:List (κ×V),b_ kvs k=none->b_ (kvs++[(k,y)]) j=if j=k then some y else b_ kvs j
 |[],_=>by
  by_cases e:k=j
  ·rw[Ku e.symm];exact bU (p:=(k,y)) e
  ·rw[Ko (λz=>e z.symm)];exact bI (p:=(k,y)) e
 |p::r,hn=>by
  rw[LP];have hk:¬ p.1=k:=λz=>by rw[bU z] at hn;cases hn
  rw[bI hk] at hn;have ih:=lZ k j y r hn;by_cases e:p.1=j
  ·rw[bU e,bU e,Ko (λz=>hk (e.trans z))]
  ·rw[bI e,bI e,ih]
def oG(kvs:List (κ×V))(k j:κ)(y:V):b_ (putK kvs k y) j=if j=k then some y else b_ kvs j:=by
 unfold putK;by_cases a:(kvs.any λkv=>decide (kv.1=k))=true
 ·rw[Ku a,pX];rw[eL] at a;by_cases e:j=k
  ·obtain⟨x,hx⟩:=Ny.mp a;rw[Ku e,e,hx,Nt,Ku rfl]
  ·rw[Ko e]
   cases b_ kvs j with
   |none=>rfl
   |some x=>rw[Nt,Ko e]
 ·rw[Ko a];refine lZ k j y kvs ?_;rw[eL] at a
  cases q:b_ kvs k with
  |none=>rfl
  |some x=>rw[q] at a;exact (a rfl).elim
def fR(kvs:List (κ×V))(k:κ)(v:V):(putK kvs k v).length<=kvs.length+1:=by
 unfold putK;split
 ·rw[Ki];lia
 ·rw[Kj,K2,Lo];lia
def pJ{kvs:List (κ×V)}{k:κ}(v:V)(h:b_ kvs k=none):putK kvs k v=kvs++[(k,v)]:=by
 unfold putK;rw[eL,h];exact Ko (by decide)
def jo.eK{u:Option Value}(r:jo o u):o.isSome=u.isSome:=by
 cases o with
 |none=>cases u with
  |none=>rfl
  |some _=>exact (show False from r).elim
 |some _=>cases u with
  |none=>exact (show False from r).elim
  |some _=>rfl
def KV.val{kvs:List (κ×V)}{vs:List (κ×Value)}(r:KV kvs vs)(k:κ):jo (b_ kvs k) (valueAt vs k):=by
 unfold KV at r
 induction r with
 |nil=>exact True.intro
 |@cons p q ps qs h t ih =>
  obtain⟨h1,h2⟩:=h;by_cases e:p.1=k
  ·have e':q.1=k:=h1.symm.trans e;have b:valueAt (q::qs) k=some q.2:=by simp[valueAt,Mf,e']
   rw[bU e,b];exact h2
  ·have e':¬ q.1=k:=λz=>e (h1.trans z);have b:valueAt (q::qs) k=valueAt qs k:=by simp[valueAt,Mf,e']
   rw[bI e,b];exact ih
def KV.any{kvs:List (κ×V)}{vs:List (κ×Value)}(r:KV kvs vs)(k:κ):(kvs.any λkv=>decide (kv.1=k))=vs.any λkv=>decide (kv.1=k):=by
 unfold KV at r
 induction r with
 |nil=>rfl
 |cons h t ih=>rw[Nl,Nl,ih,h.1]
def KV.FR{kvs:List (κ×V)}{vs:List (κ×Value)}(r:KV kvs vs)(k:κ)(ry:RelV y u):
  KV (kvs.map λkv=>if kv.1=k then (kv.1,y) else kv) (vs.map λkv=>if kv.1=k then (kv.1,u) else kv):=by
 unfold KV at r ⊢
 induction r with
 |nil=>exact .nil
 |@cons p q ps qs h t ih =>
  rw[KA,KA];refine .cons ?_ ih;obtain⟨h1,h2⟩:=h;by_cases e:p.1=k
  ·rw[Ku e,Ku (h1.symm.trans e)];exact⟨h1,ry⟩
  ·rw[Ko e,Ko (λz=>e (h1.trans z))];exact⟨h1,h2⟩
def KV.put{kvs:List (κ×V)}{vs:List (κ×Value)}(r:KV kvs vs)(k:κ)(ry:RelV y u):KV (putK kvs k y) (stored vs k u):=by
 unfold putK stored;rw[r.any k];by_cases e:(vs.any λkv=>decide (kv.1=k))=true
 ·rw[Ku e,Ku e];exact r.FR k ry
 ·rw[Ko e,Ko e];exact Paired.snoc r ⟨rfl,ry⟩
def KV.length{kvs:List (κ×V)}{vs:List (κ×Value)}(r:KV kvs vs):kvs.length=vs.length:=Paired.length r
end
def lP{k:Key}(r:RelV (kV k) u):(bQ P w).is k u=true:=by
 cases k with
 |inl i=>obtain⟨t,e⟩:=(show ∃t,u=Value.int i t from r);subst e;exact pj P w i t
 |inr x=>obtain⟨t,e⟩:=(show ∃t,u=Value.str x t from r);subst e;exact qm P w x t
theorem lR:∀{ks:List Key} {us:List Value},Vals (ks.map kV) us->ItemsAre (bQ P w) ks us
 |[],_,r=>by rw[MS] at r;cases r;exact .nil
 |k::ks,_,r=>by
  rw[KA] at r
  cases r with
  |cons h t=>exact .cons (lP h) (lR t)
abbrev KT(H:Hp):List (List Key×V)->List (List Key×Addr×Value)->Prop:=Paired λp q=>p.1=q.1/\H q.2.1=some (.tup (p.1.map kV))/\RelV p.2 q.2.2
def KT.val(r:KT H kvs xs)(k:List Key):jo (b_ kvs k) ((atKey xs k).map (·.2)):=by
 induction r with
 |nil=>exact True.intro
 |@cons p q ps qs h t ih =>
  obtain⟨h1,_,h2⟩:=h;by_cases e:p.1=k
  ·have e':q.1=k:=h1.symm.trans e;have b:atKey (q::qs) k=some q.2:=by simp[atKey,Mf,e']
   rw[bU e,b];exact h2
  ·have e':¬ q.1=k:=λz=>e (h1.trans z);have b:atKey (q::qs) k=atKey qs k:=by simp[atKey,Mf,e']
   rw[bI e,b];exact ih
def KT.FR(r:KT H kvs xs)(k:List Key)(ry:RelV y u):
  KT H (kvs.map λkv=>if kv.1=k then (kv.1,y) else kv) (xs.map (putAt k u)):=by
 induction r with
 |nil=>exact .nil
 |@cons p q ps qs h t ih =>
  rw[KA,KA];refine .cons ?_ ih;obtain⟨h1,h2,h3⟩:=h;unfold putAt;by_cases e:p.1=k
  ·rw[Ku e,Ku (h1.symm.trans e)];exact⟨h1,h2,ry⟩
  ·rw[Ko e,Ko (λz=>e (h1.trans z))];exact⟨h1,h2,h3⟩
def KT.put(r:KT H kvs xs)(k:List Key){b:Addr}(hb:H b=some (.tup (k.map kV)))(ry:RelV y u):
  KT H (putK kvs k y) (storedH xs k b u):=by
 have e:(kvs.any λkv=>decide (kv.1=k))=(atKey xs k).isSome:=by
  rw[eL,(r.val k).eK,Ot]
 unfold putK storedH;rw[e];by_cases q:(atKey xs k).isSome=true
 ·rw[Ku q,Ku q];exact r.FR k ry
 ·rw[Ko q,Ko q];exact Paired.snoc r ⟨rfl,hb,ry⟩
def KT.keeps(r:KT H kvs xs)(ht:∀b ys,H b=some (.tup ys)->H' b=some (.tup ys)):KT H' kvs xs:=
 Paired.yQ r λ_ _ z=>⟨z.1,ht _ _ z.2.1,z.2.2⟩
section
variable {P:Program} {w:World} {H:Hp} {h:Heap} {a:Addr}
def CG{u:HO}(ok:dB P w H h)(e:Rd H a u):aN P w H h a u:=e.ok ok
def oK{kvs:List (Key×V)}(ok:dB P w H h)(e:Rd H a (.dK kvs)):kvs.length<=sizeLine/\(a == sysModules)=false/\∃vs,KV kvs vs/\h.DictOf (bQ P w) a vs:=
 show aN P w H h a (.dK kvs) from CG ok e
def Gg{kvs:List (Key×V)}(ok:dB P w H h)(e:H a=some (.dK kvs)):kvs.length<=sizeLine/\(a == sysModules)=false/\∃vs,KV kvs vs/\h.DictOf (bQ P w) a vs:=oK ok (.inl e)
def jK{ks:List Key}(ok:dB P w H h)(e:H a=some (.tup (ks.map kV))):(tupleKind (bQ P w)).is h ks a:=by
 obtain⟨_,its,r,o,h1,h2,n,h3,_⟩:=(show aN P w H h a (.tup (ks.map kV)) from ok a _ e);exact⟨o,its.toArray,n,h1,h2,h3,by simpa using lR r⟩
def pQ(ok:dB P w H h)(e:Rd H a (.dT kvs)):kvs.length<=sizeLine/\(a == sysModules)=false /\
  ∃xs,KT H kvs xs/\h.DictOfH (tupleKind (bQ P w)) a xs:=by
 obtain⟨z,y,xs,r,o,es,ep,h1,h2,h3,h4,h5⟩:=(show aN P w H h a (.dT kvs) from CG ok e);refine⟨z,y,xs,r,o,es,ep,h1,h2,h3,h4,λx hx=>?_,h5⟩;have all:∀{l:List (List Key×V)} {m:List (List Key×Addr×Value)},KT H l m->∀x∈m,(tupleKind (bQ P w)).is h x.1 x.2.1:=by
  intro l m q
  induction q with
  |nil=>intro x hx;exact nomatch hx
  |@cons p q ps qs hq t ih =>
   intro x hx;rcases Kv.mp hx with e|hx
   ·subst e;exact jK ok (by rw[<- hq.1];exact hq.2.1)
   ·exact ih x hx
 exact all r x hx
def Hr(ok:dB P w H h)(e:H a=some (.dT kvs)):kvs.length<=sizeLine/\(a == sysModules)=false /\
  ∃xs,KT H kvs xs/\h.DictOfH (tupleKind (bQ P w)) a xs:=pQ ok (.inl e)
end
def gw(H:Hp)(a:Addr)(y:V)(r:Option V):Prop:=
 (∃kvs k,Rd H a (.dK kvs)/\y=kV k/\r=b_ kvs k)\/∃kvs k b,Rd H a (.dT kvs)/\y=.ref b/\H b=some (.tup (k.map kV))/\r=b_ kvs k
def vW(H:Hp)(a:Addr)(y v:V)(H':Hp):Prop:=
 (∃kvs k,H a=some (.dK kvs)/\y=kV k/\kvs.length<sizeLine/\H'=upd H a (.dK (putK kvs k v))) \/
 ∃kvs k b,H a=some (.dT kvs)/\y=.ref b/\H b=some (.tup (k.map kV))/\kvs.length<sizeLine/\H'=upd H a (.dT (putK kvs k v))
def gw.k{kvs:List (Key×V)}{k:Key}(e:H a=some (.dK kvs)):gw H a (kV k) (b_ kvs k):=.inl ⟨kvs,k,.inl e,rfl,rfl⟩
def vW.k{kvs:List (Key×V)}{k:Key}{v:V}(e:H a=some (.dK kvs))(hl:kvs.length<sizeLine):vW H a (kV k) v (upd H a (.dK (putK kvs k v))):=.inl ⟨kvs,k,e,rfl,hl,rfl⟩
section
variable {X:Cx} {pins:List (Addr×Obj)} {σ:St} {H:Hp} {s:Shared} {a:Addr} {y v:V} {u r:Value} {o:Option V} {A:Around} {E:Value->Shared->Prop}
def Inv.big(I:Inv X pins σ H s):sysModules<s.heap.objs.size:=by
 have h:mainGlobals<s.heap.objs.size:=(I.mod.glob.keeps I.bk).lt;exact Nz (by decide) h
def uI(hu:A.units+1<cLine)(I:Inv X pins σ H s)(g:gw H a y (some v))(ry:RelV y u)(h:∀w' s',Inv X pins σ H s'->RelV v w'->Q w' s'):
  wpAny (model X.prog X.w) A (getItem (.ref a) u) Q E s:=by
 rcases g with ⟨kvs,k,e,ey,l⟩|⟨kvs,k,b,e,ey,eb,l⟩
 ·subst ey;obtain⟨z,hd,vs,rel,dd⟩:=oK I.aL e;obtain⟨w',hw,rw'⟩:=jo.some_of (v:=v) (o:=valueAt vs k) (by rw[l];exact rel.val k)
  exact wpAny_getItem_of (lP ry) dd.mapOf hw (h w' _ (I.tok _) rw')
 ·subst ey
  cases (show u=Value.ref b from ry)
  obtain⟨z,hd,xs,rel,dd⟩:=pQ I.aL e;obtain⟨w',hw,rw'⟩:=jo.some_of (v:=v) (o:=(atKey xs k).map (·.2)) (by rw[l];exact rel.val k)
  obtain⟨p,hp,hp2⟩:=K8.mp hw;refine wpAny_getItem_heap (N0 hu) (jK I.aL eb) dd hp ?_;rw[hp2];exact h w' _ (I.tok _) rw'
def Jq(hu:A.units+1<cLine)(I:Inv X pins σ H s)(g:gw H a y o)(ry:RelV y u)(h:∀s',Inv X pins σ H s'->Q (.bool o.isSome) s'):
  wpAny (model X.prog X.w) A (compareOp .In u (.ref a)) Q E s:=by
 rcases g with ⟨kvs,k,e,ey,l⟩|⟨kvs,k,b,e,ey,eb,l⟩
 ·subst ey;obtain⟨z,hd,vs,rel,dd⟩:=oK I.aL e;refine wpAny_in_of (lP ry) hd dd.mapOf ?_;rw[<- (rel.val k).eK,<- l];exact h _ (I.tok _)
 ·subst ey
  cases (show u=Value.ref b from ry)
  obtain⟨z,hd,xs,rel,dd⟩:=pQ I.aL e;refine wpAny_in_heap (N0 hu) (jK I.aL eb) hd dd ?_;have q:=(rel.val k).eK;rw[Ot] at q;rw[<- q,<- l];exact h _ (I.tok _)
def B6(hu:A.units+1<cLine)(I:Inv X pins σ H s)(g:gw H a y o)(ry:RelV y u)(h:∀s',Inv X pins σ H s'->Q (.bool (!o.isSome)) s'):
  wpAny (model X.prog X.w) A (compareOp .NotIn u (.ref a)) Q E s:=by
 rcases g with ⟨kvs,k,e,ey,l⟩|⟨kvs,k,b,e,ey,eb,l⟩
 ·subst ey;obtain⟨z,hd,vs,rel,dd⟩:=oK I.aL e;refine wpAny_notIn_of (lP ry) hd dd.mapOf ?_;rw[<- (rel.val k).eK,<- l];exact h _ (I.tok _)
 ·subst ey
  cases (show u=Value.ref b from ry)
  obtain⟨z,hd,xs,rel,dd⟩:=pQ I.aL e;refine wpAny_notIn_heap (N0 hu) (jK I.aL eb) hd dd ?_;have q:=(rel.val k).eK;rw[Ot] at q;rw[<- q,<- l];exact h _ (I.tok _)
def uy{h':Heap}{t':Nat}{ob:HO}(I:Inv X pins σ H s)(mu:Hc (H a))(hs:Heap.SameBut a s.heap h')(he:∃q,h'.get? a=some q)(new:aN X.prog X.w (upd H a ob) h' a ob):
  Inv X pins σ (upd H a ob) {s with heap:=h',toks:=t'}:=
 I.write (x:=a) (e:=a) mu (.inl rfl) (λb q hb z=>(hs.2 b hb).trans z) he new
def xc{h':Heap}{kvs:List (Key×V)}{vs:List (Key×Value)}(z:kvs.length<=sizeLine)(hd:(a == sysModules)=false)(rel:KV kvs vs)(dd:h'.DictOf (bQ P w) a vs):
  aN P w H' h' a (.dK kvs):=⟨z,hd,vs,rel,dd⟩
def vK{Q:Unit->Shared->Prop}(hu:A.units+1<cLine)(I:Inv X pins σ H s)(g:vW H a y v H')(ry:RelV y u)(rv:RelV v r)(h:∀s',Inv X pins σ H' s'->Q () s'):
  wpAny (model X.prog X.w) A (setItem (.ref a) u r) Q E s:=by
 rcases g with ⟨kvs,k,e,ey,l,eH⟩|⟨kvs,k,b,e,ey,eb,l,eH⟩
 ·subst ey eH;obtain⟨z,hd,vs,rel,dd⟩:=Gg I.aL e;have hz:vs.length<=sizeLine:=by rw[<- rel.length];exact z
  have hl:(putK kvs k v).length<=sizeLine:=by have:=fR kvs k v;lia
  refine wpAny_setItem_pairs (hsz:=hz) (lP ry) dd λh' dd' hs=>h _ ?_;have he:∃q,h'.get? a=some q:=let ⟨q,_,_,hq,_⟩:=dd';⟨q,hq⟩
  exact uy I (by rw[e];exact True.intro) hs he (xc hl hd (rel.put k rv) dd')
 ·subst ey eH
  cases (show u=Value.ref b from ry)
  obtain⟨z,hd,xs,rel,dd⟩:=Hr I.aL e;have hz:xs.length<=sizeLine:=by rw[<- Paired.length rel];exact z
  have hl:(putK kvs k v).length<=sizeLine:=by have:=fR kvs k v;lia
  refine wpAny_setItem_heap (hsz:=hz) (N0 hu) (jK I.aL eb) dd λh' dd' hs=>h _ ?_;obtain⟨q,es,ep,hq,h2,h3,h4,_,h5⟩:=dd';refine uy I (by rw[e];exact True.intro) hs ⟨q,hq⟩ ⟨hl,hd,_,(rel.put k eb rv).keeps λc ys ec=>?_,q,es,ep,hq,h2,h3,h4,h5⟩
  rw[ae (Gj ec e (λz=>nomatch z))];exact ec
end
def zI(i:Expr):Prop:=∀ov iv,subscripted i false ov iv=operate [ov,iv] (getItem ov iv)
def t_{prog:Program}{A:Around}{E:Value->Shared->Prop}{s:Shared}{env:Env}{value slice:Expr}{pos:Pos}{T id:String}
  (hl:typeLookup (.type T) "__getitem__"=pure (some (.builtin id))) (hs:zI slice)
  (h:wpAny (model prog w) A (eval value env) (λo s₁=>wpAny (model prog w) A (eval slice env) (λi s₂=>s₂.TypeIs o T/\wpAny (model prog w) A (getItem o i) Q E s₂) E s₁) E s) :
  wpAny (model prog w) A (eval (.Subscript value slice pos) env) Q E s:=by
 refine Subscript_ (Lh h (λo s₁ h₁=>Lh h₁ (λi s₂ h₂=>?_) λ_ _ x=>x) λ_ _ x=>x);obtain⟨hT,h₂⟩:=h₂;unfold subscriptTail;refine Kh ?_;rw[getitemInPython_of_ne hT.not_modules];refine Kh (wpAny_specialOf hT hl ?_);have fin:wpAny (model prog w) A (subscripted slice false o i) (λr s₃=>wpAny (model prog w) A (letTemporaryGo value o r >>= λ_=>pure r) Q E s₃) E s₂:=by
  rw[hs o i];exact wpAny_operating (Lh h₂ (λr s₃ h₃=>Kh (wpAny_letTemporaryGo (Kt h₃))) λ_ _ x=>x)
 first
  |exact Kt (Kh fin)
  |exact Kh (Kt (Kh fin))
  |exact Kh fin
def pO{X:Cx}{s:Shared}(I:Inv X pins σ H s)(g:gw H a y o):s.TypeIs (.ref a) "dict":=by
 rcases g with ⟨kvs,k,e,_,_⟩|⟨kvs,k,b,e,_,_,_⟩
 ·obtain⟨_,_,vs,_,dd⟩:=oK I.aL e;exact dd.typeIs
 ·obtain⟨_,_,xs,_,dd⟩:=pQ I.aL e;exact dd.typeIs
def qB(td ty:TE):TE:=λσ H Q=>td σ H λx H1=>ty σ H1 λy H2=>∃a v,x=.ref a/\gw H2 a y (some v)/\Q v H2
def pT(td ty tv:TE):TS:=λD σ H=>tv σ H λv H1=>td σ H1 λx H2=>ty σ H2 λy H3=>∃a H4,x=.ref a/\vW H3 a y v H4/\D.nx σ H4
section
variable {X:Cx} {o i e value:Expr} {pos pos' tpos:Pos} {td ty tv:TE}
def BK(hu:X.A.units+1<cLine)(ho:PE X o td)(hi:PE X i ty)(hs:zI i):PE X (.Subscript o i pos) (qB td ty):=by
 intro pins s σ H Q I h;refine t_ PySem.F.slot_dict_getitem.lookup hs (bH (ho pins s σ H _ I h) λu s1 ⟨x,H1,I1,rx,q1⟩=>bH (hi pins s1 σ H1 _ I1 q1) λiv s2 hq55=>?_);obtain⟨y,H2,I2,ry,a,v,ex,g,q2⟩:=hq55;subst ex;obtain rfl:u=Value.ref a:=rx;exact⟨pO I2 g,uI hu I2 g ry λw' s3 I3 rw'=>⟨v,H2,I3,rw',q2⟩⟩
def Au(hu:X.A.units+1<cLine)(ho:PE X o td)(hi:PE X i ty)(hv:PE X value tv)(hs:swapsWith value (some (.Subscript o i pos')) pos.line X.env=pure false):
  PS X (.Assign [.Subscript o i pos'] value pos) (pT td ty tv):=by
 intro pins s σ H D I h;refine wpAny_Assign_Subscript (bH (hv pins s σ H _ I h) λr s1 ⟨v,H1,I1,rv,q1⟩=>bH (ho pins s1 σ H1 _ I1 q1) λu s2 ⟨x,H2,I2,rx,q2⟩=>bH (hi pins s2 σ H2 _ I2 q2) λiv s3 hq58=>?_) hs;obtain⟨y,H3,I3,ry,a,H4,ex,g,q3⟩:=hq58;subst ex;obtain rfl:u=Value.ref a:=rx;exact vK hu I3 g ry rv λs4 I4=>⟨σ,H4,I4,q3⟩
end
def xl(h:Heap)(hb:sysModules<h.objs.size):aN P w H (h.push {cls:=.type "dict",data:=.dict #[]}) h.objs.size (.dK []):=
 ⟨K4 _,Lb.mpr (Lk (KH hb)),[],.nil,Heap.DictOf.new h⟩
def kN:TE:=λ_ H Q=>∀p,H p=none->Q (.ref p) (upd H p (.dK []))
section
variable {X:Cx} {pos:Pos}
def xE:PE X (.Dict [] [] pos) kN:=λpins s σ H Q I h =>
 wpAny_Dict_empty ⟨.ref s.heap.objs.size,_,I.laid (a:=s.heap.objs.size) (o:=.dK []) (t':=s.toks) (λ_ _ q=>Kk _ q) (Kp _) (xl s.heap I.big),rfl,h _ (I.aL.fresh (Kp _))⟩
end
def fV(kvs more:List (Key×V)):List (Key×V):=more.foldl (λacc kv=>putK acc kv.1 kv.2) kvs
def KV.merge:∀{more:List (Key×V)} {rs:List (Key×Value)} {kvs:List (Key×V)} {vs:List (Key×Value)},KV more rs->KV kvs vs->KV (fV kvs more) (merged vs rs):=by
 intro more rs kvs vs r;unfold KV at r
 induction r generalizing kvs vs with
 |nil=>intro q;exact q
 |@cons p q ps qs h t ih =>
  intro r0;have e:KV (putK kvs p.1 p.2) (stored vs q.1 q.2):=by
   have:=r0.put p.1 h.2;rw[<- h.1];exact this
  exact ih e
theorem gB:∀(more kvs:List (Key×V)),(fV kvs more).length<=kvs.length+more.length
 |[],kvs=>by show kvs.length<=kvs.length+0;lia
 |p::r,kvs=>by
  have h1:=gB r (putK kvs p.1 p.2);have h2:=fR kvs p.1 p.2;show (fV (putK kvs p.1 p.2) r).length<=_;rw[K2];lia
end L2
namespace Att
open PySem PySem.W PySem.Calls PyProof.Rows
def jt{P:Params}{h:Heap}:∀(ns:List Int) (vs:List Value),WellAll P h vs (ns.map WData.int)->IntsAre vs ns:=by
 intro ns
 induction ns with
 |nil =>
  intro vs w;rw[List.map_nil] at w;cases w;exact .nil
 |cons n ns ih =>
  intro vs w;rw[List.map_cons] at w
  cases w with
  |cons a b =>
   cases a;exact .cons _ _ (ih _ b)
def vZ{l:OpenLaw}{n:Nat}(hn:l.most=some n){P:Params}{h:Heap}{args:List WData}{vals:List Value}
  (hpre:l.row.toRowW.claim.pre args=true) (hwl:WellAll P h vals args) :
  ∃a vs ns,vals=[Value.ref a]/\args=[WData.list (ns.map WData.int)]/\h.get? a=some {cls:=.type "list",data:=.seq vs.toArray}/\IntsAre vs ns/\ns.length<=n:=by
 have hsh:WShape.hasAll [] args [.list .int]=true:=(pre_splitW hpre).1;have hc:l.pre.holds [] {args:=args}=true:=(pre_splitW hpre).2;obtain⟨d,r,rfl,h1,h2⟩:=hasAllW_cons hsh;obtain rfl:=hasAllW_nil h2;obtain⟨xs,rfl,h3⟩:=hasW_list h1;obtain⟨ns,rfl⟩:=items_int h3;have hlen:ns.length<=n:=by
  unfold OpenLaw.pre at hc;have h4:(WTm.not (.lt (.lit (.int (n:Int))) (.len (.arg 0)))).holds [] {args:=[.list (ns.map .int)]}=true:=by
   have h4:=(holds_andW hc).1;rw[hn] at h4;exact h4
  have h5:=condW_of h4 (w_not (w_lt w_lit (w_len_list (w_arg rfl))));rw[List.length_map] at h5;refine Nat.le_of_not_lt λq=>?_;have q':(n:Int)<((ns.length:Nat):Int):=by lia
  first
   | (rw[decide_eq_true q'] at h5;exact absurd h5 (by decide))
   | (simp at h5;lia)
 cases hwl with
 |cons w1 w2 =>
  cases w2
  cases w1 with
  |list ho hall=>exact⟨_,_,ns,rfl,rfl,ho,jt ns _ hall,hlen⟩
def vJ(l:OpenLaw)(args:List WData):l.row.toRowW.claim.post args (.bool true) args=true:=
 postW_of (r:=l.row.toRowW) (X:=(true == true))
  (show WShape.has [] (.bool true) .bool=true by first|rfl|decide|simp[WShape.has,WShape.arms,WShape.armsAll])
  (show (WTm.eq .res (.lit (.bool true))).value [] {args:=args,res:=some (.bool true),after:=args}=some (.bool (true == true)) from w_eq_bool (w_res rfl) w_lit) rfl
def oO{l:OpenLaw}{n:Nat}{q:Program}{loose:List Str}{XP:(Str->Option Value)->Heap->Prop}{YP:World->Heap->Prop}{d:DefRec}
  (hn:l.most=some n) (hdf:d.params.defaults=[])
  (call:∀(w:World) (s₀ s₁:Shared) (mg mb:Str->Option Value) (fa:Addr) (o:Obj) (pm cd doc:Value) (a:Addr) (vs:List Value) (ns:List Int),
   Ground q loose [] XP w s₀ mg mb s₁.heap->YP w s₁.heap ->
   s₁.heap.get? fa=some o->o.data=.func (docDef d.name d.params d.body d.scope pm cd doc)->s₁.heap.CodeRec cd d.name->mg d.name=some (.ref fa) ->
   s₁.heap.get? a=some {cls:=.type "list",data:=.seq vs.toArray}->IntsAre vs ns->ns.length<=n->s₁.gens=#[] ->
   codeAny (model l.prog w) callerA (.call (.ref fa) ⟨[.ref a],[]⟩) (λr s'=>r=.ok (.ret (.bool true))/\OldK s₁.heap s'.heap/\s'.os=s₁.os/\AllBare s'.gens) s₁) :
  WalkO q loose XP YP l.row.toRowW d [] (λf vs=>PySem.call f vs):=by
 intro w s₀ s₁ mg mb G Y fa o pm cd doc dV kV ho hd fJ hD hmg hg args vals as hpre hlay hrd hwl hlo;obtain rfl:dV=.none:=Dflts.none hD hdf;obtain rfl:kV=.none:=Dflts.noKw hD;obtain⟨a,vs,ns,rfl,rfl,hobj,hints,hlen⟩:=vZ hn hpre hwl;refine enter_call (codeAny_mono (call w s₀ s₁ mg mb fa o pm cd doc a vs ns G Y ho (fd_plain hd) fJ hmg hobj hints hlen hg) λr s' hq=>?_);obtain⟨rfl,h2,h3,h4⟩:=hq;exact⟨.inl ⟨.bool true,.bool true,[],rfl,λ_=>rfl,.bool true,vJ l _,λ_=>⟨List.Pairwise.nil,λ_ hm=>(nomatch hm)⟩⟩,h2,h3,h4⟩
end Att
namespace L2
open PySem PySem.Spec PyProof.Rows
variable{P prog q:Program}{K:W.Frag}{N ON loose own:List Str}{mb mg:Str->Option Value}{base h h':Heap}{b elt iter tg:Expr}{o:HO}{t:String}{w:World}{CX:oC}{C S a e f it p:Addr}{fd:FuncData}{name qual x:Str}{sp:Sp}{ns:List Int}{To d od:Option Addr}{X:Cx}{st:Stmt}{osc scope:Scope}{env:Env}{cells:List (Str×Addr)}{α:Type}{M:Model}{E Q:Value->Shared->Prop}{es ifs:List Expr}{g:TG}{tc:TT}{te tl:TE}{pins:List (Addr×Obj)}{σ:St}{H H':Hp}{RR:Value->Addr->Result->Shared->Prop}{i j:Nat}{r:List V->Hp->VK->Prop}{ta:TA}{ws xs:List V}{items:Array Value}{ex fp:List Addr}{lo:Int}{D:Ends}{cls:Value}{oe:Obj}{its its2:List Value}
theorem lX:∀{vs:List Value} {ns:List Int},IntsAre vs ns->Vals (ns.map V.int) vs
 |_,_,.nil=>.nil
 |_,_,.cons n t h=>.cons ⟨t,rfl⟩ (lX h)
structure i6 (q:Program) (K:W.Frag):Prop where
 nt:W.noTabs K=true
 nd:((bO K).map (·.2.1)).Nodup
 fd:∀x∈dC,W.tabIn K x=none\/((recsOf q).find? (λe=>e.name == x)).isSome=true
def i6.at{mean:ExcName->Option Value}(L:i6 q K)(T:Top q loose mean mg mb h)(X:K.In h):∀t∈bO K,W.CodeHd h t.1 t.2.1/\h.get? t.2.1=some (W.tabObj #[]):=λt ht=>by
 unfold bO at ht;obtain⟨x,hx,e⟩:=Nx.mp ht;obtain⟨p,e1,e2⟩:=K8.mp e;obtain⟨c,Pt⟩:=p;subst e2;rcases L.fd x hx with z|z
 ·rw[z] at e1;cases e1
 ·obtain⟨d,hd⟩:=Ny.mp z;exact W.tab_of T X hd e1
def n_:List (Addr×Addr×Str)->Addr->Option HO
 |[],_=>none
 |t::r,b=>if b=t.2.1 then some (.we #[.str t.2.2 0]) else n_ r b
theorem gv{b:Addr}:∀{l:List (Addr×Addr×Str)},n_ l b=some o->∃t∈l,b=t.2.1/\o=.we #[.str t.2.2 0]
 |t::r,e=>by
  unfold n_ at e;by_cases z:b=t.2.1
  ·rw[Ku z] at e;cases e;exact⟨t,.head _,z,rfl⟩
  ·rw[Ko z] at e;obtain⟨u,hu,q⟩:=gv e;exact⟨u,.tail _ hu,q⟩
theorem qz{t:Addr×Addr×Str}:∀{l:List (Addr×Addr×Str)},(l.map (·.2.1)).Nodup->t∈l->n_ l t.2.1=some (.we #[.str t.2.2 0])
 |u::r,nd,m=>by
  obtain⟨n1,n2⟩:=LV.mp nd;unfold n_;rcases Kv.mp m with rfl|m
  ·rw[Ku rfl]
  ·rw[Ko λz=>n1 (Ll.mpr ⟨t,m,z⟩)];exact qz n2 m
def wJ{k:Nat}{fa:Addr}{s₁:Shared}{vs:List Value}
  (KX:K.In s₁.heap) (hns:s₁.heap.Ns mainGlobals mg) (hb:s₁.heap.Ns builtinsNs mb) (hbb:∀x:Str,x≠"__name__"->mb x=bootBuiltins x) (hlim:s₁.heap.NoLimit) (hbm:Ec mg s₁.heap)
  (hT:∀t∈bO K,W.CodeHd s₁.heap t.1 t.2.1/\s₁.heap.get? t.2.1=some (W.tabObj #[])) (L:i6 q K) (hg:s₁.gens=#[])
  (ha:s₁.heap.get? a=some {cls:=.type "list",data:=.seq vs.toArray}) (hi:IntsAre vs ns) (hl:ns.length<=sizeLine) (hr:bt k callerA)
  (F:∀base:Heap,K.In base->base.Ns mainGlobals mg->dP P w K mg base CX k fa fd [x] sp) (hbind:∀(s:Shared) (u:Value),BindsTo s fd ⟨[u],[]⟩ [(x,u)])
  (jr:∀H:Hp,True->a_ K H a (ns.map V.int)->sp [.ref a] H (λv _=>v=.bl true) λ_ _ _=>False)
  (hCX:∀H e s',CX [] H s₁ (λ_ _ _=>False) e s'->False) :
  codeAny (model P w) callerA (.call (.ref fa) ⟨[.ref a],[]⟩) (λr s'=>r=.ok (.ret (.bool true))/\OldK s₁.heap s'.heap/\s'.os=s₁.os/\AllBare s'.gens) s₁:=by
 have rv:=lX hi;have lenV:=hi.length;have naT:∀t∈bO K,t.2.1≠a:=λt ht z=>by
  have e:=(hT t ht).2;rw[z,ha] at e;cases e
 let oS:Obj:={cls:=.type "list",data:=.seq vs.toArray}
 have core:∀S:Option HO,(S=none\/S=some (.iH oS (.lst (ns.map V.int))))->(S≠none->K.lookup a=none)->a_ K (λb=>if b=a then S else n_ (bO K) b) a (ns.map V.int) ->
   codeAny (model P w) callerA (.call (.ref fa) ⟨[.ref a],[]⟩) (λr s'=>r=.ok (.ret (.bool true))/\OldK s₁.heap s'.heap/\s'.os=s₁.os/\AllBare s'.gens) s₁:=by
  intro S hS hK hSq;generalize hH:(λb=>if b=a then S else n_ (bO K) b)=H at hSq
  have hA:H a=S:=by rw[<- hH];exact Ku rfl
  have hB:∀b,b≠a->H b=n_ (bO K) b:=λb z=>by rw[<- hH];exact Ko z
  have free:∀{b:Addr} {o:Obj},s₁.heap.get? b=some o->o≠W.tabObj #[]->(b=a->S=none)->H b=none:=λ{b o} e hn hz=>by
   by_cases z:b=a
   ·rw[z,hA];exact hz z
   ·rw[hB b z]
    cases q:n_ (bO K) b with
    |none=>rfl
    |some u =>
     obtain⟨t,ht,e1,_⟩:=gv q;have e2:=(hT t ht).2;rw[<- e1,e] at e2;exact absurd (Option.some.inj e2) hn
  have nsK:∀{b:Addr} {m:Str->Option Value},s₁.heap.Ns b m->(lE s₁.heap H).Ns b m:=λ{b m} ⟨o,es,ep,e,d,r⟩=>⟨o,es,ep,ik e (free e (λz=>by rw[z] at d;cases d) λz=>by rw[z,ha] at e;cases e;cases d),d,r⟩
  have hKb:K.In (lE s₁.heap H):=λb o e=>ik (KX b o e) (free (KX b o e) (λz=>by
    have h2:=M0.mp L.nt (b,o) (W.mem_of_lookupK e);subst z;exact absurd (show false=true from h2) Ky) λz=>by
    cases q:S with
    |none=>rfl
    |some u=>rw[z,hK (by rw[q];simp)] at e;cases e)
  have fJ:∀t∈bO K,W.CodeHd (lE s₁.heap H) t.1 t.2.1:=λt ht=>by
   obtain⟨o,us,fl,tf,fg,tg,inF,tx,tt,e1,e2,r⟩:=(hT t ht).1;exact⟨o,us,fl,tf,fg,tg,inF,tx,tt,ik e1 (free e1 (λz=>by rw[z] at e2;cases e2) λz=>by rw[z,ha] at e1;cases e1;exact absurd (Value.type.inj e2) (by decide)),e2,r⟩
  have hbm':Ec mg (lE s₁.heap H):=by
   obtain⟨bm,ob,b1,b2,b3,b4,b5⟩:=hbm;exact⟨bm,ob,b1,b2,ik b3 (free b3 (λz=>by rw[z] at b4;cases b4) λz=>by rw[z,ha] at b3;cases b3;exact absurd (Value.type.inj b4) (by decide)),b4,b5⟩
  have aL:dB P w H s₁.heap:=λb u e=>by
   by_cases z:b=a
   ·rw[z,hA] at e;rcases hS with h0|h0
    ·rw[h0] at e;cases e
    ·rw[h0] at e;cases e;subst z;exact⟨ha,by rw[Ki];exact hl,vs,_,rv,ha⟩
   ·rw[hB b z] at e;obtain⟨t,ht,e1,e2⟩:=gv e;subst e2;exact⟨#[],by rw[e1];exact (hT t ht).2,trivial,λpos cv c=>by cases (show (none:Option Value)=some cv from c)⟩
  have hM:Mod K mg (lE s₁.heap H):=⟨hKb,nsK hns,⟨mb,nsK hb,hbb⟩,let ⟨mc,h1,h2⟩:=hlim;⟨mc,nsK h1,h2⟩,fJ,hbm'⟩
  have e0:rZ P w K mg (lE s₁.heap H) callerA [] s₁ H:=⟨rfl,hM,λb o e=>AU e,P0 (uG _ _),trivial,λb hb=>absurd (show b∈([]:List Addr) from hb) (by simp),aL,.of_eq hg,λt ht=>⟨#[],by
   rw[hB _ (naT t ht),qz L.nd ht,Oa]⟩⟩
  refine NL ((F _ hKb (nsK hns)).run callerA [] s₁ H ⟨[.ref a],[]⟩ [.ref a] [.ref a] _ _ hr e0 (hbind s₁ (.ref a)) (.cons rfl .nil) (jr H trivial hSq)) λr s' h=>?_
  cases r with
  |error e=>exact (hCX H e s' h).elim
  |ok fl =>
   cases fl with
   |next=>exact False.elim h
   |brk=>exact False.elim h
   |cont=>exact False.elim h
   |ret u =>
    obtain⟨v,H',os,bare,un,hok',r',qv⟩:=h;have q':v=.bl true:=qv;subst q';obtain rfl:u=Value.bool true:=r';have each:∀b o,s₁.heap.get? b=some o->s'.heap.get? b=some o\/∃c,W.CodeHd s₁.heap c b/\o=W.tabObj #[]/\∃ps,s'.heap.get? b=some (W.tabObj ps):=λb o e=>by
     cases qb:H b with
     |none=>exact .inl (un.keep b o e qb (by intro z;exact absurd (show b∈([]:List Addr) from z) (by simp)) (by simp))
     |some u =>
      by_cases z:b=a
      ·rw[z,hA] at qb;rcases hS with h0|h0
       ·rw[h0] at qb;cases qb
       ·have z2:=un.i4 a oS _ (by rw[hA,h0])
        obtain⟨e2,_⟩:=hok' a _ z2;rw[z,ha] at e;cases e;exact .inl (by rw[z];exact e2)
      ·have qt:=qb;rw[hB b z] at qt;obtain⟨t,ht,e1,e2⟩:=gv qt;obtain⟨h1,h2⟩:=hT t ht;rw[<- e1] at h1 h2;rw[e] at h2;cases h2;subst e2;obtain⟨more,e3⟩:=un.gZ b _ qb;obtain⟨qs,e4,_⟩:=hok' b _ e3;exact .inr ⟨_,h1,rfl,qs,e4⟩
    refine⟨rfl,⟨λb o e=>?_,λb o e=>?_⟩,os,bare⟩
    ·rcases each b o e with z|⟨c,hc,z,ps,hp⟩
     ·exact .inl z
     ·subst z;exact .inr (.inl ⟨(hc.tab e).isCodeTable,rfl,#[],ps,rfl,by rw[Array.empty_append];exact hp⟩)
    ·rcases each b o e with z|⟨c,hc,z,ps,hp⟩
     ·exact⟨o,z⟩
     ·exact⟨_,hp⟩
 cases hk:K.lookup a with
 |some o =>
  have e:=KX a o hk;rw[ha] at e;cases e;exact core none (.inl rfl) (λz=>absurd rfl z) (.inr ⟨_,vs.toArray,_,hk,rfl,rfl,rfl,by rw[Kq,lenV];exact hl,by simpa using rv⟩)
 |none=>exact core (some (.iH oS (.lst (ns.map V.int)))) (.inr rfl) (λ_=>hk) (.inl (.inr ⟨oS,Ku rfl⟩))
def BB{l:W.OpenLaw}{n k:Nat}{XP:(Str->Option Value)->Heap->Prop}{YP:World->Heap->Prop}{d:DefRec}{K:Params->W.Frag}{CX:World->oC}{sp:World->Sp}
  (hn:l.most=some n) (hn2:n<=sizeLine) (hdf:d.params.defaults=[]) (hr:bt k callerA)
  (hY:∀(w:World) (h:Heap),YP w h->(K w.params).In h)
  (F:∀(w:World) (mg:Str->Option Value) (fa:Addr) (h:Heap),(K w.params).In h->h.Ns mainGlobals mg->mg d.name=some (.ref fa) ->
   ∃fd:FuncData,(∀(s:Shared) (u:Value),BindsTo s fd ⟨[u],[]⟩ [(x,u)]) /\
    ∀base:Heap,(K w.params).In base->base.Ns mainGlobals mg->dP l.prog w (K w.params) mg base (CX w) k fa fd [x] (sp w))
  (jr:∀(w:World) (H:Hp) (a:Addr) (ns:List Int),ns.length<=n->True->a_ (K w.params) H a (ns.map V.int)->sp w [.ref a] H (λv _=>v=.bl true) λ_ _ _=>False)
  (hCX:∀(w:World) (H:Hp) (s:Shared) (e:Value) (s':Shared),CX w [] H s (λ_ _ _=>False) e s'->False) (hL:∀(w:World) (h:Heap),(K w.params).In h->i6 q (K w.params)) :
  W.WalkO q loose XP YP l.row.toRowW d [] (λf vs=>PySem.call f vs):=by
 refine Att.oO hn hdf λw s₀ s₁ mg mb fa o pm cd doc a vs ns G Y ho hd fJ hmg hobj hints hlen hg=>?_;have KX:=hY w _ Y;obtain⟨fd,hb,hF⟩:=F w mg fa _ KX G.T.g hmg;have L:=hL w _ KX;exact wJ KX G.T.g G.T.b G.T.builtins G.T.nolimit G.T.bmain (L.at G.T KX) L hg hobj hints (Km hlen hn2) hr hF hb (λH hO hS=>jr w H a ns hlen hO hS) λH e s'=>hCX w H s₁ e s'
def inClass(s:Stmt)(j:Nat):Stmt:=match s with
 |.ClassDef _ _ _ body _ _ _ _ _ _ _=>body.getD j (.Pass ⟨0,0,0,0⟩)
 |_=>.Pass ⟨0,0,0,0⟩
def dj(s:Stmt):Arguments:=match s with
 |.FunctionDef _ a _ _ _ _ _ _ _ _=>a
 |_=>{posonlyargs:=[],args:=[],vararg:=none,kwonlyargs:=[],kw_defaults:=[],kwarg:=none,defaults:=[]}
def bA(s:Stmt):List Stmt:=match s with
 |.FunctionDef _ _ b _ _ _ _ _ _ _=>b
 |_=>[]
def af(s:Stmt):Scope:=match s with
 |.FunctionDef _ _ _ _ _ _ sc _ _ _=>sc
 |_=>{kind:=.function,names:=[],isGenerator:=false,isCoroutine:=false}
abbrev aY:oC:=λ_ _ _ _ _ _=>False
abbrev E0:XK:=λ_ _ _=>False
def zT:Passes aY X E0:=λ_ _ _ _ _ _ _ h=>h.elim
structure wj (K:W.Frag) (x qual:Str) (st:Stmt) (f:Addr) (fd:FuncData):Prop where
 ex:∃(oc:Value) (od:Option Addr) (kV doc pm:Value) (an:Option Addr) (cdv ct:Value) (osl:Array (Option Value)),
  fd=W.fnOf x qual (dj st) (bA st) (af st) .none kV doc pm an cdv ct/\K.lookup f=some ⟨oc,od,.func fd,osl⟩/\W.codeIn K cdv qual=true
 kp:W.keepIn K (.ref f)=true
section
variable {P:Program} {w:World} {K:W.Frag} {mg:Str->Option Value} {base:Heap}
def wj.ok{ps:List Str}{k:Nat}(F:wj K x qual st f fd)(S:ax N ps (af st))(len:∀vs H Q E,sp vs H Q E->vs.length=ps.length)
  (hbody:∀(cdv:Value) (A:Around) (outer:List Env) (s:Shared) (H:Hp) (vs:List V) (Q:VK) (E:XK),bt k (A.deeper (envOfC qual (af st) s.heap.objs.size f cdv))->sp vs H Q E ->
   ∃t,rE (iZ aY P w K mg base N qual (af st) f cdv A outer s H E).AK (bA st) t/\t {nx:=λ_ H'=>Q .aI H',rt:=Q} (start N vs) H):dP P w K mg base aY (k+1) f fd ps sp:=by
 obtain⟨oc,od,kV,doc,pm,an,cdv,ct,osl,rfl,lk,fJ⟩:=F.ex;refine zm lk fJ S len λA outer s H vs Q E hr jr=>?_;obtain⟨t,h,q⟩:=hbody cdv A outer s H vs Q E hr jr;exact⟨t,h.AK,q⟩
def wj.binds{ps:List Str}(F:wj K x qual st f fd)
  (h:∀(kV doc pm:Value) (an:Option Addr) (cdv ct:Value) (us:List Value),us.length=ps.length->bindArgs (W.fnOf x qual (dj st) (bA st) (af st) .none kV doc pm an cdv ct) ⟨us,[]⟩=pure (ps.zip us)):Binds K fd ps []:=by
 obtain⟨oc,od,kV,doc,pm,an,cdv,ct,osl,rfl,lk,fJ⟩:=F.ex;exact .all (h kV doc pm an cdv ct)
def kj{oc:Value}{an:Option Addr}{osl:Array (Option Value)}{kV doc pm cdv ct:Value}(l:K.lookup f=some ⟨oc,od,.func (W.fnOf x qual (dj st) (bA st) (af st) .none kV doc pm an cdv ct),osl⟩)
  (c:W.codeIn K cdv qual=true) (k:W.keepIn K (.ref f)=true):wj K x qual st f (W.fnOf x qual (dj st) (bA st) (af st) .none kV doc pm an cdv ct):=⟨⟨oc,od,kV,doc,pm,an,cdv,ct,osl,rfl,l,c⟩,k⟩
end
def aU{A:Around}{k:Nat}(hr:bt k A):A.units+1<cLine:=Lf (Nat.add_le_add_left (by decide:1<=64) _) hr.units
section
variable {X:Cx}
def pv(i:Nat){pos:Pos}(hN:autoParam (X.N[i]?=some x) ℜ0)(hv:autoParam (Gq X.env.scope x) ℜ4)(hd:autoParam ((x ==("__debug__":Str))=false) ℜ1)
  (fJ:autoParam ((x ==("__classdict__":Str))=false) ℜ1):PE X (.Name x pos) (jQ i):=Eb hN hv hd fJ
end
def kM(H H':Hp):Prop:=∀b o,H b=some o->H' b=some o
def kM.refl(H:Hp):kM H H:=λ_ _ h=>h
section
variable {κ:Type} [DecidableEq κ]
def Aw{kvs:List (κ×V)}{k:κ}{v:V}(h:b_ kvs k=some v):k∈kvs.map (·.1):=by
 have q:(kvs.any λkv=>decide (kv.1=k))=true:=by
  rw[eL,h]
  all_goals rfl
 obtain⟨p,hp,e⟩:=List.any_eq_true.mp q;exact Ll.mpr ⟨p,hp,Lr e⟩
end
def d2(cells:List (Str×Addr)):List (Str×NameKind)->List (Str×Addr)->List (Str×Addr)
 |[],acc=>acc
 | (n,k)::r,acc=>if k=.free then d2 cells r ((n,(cells.lookup n).getD 0)::acc) else d2 cells r acc
def eC(h:∀x∈scope.names,x.2=.free->∃c,env.cells.lookup x.1=some c):closureFor scope env=pure (d2 env.cells scope.names []):=by
 have all:∀(l:List (Str×NameKind)) (acc:List (Str×Addr)),(∀x∈l,x.2=.free->∃c,env.cells.lookup x.1=some c) ->
   (forIn l acc λ(x:Str×NameKind) (cs:List (Str×Addr))=>(match x with | (name,kind)=>if (kind == NameKind.free)=true then (do let c <- cellOf env name;pure (ForInStep.yield ((name,c)::cs))) else pure (ForInStep.yield cs):Sem (ForInStep (List (Str×Addr)))))=(pure (d2 env.cells l acc):Sem (List (Str×Addr))):=by
  intro l
  induction l with
  |nil=>intro acc _;rfl
  |cons x r ih =>
   intro acc hl;obtain⟨n,k⟩:=x;rw[NM];by_cases hk:k=.free
   ·subst hk;obtain⟨c,hc⟩:=hl (n,.free) Kw rfl;have e:cellOf env n=pure c:=by unfold cellOf;rw[hc]
    simp only[L3,MT,e,d2,pure_bind];rw[ih _ λy hy=>hl y (Kx _ hy),hc];rfl
   ·have hb:(k == NameKind.free)=false:=by simpa using hk
    simp only[hb,Mq,Mz,d2,hk,pure_bind];exact ih _ λy hy=>hl y (Kx _ hy)
 unfold closureFor;simp only[bind_pure];exact all scope.names [] h
theorem iT:∀{l:List (Str×NameKind)} {acc:List (Str×Addr)},(∀x∈l,x.2=.free->∃c,cells.lookup x.1=some c)->(∀x c,acc.lookup x=some c->cells.lookup x=some c) ->
  ∀x c,(d2 cells l acc).lookup x=some c->cells.lookup x=some c
 |[],_,_,h,x,c,e=>h x c e
 | (n,k)::r,acc,hl,h,x,c,e=>by
  unfold d2 at e;have hr:∀y∈r,y.2=.free->∃c,cells.lookup y.1=some c:=λy hy=>hl y (Kx _ hy)
  split at e
  ·rename_i hk;refine iT hr (λy d q=>?_) x c e;rw[LQ] at q
   split at q
   ·rename_i hy;obtain⟨c',hc'⟩:=hl (n,k) Kw hk;have hy':y=n:=by simpa using hy
    subst hy';simp only[] at hc';rw[hc'] at q ⊢;exact q
   ·exact h y d q
  ·exact iT hr h x c e
theorem jb:∀{l:List (Str×NameKind)} {acc:List (Str×Addr)},(∃c,acc.lookup x=some c)->∃c,(d2 cells l acc).lookup x=some c
 |[],_,h=>h
 | (n,k)::r,acc,h=>by
  unfold d2;split
  ·refine jb ?_;rw[LQ];split
   ·exact⟨_,rfl⟩
   ·exact h
  ·exact jb h
theorem fZ:∀{l:List (Str×NameKind)} {acc:List (Str×Addr)},(x,NameKind.free)∈l->∃c,(d2 cells l acc).lookup x=some c
 |[],_,h=>by simp at h
 | (n,k)::r,acc,h=>by
  unfold d2;rcases Kv.mp h with e|h
  ·cases e;rw[Ku rfl];exact jb ⟨(cells.lookup x).getD 0,by rw[LQ];simp⟩
  ·split
   ·exact fZ h
   ·exact fZ h
def aG(X:Cx)(scope:Scope)(N:List Str)(C:Addr)(s:Shared)(H:Hp)(fp:List Addr):Cx where
 prog:=X.prog
 w:=X.w
 K:=X.K
 mg:=X.mg
 base:=X.base
 A:=X.A
 N:=N
 s₀:=s
 H₀:=H
 env:=compEnvC scope (d2 X.env.cells scope.names []) C X.env
 outer:=X.stack
 stack:=X.stack
 ex:=fp
 calm:=X.calm
 fn:=λ_=>false
 pn:=[]
 xe:=λ_ _=>False
structure aA (osc:Scope) (ON:List Str) (scope:Scope) (own N:List Str):Prop where
 kind:scope.kind=.function
 nd:N.Nodup
 len:N.length=own.length+ON.length
 kr:∀y∈scope.names,y.2≠.cell
 loc:∀y∈scope.names,y.2=.local->scope.names.lookup y.1=some .local
 free:∀y∈scope.names,y.2=.free->osc.names.lookup y.1=some .cell\/osc.names.lookup y.1=some .free
 out:∀p∈ON.zip (N.drop own.length),p.1=p.2\/scope.names.lookup p.2=none
 own:∀x∈N.drop own.length,scope.names.lookup x≠some .local
def cQ(x:Str)(hn:∀y∈scope.names,y.2≠.cell):((relabel scope env).names.lookup x=some .local->scope.names.lookup x=some .local) /\
  ((relabel scope env).names.lookup x=some .cell\/(relabel scope env).names.lookup x=some .free->scope.names.lookup x=some .free):=by
 unfold relabel;simp only;revert hn;generalize scope.names=l;intro hn
 induction l with
 |nil=>simp
 |cons y r ih =>
  obtain⟨n,k⟩:=y;have ih:=ih λy hy=>hn y (Kx _ hy);have hk:k≠.cell:=hn (n,k) Kw;rw[KA];simp only;by_cases hc:(k == NameKind.free && env.scope.kind == ScopeKind.function && env.kindOf n == some NameKind.cell)=true
  ·rw[Ku hc,LQ,LQ];have hf:k=.free:=by
    simp only[Lz] at hc
    simpa using hc.1.1
   split
   ·subst hf;simp
   ·exact ih
  ·rw[Ko hc,LQ,LQ];split
   ·constructor
    ·exactλh=>h
    ·rintro (h|h)
     ·exact absurd (Option.some.inj h) hk
     ·exact h
   ·exact ih
def AO(X:Cx)(ifs:List Expr)(t:TT):Prop:=
 ∀(pins:List (Addr×Obj)) (s:Shared) (σ:St) (H:Hp) (Q:Bool->Hp->Prop),Inv X pins σ H s->t σ H Q ->
  wpAny (model X.prog X.w) X.A (forIn ifs true λc r=>if r=true then do let ok <- isTrue c X.env (eval c X.env);pure (ForInStep.yield ok) else pure (ForInStep.yield r)) (TP X pins σ Q) X.xe s
def dz:TT:=λ_ H Q=>Q true H
def Bl:AO X [] dz:=λ_ _ _ H _ I h=>wpAny_tests_nil ⟨H,I,h⟩
def B_{c:Expr}{t:TT}(h:PT X c t):AO X [c] t:=λpins s σ H Q I hw=>wpAny_tests_one (h pins s σ H Q I hw)
def vm{A:Around}{s:Shared}{m:Sem α}{Q' Q:α->Shared->Prop}(h:wpAny M A m Q' (λ_ _=>False) s)(k:∀x s',Q' x s'->Q x s'):wpAny M A m Q E s:=Lh h k λ_ _ z=>z.elim
def lq{A:Around}{R:Result->Shared->Prop}{s:Shared}{target:Expr}{pos:Pos}{it acc:Value}{XE:Value->Shared->Prop}(I:Nat->Shared->Prop)(hx:∀x s',XE x s'->notedBy (model prog w) A env (λv s''=>R (.error v) s'') x s')
  (turn:∀n s,I n s->wpAny (model prog w) A (pyNext it) (λr s₁=>match r with
   |none=>R (.ok .next) s₁
   |some v=>wpAny (model prog w) A (letOwnedTupleGo target it v) (λ_ s₁'=>wpAny (model prog w) A (assign target env v) (λ_ s₂ =>
     wpAny (model prog w) A (forIn ifs true λc r=>if r=true then do let ok <- isTrue c env (eval c env);pure (ForInStep.yield ok) else pure (ForInStep.yield r)) (λok s₃ =>
      if ok=true then wpAny (model prog w) A (eval elt env) (λx s₄ =>
       wpAny (model prog w) A (call (.builtin "list.append") [acc,x]) (λ_ s₅=>∃m,m<n/\I m s₅) XE s₄) XE s₃
      else ∃m,m<n/\I m s₃) XE s₂) XE s₁') XE s₁) XE s)
  (n:Nat) (h:I n s):codeAny (model prog w) A (.compLoop (.ListComp elt [⟨target,iter,ifs,0⟩] scope pos) 0 it acc env) R s:=by
 refine codeAny_loop rfl I (λn s hI=>?_) n h;show wpAny _ A ((compTurn (.ListComp elt [⟨target,iter,ifs,0⟩] scope pos) 0 it acc env).onRaise (λx=>do noteFrame x env;theTreesLotGoes x)) _ _ s
 refine wpAny_noted ?_;rw[compTurn_list];refine Kh (Nk (Kh (Lh (turn n s hI) (λr s₁ h₁=>?_) hx)))
 cases r with
 |none=>exact Kt h₁
 |some v =>
  refine Kh (Lh h₁ (λ_ s₁' h₁'=>?_) hx);refine Kh (Lh h₁' (λ_ s₂ h₂=>Kh (Lh h₂ (λok s₃ h₃=>?_) hx)) hx)
  cases ok with
  |false=>exact Kt ⟨rfl,h₃⟩
  |true =>
   exact Kh (Kh (Lh h₃ (λx s₄ h₄=>Kh (Lh h₄ (λ_ s₅ h₅=>Kt (Kt ⟨rfl,h₅⟩)) hx)) hx))
def eR(wi:TI)(k:Nat)(g:TG)(tc:TT)(te:TE):TE:=λσ H Q=>wi σ H λJ H1=>∀D,H1 D=none ->
 ∃W:Nat->Nat->List V->St->Hp->Prop,(∃m,W 0 m [] (List.replicate k none++σ) (upd H1 D (.lst [])))/\∀i m ys σ' H',W i m ys σ' H'->H' D=some (.lst ys) /\
  ((J.stop i H'/\Q (.ref D) H')\/(J.go i H'/\ys.length<sizeLine/\∀x H2,J.CD i H' x H2->g x σ' H2 λσ3 H3=>tc σ3 H3 λb H4 =>
   if b=true then te σ3 H4 λv H5=>H5 D=some (.lst ys)/\∃m',m'<m/\W (i+1) m' (ys++[v]) σ3 (upd H5 D (.lst (ys++[v])))
   else ∃m',m'<m/\W (i+1) m' ys σ3 H4))
def jI{pos:Pos}{wi:TI}(S:aA osc ON scope own N)(hosc:X.env.scope=osc)(hON:X.N=ON)(hc:X.calm=true)(hi:PI X tg iter wi)
  (hg:∀C s H fp,PG (aG X scope N C s H fp) tg g) (ht:∀C s H fp,AO (aG X scope N C s H fp) ifs tc) (XE:Addr->Shared->Hp->List Addr->Value->Shared->Prop)
  (he:∀C s H fp pins s' σ' H' Q',(∀b∈fp,∃o,(b,o)∈pins)->Inv (aG X scope N C s H fp) pins σ' H' s'->te σ' H' Q'->wpAny (model X.prog X.w) X.A (eval elt (aG X scope N C s H fp).env) (EP (aG X scope N C s H fp) pins σ' Q') (XE C s H fp) s')
     {s:Shared} {Q:VK} (I:Inv X pins σ H s) (h:eR wi own.length g tc te σ H Q) 
  (fin:∀(D C:Addr) (H':Hp) (s':Shared) (m:Str->Option Value),Inv X pins σ H' s'->Q (.ref D) H'->H' C=none->X.s₀.heap.objs.size<=C->C≠X.env.locals->(∀x c,X.env.cells.lookup x=some c->c≠C)->(∀p∈X.pn++pins,p.1≠C) ->
   s'.heap.Ns C m->RR (.ref D) C (.ok .next) s')
  (hx:∀(D C:Addr) (s3:Shared) (H3:Hp) (fp:List Addr),C=s3.heap.objs.size->Inv X pins σ H3 s3->(∀{pins':List (Addr×Obj)} {σ':St} {H':Hp} {s':Shared},Inv (aG X scope N C s3 H3 fp) pins' σ' H' s'->Inv X pins σ H' s') ->
   X.s₀.heap.objs.size<=C->C≠X.env.locals->(∀x c,X.env.cells.lookup x=some c->c≠C)->(∀p∈X.pn++pins,p.1≠C)->∀x s',XE C s3 H3 fp x s'->notedBy (model X.prog X.w) X.A (aG X scope N C s3 H3 fp).env (λv s''=>RR (.ref D) C (.error v) s'') x s') :
  wpAny (model X.prog X.w) X.A (eval iter X.env) (λx s₁=>wpAny (model X.prog X.w) X.A (pyIter x) (λit s₂=>wpAny (model X.prog X.w) X.A (newList []) (λacc s₃ =>
   wpAny (model X.prog X.w) X.A (newFunctionEnv scope X.env.globals (d2 X.env.cells scope.names []) [] X.env.qual none .none (some X.env)) (λcenv s₄ =>
    codeAny (model X.prog X.w) X.A (.compStart (.ListComp elt [⟨tg,iter,ifs,0⟩] scope pos) 0 it acc {cenv with scope:=relabel scope X.env}) (RR acc cenv.locals) s₄) X.xe s₃) X.xe s₂) X.xe s₁) X.xe s:=by
 refine bH (hi pins s σ H _ I h) λv s1 h1=>bH h1 λitv s2 h2=>?_;obtain⟨it,fp,tn,J,H2,e,I2,T,st2,f2,q⟩:=h2;subst e;refine LJ (wpAny_newFunctionEnv S.kr (by intro y hy;simp at hy) (λh₁ hns₁ hsb₁=>?_) S.kind)
 dsimp only at hns₁ hsb₁ ⊢;have I3:Inv X pins σ (upd H2 s2.heap.objs.size (.lst [])) {s2 with heap:=s2.heap.push {cls:=.type "list",data:=.seq ([]:List Value).toArray},toks:=s2.toks}:=I2.Ew (t':=s2.toks) .nil (Nat.zero_le _)
 have hD2:H2 s2.heap.objs.size=none:=I2.fresh;obtain⟨W,⟨m0,w0⟩,turn⟩:=q _ hD2;generalize hs3:({s2 with heap:=s2.heap.push {cls:=.type "list",data:=.seq ([]:List Value).toArray},toks:=s2.toks}:Shared)=s3 at I3
 have eh3:s3.heap=s2.heap.push {cls:=.type "list",data:=.seq ([]:List Value).toArray}:=by rw[<- hs3]
 generalize hD:s2.heap.objs.size=D at I3 turn w0 hD2 ⊢;generalize hH3:upd H2 D (.lst [])=H3 at I3 w0;rw[<- eh3] at hns₁ hsb₁ ⊢;have hC3:H3 s3.heap.objs.size=none:=I3.fresh;have hsz3:s3.heap.objs.size=D+1:=by rw[eh3,LS,hD]
 have fp2:∀b∈fp,b<s2.heap.objs.size:=λb hb=>by
  obtain⟨o,e,_⟩:=T.obj _ _ st2 b hb;exact Kz e
 have f3:∀b∈fp,ko X pins H3 b:=λb hb=>by
  obtain⟨g0,g1⟩:=f2 b hb;refine⟨?_,g1⟩;rw[<- hH3,ae (by rw[<- hD];exact KH (fp2 b hb))]
  exact g0
 have neC:∀b o,s3.heap.get? b=some o->b≠s3.heap.objs.size:=λb o e=>KH (Kz e);have old:∀b o,s3.heap.get? b=some o->h₁.get? b=some o:=λb o e=>hsb₁.extBut b o (neC b o e) (Kk _ e);have hk:=S.kind;have hfr:∀y∈scope.names,y.2=.free->∃c,X.env.cells.lookup y.1=some c:=λy hy hf=>I3.ok.has _ (by subst hosc;exact S.free y hy hf)
 have sub:=iT (acc:=[]) hfr (by intro x c e;simp at e)
 have JB:∀tk,Inv (aG X scope N s3.heap.objs.size s3 H3 fp) [] (List.replicate own.length none++σ) H3 {s3 with heap:=h₁,toks:=tk}:=λtk=>by
  refine⟨⟨I3.ok.mod,S.kind,I3.ok.glob,I3.ok.blt,Kp _,λx y c e1 e2=>I3.ok.inj x y c (sub x c e1) (sub y c e2),λx hx=>?_,λx c hf _=>(by cases hf),I3.ok.hd,I3.ok.frames,.inl rfl,λb hb=>?_,I3.bs,Km I3.ok.qN I3.sz,λb o e hb=>?_,λb hb hf=>?_,I3.stack,I3.ju,I3.ok.tabs.un I3.base⟩,
   rfl,I3.bare,Un.kept old,⟨_,hns₁,λi x v e1 e2 e3=>?_⟩,λx c e=>?_,hC3,λx c e=>I3.cw x c (sub x c e),λp hp=>absurd (show p∈([]:List (Addr×Obj)) from hp) (by simp),I3.aL.kept old,?_⟩
  ·have q:=(cQ (env:=X.env) x S.kr).2 hx;exact fZ (PySem.mem_of_lookup q)
  ·have hb:b∈fp:=hb;obtain⟨_,g1,g2,g3,g4,g5⟩:=f3 b hb;refine⟨?_,λx c e=>g4 x c (sub x c e)⟩;have:=fp2 b hb;show b≠s3.heap.objs.size;rw[hsz3,<- hD];exact KH (MP this)
  ·have hb:b∈fp:=hb;obtain⟨_,g1,g2,g3,g4,g5⟩:=f3 b hb;rcases g3 with g3|g3
   ·exact I3.ok.jG b o e g3
   ·exact absurd (KI (Kz e) (Km I3.ok.qN g3)) (LZ _)
  ·have hb:b∈fp:=hb;obtain⟨_,g1,g2,g3,g4,g5⟩:=f3 b hb;rcases Kv.mp (I3.kU b hf) with z|z
   ·exact g1 z
   ·exact g2 z
  ·have hi:own.length<=i:=by
    rcases Lm i own.length with hlt|hge
    ·rw[KR (by simpa using hlt),OG] at e2
     split at e2<;>cases e2
    ·exact hge
   rw[KL (by simpa using hi),K6] at e2
   have e1:N[own.length+(i-own.length)]?=some x:=by rw[Nat.add_sub_cancel' hi];exact e1
   have e1d:(N.drop own.length)[i-own.length]?=some x:=by rw[LR];exact e1
   have nl:scope.names.lookup x≠some .local:=S.own x (Li e1d);have vis:scope.names.lookup x=some .free:=by
    rcases e3 with z|z
    ·exact absurd ((cQ (env:=X.env) x S.kr).1 z) nl
    ·exact (cQ (env:=X.env) x S.kr).2 z
   have hlen:=I3.len;have hlt:i-own.length<X.N.length:=by
    rw[<- hlen];exact (Kl.mp e2).1
   have hxN:X.N[i-own.length]?=some x:=by
    rw[Kg hlt];have mz:(X.N[i-own.length],x)∈ON.zip (N.drop own.length):=by
     rw[<- hON];refine Li (i:=i-own.length) ?_;rw[List.getElem?_zip_eq_some];exact⟨Kg hlt,e1d⟩
    rcases S.out _ mz with z|z
    ·exact Lg some z
    ·exact absurd z (by rw[vis];simp)
   have hko:X.env.scope.names.lookup x=some .cell\/X.env.scope.names.lookup x=some .free:=by subst hosc;exact S.free _ (PySem.mem_of_lookup vis) rfl
   obtain⟨m,hn,hl⟩:=I3.loc;have hv:Gq X.env.scope x:=by
    rcases hko with z|z
    ·exact .inr (.inl z)
    ·exact .inr (.inr z)
   obtain⟨u,ru,lk⟩:=hl _ x v hxN e2 hv;refine⟨u,ru,.inr ⟨?_,?_⟩⟩
   ·rcases e3 with z|z
    ·exact absurd ((cQ (env:=X.env) x S.kr).1 z) nl
    ·exact z
   ·rcases lk with ⟨k,_⟩|⟨_,c,ec,hcell⟩
    ·exfalso
     have k':X.env.scope.names.lookup x=some .local:=k;rcases hko with z|z
     ·rw[k'] at z;cases z
     ·rw[k'] at z;cases z
    ·obtain⟨c',ec'⟩:=fZ (cells:=X.env.cells) (acc:=[]) (PySem.mem_of_lookup vis);have:=sub x c' ec';rw[ec] at this;cases this;obtain⟨o,ho,hd⟩:=hcell;exact⟨c,ec',o,old c o ho,hd⟩
  ·obtain⟨v,o,ho,hd⟩:=I3.cell x c (sub x c e);exact⟨v,o,old c o ho,hd⟩
  ·show (List.replicate own.length none++σ).length=N.length;rw[S.len,Kj,K6,I3.len,hON]
 have stat:∀{H':Hp},(∀b∈fp,H' b=none)->∀b∈fp,ko (aG X scope N s3.heap.objs.size s3 H3 fp) [] H' b:=λ{H'} hn b hb=>by
  obtain⟨_,g1,g2,g3,g4,g5⟩:=f3 b hb;refine⟨hn b hb,?_,λhf=>?_,.inl hb,λx c e=>g4 x c (sub x c e),λp hp=>absurd (show p∈([]:List (Addr×Obj)) from hp) (by simp)⟩
  ·have:=fp2 b hb;show b≠s3.heap.objs.size;rw[hsz3,<- hD];exact KH (MP this)
  ·rcases Kv.mp (I3.kU b hf) with z|z
   ·exact g1 z
   ·exact g2 z
 have st4:tn 0 h₁:=T.keep _ _ _ st2 λb hb o e=>old b o (by rw[eh3];exact Kk _ e)
 have o3:∀x c,X.env.cells.lookup x=some c->c≠s3.heap.objs.size:=λx c e z=>by
  obtain⟨v,o,ho,_⟩:=I3.cell x c e;exact absurd (Kz ho) (by rw[z];exact LZ _)
 have o4:∀p∈X.pn++pins,p.1≠s3.heap.objs.size:=λp hp z=>absurd (Kz (I3.pin p hp).1) (by rw[z];exact LZ _)
 have outI:∀{pins':List (Addr×Obj)} {σ':St} {H':Hp} {s':Shared},Inv (aG X scope N s3.heap.objs.size s3 H3 fp) pins' σ' H' s'->Inv X pins σ H' s':=λI6=>by
  refine I3.yB (ch:=fp) I6.os I6.base I6.aL I6.bare λb hb=>?_;obtain⟨_,g1,g2,g3,g4,g5⟩:=f3 b hb;exact⟨g3,g1,g4,g5⟩
 have loop:∀s4:Shared,s4={s3 with heap:=h₁,toks:=s2.toks+([]:List (Str×Value)).length} ->
   codeAny (model X.prog X.w) X.A (.compLoop (.ListComp elt [⟨tg,iter,ifs,0⟩] scope pos) 0 (.ref it) (.ref D) (aG X scope N s3.heap.objs.size s3 H3 fp).env) (RR (.ref D) s3.heap.objs.size) s4:=by
  rintro s4 rfl;refine lq (XE:=XE s3.heap.objs.size s3 H3 fp) (λn s'=>∃i ys σ' H',Inv (aG X scope N s3.heap.objs.size s3 H3 fp) [] σ' H' s'/\tn i s'.heap/\(∀b∈fp,H' b=none)/\W i n ys σ' H') (hx D _ s3 H3 fp rfl I3 outI I3.sz (LX I3.lt) o3 o4) ?_ m0 ⟨0,[],_,H3,JB _,st4,λb hb=>(f3 b hb).1,w0⟩;rintro n s5 ⟨i,ys,σ5,H5,I5,st5,fr5,w5⟩;obtain⟨hD5,ways⟩:=turn i n ys σ5 H5 w5;rcases ways with ⟨stop,qn⟩|⟨go,hys,step⟩
  ·refine vm (T.done (aG X scope N s3.heap.objs.size s3 H3 fp) rfl rfl rfl hc i [] s5 σ5 H5 _ I5 (stat fr5) st5 stop) λr s6 hq1=>?_;obtain⟨hr,I6⟩:=hq1;subst hr;obtain⟨m,hn,_⟩:=I6.loc;exact fin D _ H5 s6 m (outI I6) qn I6.free I3.sz (LX I3.lt) o3 o4 hn
  ·refine vm (T.item (aG X scope N s3.heap.objs.size s3 H3 fp) rfl rfl rfl hc i [] s5 σ5 H5 _ I5 (stat fr5) st5 go) λr s6 hq2=>?_;obtain⟨u,hr,h6⟩:=hq2;subst hr;refine vm h6 λ_ s7 hq3=>?_;obtain⟨x,H7,I7,r7,y7,st7,fr7⟩:=hq3;have I7':=I7.pinned (stat fr7) (T.obj _ _ st7);have back:∀{σ8:St} {H8:Hp} {s8:Shared},Inv (aG X scope N s3.heap.objs.size s3 H3 fp) ([]++iO fp s7.heap) σ8 H8 s8->tn (i+1) s8.heap/\∀b∈fp,H8 b=none:=λ{σ8 H8 s8} I8=>by
    refine⟨T.keep _ _ _ st7 λb hb o e=>(I8.pin (b,o) (KG _ (KG _ (dH hb e)))).1,λb hb=>?_⟩;obtain⟨o,e,d⟩:=T.obj _ _ st7 b hb;exact (I8.pin (b,o) (KG _ (KG _ (dH hb e)))).2.1
   have hcov:∀b∈fp,∃o,(b,o)∈([]:List (Addr×Obj))++iO fp s7.heap:=λb hb=>by
    obtain⟨o,e,_⟩:=T.obj _ _ st7 b hb;exact⟨o,KG _ (dH hb e)⟩
   refine vm (hg _ _ _ _ _ s7 σ5 H7 x u _ I7' r7 (step x H7 y7)) λ_ s8 hq4=>?_;obtain⟨σ8,H8,I8,q8⟩:=hq4;refine vm (ht _ _ _ _ _ s8 σ8 H8 _ I8 q8) λok s9 hq5=>?_;obtain⟨H9,I9,q9⟩:=hq5
   cases ok with
   |false =>
    rw[Ko (by simp)] at q9 ⊢
    obtain⟨m',hm,w9⟩:=q9;exact⟨m',hm,i+1,ys,σ8,H9,I9.fH,(back I9).1,(back I9).2,w9⟩
   |true =>
    rw[Ku rfl] at q9 ⊢;refine bH (he _ _ _ _ _ s9 σ8 H9 _ hcov I9 q9) λy s10 hq6=>?_;obtain⟨v10,H10,I10,r10,hD10,m',hm,w10⟩:=hq6;refine vm (mC _ s10 σ8 H10 (.ref D) [v10] (.ref D) [y] (λr H11=>r=.aI/\H11=upd H10 D (.lst (ys++[v10]))) I10 rfl (.cons r10 .nil) ⟨D,ys,v10,rfl,rfl,hD10,hys,rfl,rfl⟩) λ_ s11 hq7=>?_;obtain⟨_,H11,I11,_,_,e11⟩:=hq7;subst e11;exact⟨m',hm,i+1,_,σ8,_,I11.fH,(back I11).1,(back I11).2,w10⟩
 have start:=codeAny_compStart_list (R:=RR (.ref D) s3.heap.objs.size) (loop _ rfl) (T.self X.A 0 _ _ _ st4 (loop _ rfl));subst hs3;exact start
def lW{pos:Pos}{wi:TI}(S:aA osc ON scope own N)(hosc:X.env.scope=osc)(hON:X.N=ON)(hc:X.calm=true)(hi:PI X tg iter wi)
  (hg:∀C s H fp,PG (aG X scope N C s H fp) tg g) (ht:∀C s H fp,AO (aG X scope N C s H fp) ifs tc) (he:∀C s H fp,PE (aG X scope N C s H fp) elt te)
     {s:Shared} {Q:VK} (I:Inv X pins σ H s) (h:eR wi own.length g tc te σ H Q) 
  (fin:∀(D C:Addr) (H':Hp) (s':Shared) (m:Str->Option Value),Inv X pins σ H' s'->Q (.ref D) H'->H' C=none->X.s₀.heap.objs.size<=C->C≠X.env.locals->(∀x c,X.env.cells.lookup x=some c->c≠C)->(∀p∈X.pn++pins,p.1≠C) ->
   s'.heap.Ns C m->RR (.ref D) C (.ok .next) s') :
  wpAny (model X.prog X.w) X.A (eval iter X.env) (λx s₁=>wpAny (model X.prog X.w) X.A (pyIter x) (λit s₂=>wpAny (model X.prog X.w) X.A (newList []) (λacc s₃ =>
   wpAny (model X.prog X.w) X.A (newFunctionEnv scope X.env.globals (d2 X.env.cells scope.names []) [] X.env.qual none .none (some X.env)) (λcenv s₄ =>
    codeAny (model X.prog X.w) X.A (.compStart (.ListComp elt [⟨tg,iter,ifs,0⟩] scope pos) 0 it acc {cenv with scope:=relabel scope X.env}) (RR acc cenv.locals) s₄) X.xe s₃) X.xe s₂) X.xe s₁) X.xe s:=
 jI S hosc hON hc hi hg ht (λ_ _ _ _ _ _=>False) (λC s H fp pins s' σ' H' Q' _ I h=>he C s H fp pins s' σ' H' Q' I h) I h fin λ_ _ _ _ _ _ _ _ _ _ _ _ _ _ z=>z.elim
def Al{pos:Pos}{wi:TI}(S:aA osc ON scope own N)(hosc:X.env.scope=osc)(hON:X.N=ON)(hc:X.calm=true)(hi:PI X tg iter wi)
  (hg:∀C s H fp,PG (aG X scope N C s H fp) tg g) (ht:∀C s H fp,AO (aG X scope N C s H fp) ifs tc) (he:∀C s H fp,PE (aG X scope N C s H fp) elt te)
  (hs:autoParam (∀x,foldedSetIterable iter X.env x=pure x) ℜ3) :
  PE X (.ListComp elt [⟨tg,iter,ifs,0⟩] scope pos) (eR wi own.length g tc te):=by
 intro pins s σ H Q I h;have hfr:∀y∈scope.names,y.2=.free->∃c,X.env.cells.lookup y.1=some c:=λy hy hf=>I.ok.has _ (by subst hosc;exact S.free y hy hf)
 rw[eval_ListComp];refine N1 (use:=none) rfl hs (eC hfr) S.kind S.loc ?_;refine lW S hosc hON hc hi hg ht he I h (RR:=λacc C=>compPost (model X.prog X.w) X.A X.xe none (EP X pins σ Q) acc C) ?_;intro D C H' s' m I' q h1 h2 h3 h4 h5 hn;exact⟨m,hn,λh'' hs''=>⟨.ref D,H',I'.turned (t':=s'.toks) (λb o hb e=>(hs''.2 b hb).trans e) h1 h3 (.inr h2) h4 h5,rfl,q⟩⟩
def rQ{pos spos py:Pos}{wi:TI}{y:Str}(hN:X.N.Nodup)(hj:X.N[j]?=some y)(hx:Loc X.env.scope y)(S:aA osc ON scope own N)(hosc:X.env.scope=osc)(hON:X.N=ON)(hc:X.calm=true)(hi:PI X tg iter wi)
  (hg:∀C s H fp,PG (aG X scope N C s H fp) tg g) (ht:∀C s H fp,AO (aG X scope N C s H fp) ifs tc) (he:∀C s H fp,PE (aG X scope N C s H fp) elt te)
  (hsw:autoParam (swapsWith (.ListComp elt [⟨tg,iter,ifs,0⟩] scope pos) (some (.Name y py)) spos.line X.env=pure true) ℜ0)
  (hf:autoParam (X.fn y=true\/X.env.scope.names.lookup y=some .local) ℜ2)
  (hs:autoParam (∀x,foldedSetIterable iter X.env x=pure x) ℜ3) :
  PS X (.Assign [.Name y py] (.ListComp elt [⟨tg,iter,ifs,0⟩] scope pos) spos) (km (eR wi own.length g tc te) (aO j)):=by
 intro pins s σ H Dn I h;have hfr:∀y∈scope.names,y.2=.free->∃c,X.env.cells.lookup y.1=some c:=λy hy hf=>I.ok.has _ (by subst hosc;exact S.free y hy hf)
 rw[exec_Assign_Name_used _ _ _ _ hsw];refine Kh (Nk (Kh ?_));show wpAny _ X.A (do let _ <- comprehension (.ListComp elt [⟨tg,iter,ifs,0⟩] scope pos) scope X.env _ (newList []) false (eval iter X.env) (some (assign (.Name y py) X.env))) _ _ s
 refine Kh (Lh (N1 (use:=some (assign (.Name y py) X.env)) (Q:=λ_ s'=>SP X pins Dn .next s') rfl hs (eC hfr) S.kind S.loc ?_) (λ_ s' hq=>Kt (Kt hq)) λ_ _ e=>e);refine lW S hosc hON hc hi hg ht he I h (RR:=λacc C=>compPost (model X.prog X.w) X.A X.xe (some (assign (.Name y py) X.env)) (λ_ s'=>SP X pins Dn .next s') acc C) ?_;intro D C H' s' m I' q h1 h2 h3 h4 h5 hn;show wpAny _ X.A (assign (.Name y py) X.env (.ref D)) _ _ _;refine wpAny_assign_Name (m8 I' hN hj hx (v:=.ref D) rfl (λs'' I'' hsb=>?_) hf);obtain⟨a,sb,ha⟩:=hsb;have nC:C≠a:=by
  rcases ha with ha|ha
  ·rw[ha];exact h3
  ·exact (h4 y a ha).symm
 exact⟨m,hn.sameBut sb nC,λh'' hs''=>⟨_,H',I''.turned (t':=s''.toks) (λb o hb e=>(hs''.2 b hb).trans e) h1 h3 (.inr h2) h4 h5,q⟩⟩
def cW(e:Expr):Bool:=match e with
 |.Starred ..=>false
 |_=>true
def bN{e:Expr}(h:cW e=true):starEach (e::es) env=(false,eval e env)::starEach es env:=by
 cases e<;>first|rfl|cases h
theorem plain_any{pos:Pos}:∀{es:List Expr},es.all cW=true->(backTo pos (starEach es env)).any (·.1)=false
 |[],_=>rfl
 |e::es,h=>by
  rw[L_,Lz] at h;rw[bN h.1];show (false || (backTo pos (starEach es env)).any (·.1))=false;rw[plain_any h.2];rfl
theorem plain_all{pos:Pos}:∀{es:List Expr},es.all cW=true->(backTo pos (starEach es env)).all (λx=>!x.1)=true
 |[],_=>rfl
 |e::es,h=>by
  rw[L_,Lz] at h;rw[bN h.1];show (true && (backTo pos (starEach es env)).all (λx=>!x.1))=true;rw[plain_all h.2];rfl
def EH{cpos:Pos}{e:Expr}(h:(e::es).all cW=true)(hl:(e::es).length<30):
  ((backTo cpos (starEach (e::es) env)).all (λx=>!x.1) && (backToKw cpos (keywordEach [] env)).all (λx=>x.1.isSome) && decide ((e::es).length+([]:List Keyword).length+(if ([]:List Keyword).isEmpty then 0 else 1)<30))=true:=by
 rw[plain_all h];have e2:(backToKw cpos (keywordEach [] env)).all (λx=>x.1.isSome)=true:=rfl;rw[e2];have e3:(e::es).length+([]:List Keyword).length+(if ([]:List Keyword).isEmpty then 0 else 1)<30:=hl
 rw[KY e3];rfl
section
variable {X:Cx} {e:Expr} {es:List Expr} {te:TE} {t:TA}
def IV(ha:PE X e te)(hr:PA X es t)(h:autoParam (cW e=true) ℜ0):PA X (e::es) (iy te t):=jy ha hr (bN h)
def HA{id:String}{p pos:Pos}(hc:aX X (.builtin id) r)(hg:Gl X x)(hm:X.mg x=none)(hv:bootBuiltins x=some (.builtin id))(ha:PA X (e::es) t)(h1:autoParam (cW e=true) ℜ0)(h2:autoParam (es.all cW=true) ℜ0)(hn:autoParam (x≠"__name__") ℜ1)(hdb:autoParam ((x ==("__debug__":Str))=false) ℜ1):
  PE X (.Call (.Name x p) (e::es) [] pos) (B7 r t):=wB hc hg hm hv ha hn hdb (bN h1) (plain_any h2)
def Hy{T:String}{p pos:Pos}(hc:aX X (.type T) r)(hg:Gl X x)(hm:X.mg x=none)(hv:bootBuiltins x=some (.type T))(ha:PA X (e::es) t)(h1:autoParam (cW e=true) ℜ0)(h2:autoParam (es.all cW=true) ℜ0)(hn:autoParam (x≠"__name__") ℜ1)(hdb:autoParam ((x ==("__debug__":Str))=false) ℜ1):
  PE X (.Call (.Name x p) (e::es) [] pos) (B7 r t):=vR hc hg hm hv ha hn hdb (bN h1) (plain_any h2)
def Du{o:Expr}{to:TE}{apos cpos:Pos}{T id:String}{r:V->List V->Hp->VK->Prop}(pa:PlainAttrs T)(slot:Slot T name id)(hty:typeOf (.builtin id)=pure (.type "method_descriptor"))(hm:uK X id r)(ho:PE X o to)(ha:PA X (e::es) t)
  (hbase:attributeBase o name X.env (eval o X.env)=eval o X.env) (hline:(apos.endLine == cpos.line)=true) (h:(e::es).all cW=true) (hl:(e::es).length<30):PE X (.Call (.Attribute o name apos) (e::es) [] cpos) (Fs X.K T r to t):=by
 have h':=h;rw[L_,Lz] at h';exact GJ pa slot hty hm ho ha hbase (EH h hl) hline (bN h'.1) (plain_any h'.2)
def rA{a:Expr}{p pos:Pos}(hg:Gl X "range")(hm:X.mg "range"=none)(ha:PA X [a] ta)(h:autoParam (cW a=true) ℜ0):PI X tg (.Call (.Name "range" p) [a] [] pos) (mQ ta):=uN hg hm ha (bN h)
def rY{a:Expr}{p pos:Pos}(hg:Gl X "range")(hm:X.mg "range"=none)(ha:PA X [a,b] ta)(h:autoParam (cW a=true) ℜ0)(h2:autoParam (cW b=true) ℜ0):PI X tg (.Call (.Name "range" p) [a,b] [] pos) (ma ta):=uS hg hm ha (by rw[bN h,bN h2];rfl) (bN h2)
end
structure HasFn (K:W.Frag) (mg:Str->Option Value) (x:Str) (st:Stmt) (ps:List Str):Prop where
 ex:∃(f:Addr) (fd:FuncData),wj K x x st f fd/\Binds K fd ps []/\mg x=some (.ref f)
structure ao (P:Program) (w:World) (K:W.Frag) (mg:Str->Option Value) (base:Heap) (CX:oC) (k:Nat) (x:Str) (ps:List Str) (sp:Sp):Prop where
 ex:∃(f:Addr) (fd:FuncData),mg x=some (.ref f)/\W.keepIn K (.ref f)=true/\Binds K fd ps []/\dP P w K mg base CX k f fd ps sp
section
variable {P:Program} {w:World} {K:W.Frag} {mg:Str->Option Value} {base:Heap}
def HasFn.ok{ps:List Str}{k:Nat}(F:HasFn K mg x st ps)(S:ax N ps (af st))(len:∀vs H Q E,sp vs H Q E->vs.length=ps.length)
  (hbody:∀(f:Addr) (cdv:Value) (A:Around) (outer:List Env) (s:Shared) (H:Hp) (vs:List V) (Q:VK) (E:XK),bt k (A.deeper (envOfC x (af st) s.heap.objs.size f cdv))->sp vs H Q E ->
   ∃t,rE (iZ aY P w K mg base N x (af st) f cdv A outer s H E).AK (bA st) t/\t {nx:=λ_ H'=>Q .aI H',rt:=Q} (start N vs) H):ao P w K mg base aY (k+1) x ps sp:=by
 obtain⟨f,fd,F1,b,m⟩:=F.ex;exact⟨f,fd,m,F1.kp,b,F1.ok S len λcdv A outer s H vs Q E hr h=>hbody f cdv A outer s H vs Q E hr h⟩
end
section
variable {X:Cx} {CX:oC} {k:Nat} {ps:List Str} {sp:Sp} {E:XK} {x:Str} {p pos:Pos} {e:Expr} {es:List Expr} {t:TA}
def Ie(F:ao X.prog X.w X.K X.mg X.base CX k x ps sp)(hr:bt k X.A)(hg:Gl X x)(hx:Passes CX X E)(ha:PA X (e::es) t)(h1:autoParam (cW e=true) ℜ0)(h2:autoParam (es.all cW=true) ℜ0)(hdb:autoParam ((x ==("__debug__":Str))=false) ℜ1):
  PE X (.Call (.Name x p) (e::es) [] pos) (gI sp [] E t):=by
 obtain⟨f,fd,m,kp,b,G⟩:=F.ex;exact BQ G hr hg m kp b .nil hx ha hdb (bN h1) (plain_any h2)
def EZ(F:ao X.prog X.w X.K X.mg X.base CX k x ps sp)(hr:bt k X.A)(hg:Gl X x)(hx:Passes CX X E)(hdb:autoParam ((x ==("__debug__":Str))=false) ℜ1):
  PE X (.Call (.Name x p) [] [] pos) (gI sp [] E kh):=by
 obtain⟨f,fd,m,kp,b,G⟩:=F.ex;exact zx G hr hg m kp b .nil hx hdb
end
def Dw:Expr->Option V
 |.Constant (.int i) _ _=>some (.int i)
 |.Constant (.str x) _ _=>some (.str x)
 |.Constant (.bool b) _ _=>some (.bl b)
 |.Constant .none _ _=>some .aI
 |_=>none
def tm:List Expr->Option (List V)
 |[]=>some []
 |e::es=>match Dw e,tm es with
  |some v,some vs=>some (v::vs)
  |_,_=>none
def tK(vs:List V):TA:=λ_ H Q=>Q vs H
def DK{e:Expr}{v:V}(h:Dw e=some v):PE X e (tC v)/\∀es,starEach (e::es) X.env=(false,eval e X.env)::starEach es X.env:=by
 unfold Dw at h
 split at h
 ·cases h;exact⟨yE,λ_=>rfl⟩
 ·cases h;exact⟨xv,λ_=>rfl⟩
 ·cases h;exact⟨CF,λ_=>rfl⟩
 ·cases h;exact⟨x_,λ_=>rfl⟩
 ·cases h
theorem mx{X:Cx}:∀{es:List Expr} {vs:List V},tm es=some vs->PA X es (tK vs)
 |[],vs,h=>by cases h;exact rC
 |e::es,vs,h=>by
  unfold tm at h
  split at h
  ·rename_i v ws e1 e2;cases h;have p:=DK (X:=X) e1;exact jy (te:=tC v) (t:=tK ws) p.1 (mx e2) (p.2 es)
  ·cases h
def sq(H:Hp)(p:Addr):Option (Bool×List V):=match H p with
 |some (.lst xs)=>some (true,xs)
 |some (.tup xs)=>some (false,xs)
 |some (.iH _ (.lst xs))=>some (true,xs)
 |some (.iH _ (.tup xs))=>some (false,xs)
 |_=>none
def gc(h:sq H p=some (true,xs)):a_ K H p xs:=by
 unfold sq at h
 split at h
 ·rename_i e;cases h;exact .inl (.inl e)
 ·cases h
 ·rename_i e;cases h;exact .inl (.inr ⟨_,e⟩)
 ·cases h
 ·cases h
def fQ(h:sq H p=some (false,xs)):bu K H p xs:=by
 unfold sq at h
 split at h
 ·cases h
 ·rename_i e;cases h;exact .inl (.inl e)
 ·cases h
 ·rename_i e;cases h;exact .inl (.inr ⟨_,e⟩)
 ·cases h
def rq{b:Bool}(h:sq H p=some (b,xs)):a_ K H p xs\/bu K H p xs:=by
 cases b with
 |true=>exact .inl (gc h)
 |false=>exact .inr (fQ h)
def au(h:H p=some (.lst xs)):sq H p=some (true,xs):=by unfold sq;rw[h]
def aF(h:H p=some (.tup xs)):sq H p=some (false,xs):=by unfold sq;rw[h]
section
variable {X:Cx}
def rX(K:W.Frag):R2:=λx y H Q=>match x,y with
 |.int i,.int j=>Q (.int (i+j)) H
 |.str i,.str j=>i.length+j.length<=sizeLine/\Q (.str (i++j)) H
 |.ref a,.ref b=>match H a,H b with
  |some (.lst xs),some (.lst ys)=>xs.length+ys.length<=sizeLine/\∀p,H p=none->Q (.ref p) (upd H p (.lst (xs++ys)))
  |some (.tup xs),some (.tup ys)=>xs≠[]/\ys≠[]/\xs.length+ys.length<=sizeLine/\∀p,H p=none->Q (.ref p) (upd H p (.tup (xs++ys)))
  |_,_=>False
 |_,_=>False
def BJ:cI X (binaryOp .Add) (rX X.K):=by
 intro pins s σ H x y v u Q I rx ry h
 cases x with
 |int i=>cases y with
  |int j=>exact DF pins s σ H _ _ v u Q I rx ry ⟨i,j,rfl,rfl,h⟩
  |_=>exact (show False from h).elim
 |str i=>cases y with
  |str j=>exact qV pins s σ H _ _ v u Q I rx ry ⟨i,j,rfl,rfl,h.1,h.2⟩
  |_=>exact (show False from h).elim
 |ref a=>cases y with
  |ref b =>
   unfold rX at h;simp only at h
   split at h
   ·rename_i xs ys e1 e2;exact Fi pins s σ H _ _ v u Q I rx ry ⟨a,b,xs,ys,rfl,rfl,e1,e2,h.1,h.2⟩
   ·rename_i xs ys e1 e2;obtain⟨h1,h2,h3,h4⟩:=h;exact Ce pins s σ H _ _ v u Q I rx ry ⟨a,b,xs,ys,rfl,rfl,bu.of e1,bu.of e2,h1,h3,λz=>absurd z h2,λ_=>h4⟩
   ·exact h.elim
  |_=>exact (show False from h).elim
 |_=>exact (show False from h).elim
def DS:R2:=λx y H Q=>match x,y with
 |.int i,.int j=>yj i j/\Q (.int (i*j)) H
 |.ref a,.int j=>Gy (.ref a) (.int j) H Q
 |_,_=>False
def bX:cI X (binaryOp .Mult) DS:=by
 intro pins s σ H x y v u Q I rx ry h
 cases x with
 |int i=>cases y with
  |int j=>exact DC pins s σ H _ _ v u Q I rx ry ⟨i,j,rfl,rfl,h.1,h.2⟩
  |_=>exact (show False from h).elim
 |ref a=>cases y with
  |int j=>exact Em pins s σ H _ _ v u Q I rx ry h
  |_=>exact (show False from h).elim
 |_=>exact (show False from h).elim
def bz:cI X (compareOp .Eq) FY:=Gx
def sQ:cI X (compareOp .NotEq) Fp:=CI
def Fo(K:W.Frag)(neg:Bool):R2:=λx y H Q=>match y with
 |.str j=>∃i,x=.str i/\Q (.bl (if neg then !(!(Builtin.Str.occurrences j i 0 j.length 1).isEmpty) else !(Builtin.Str.occurrences j i 0 j.length 1).isEmpty)) H
 |.ref p=>match sq H p with
  |some (_,xs)=>cu x=true/\xs.all cu=true/\Q (.bl (if neg then !iW x xs else iW x xs)) H
  |none=>∃xs,bu K H p xs/\cu x=true/\xs.all cu=true/\Q (.bl (if neg then !iW x xs else iW x xs)) H
 |_=>False
def wZ{neg:Bool}{x:V}{Q:VK}(h:Fo K neg x (.ref p) H Q):Ik K neg x (.ref p) H Q:=by
 unfold Fo at h;simp only at h
 split at h
 ·rename_i xs e;exact⟨p,_,rfl,rq e,h.1,h.2.1,h.2.2⟩
 ·obtain⟨xs,hq,h⟩:=h;exact⟨p,xs,rfl,.inr hq,h.1,h.2.1,h.2.2⟩
def Fb{k:Nat}(hu:k<cLine):cI X (compareOp .In) (Fo X.K false):=by
 intro pins s σ H x y v u Q I rx ry h
 match y,h with
 |.str j,h =>
  obtain⟨i,rfl,h'⟩:=h;exact vV pins s σ H _ _ v u Q I rx ry ⟨i,j,rfl,rfl,h'⟩
 |.ref p,h=>exact my pins s σ H _ _ v u Q I rx ry (wZ h)
def uO{k:Nat}(hu:k<cLine):cI X (compareOp .NotIn) (Fo X.K true):=by
 intro pins s σ H x y v u Q I rx ry h
 match y,h with
 |.str j,h =>
  obtain⟨i,rfl,h'⟩:=h;exact oi pins s σ H _ _ v u Q I rx ry ⟨i,j,rfl,rfl,h'⟩
 |.ref p,h=>exact nA pins s σ H _ _ v u Q I rx ry (wZ h)
def B0(K:W.Frag):R2:=λx y H Q=>match x,y with
 |.str z,.int i=>z.length<=sizeLine/\(match bS z.cps.toList i with|some c=>Q (.str ⟨#[c]⟩) H|none=>False)
 |.ref p,.int i=>match sq H p with
  |some (_,xs)=>(match bS xs i with|some v=>Q v H|none=>False)
  |none=>∃xs v,bu K H p xs/\bS xs i=some v/\Q v H
 |_,_=>False
def JY{k:Nat}(hu:k<cLine):uR X (B0 X.K):=by
 intro value slice pins s σ H x y v u Q I rx ry h hs;refine DM value slice pins s σ H x y v u Q I rx ry ?_ hs
 cases x with
 |str z=>cases y with
  |int i =>
   obtain⟨hz,h⟩:=h
   split at h
   ·rename_i c e;exact .inr (.inr ⟨z,i,c,rfl,rfl,hz,e,h⟩)
   ·exact h.elim
  |_=>exact (show False from h).elim
 |ref p=>cases y with
  |int i =>
   unfold B0 at h;simp only at h
   split at h
   ·rename_i b xs e
    split at h
    ·rename_i w' e'
     cases b with
     |true=>exact .inl ⟨p,xs,i,w',rfl,rfl,gc e,e',h⟩
     |false=>exact .inr (.inl ⟨p,xs,i,w',rfl,rfl,fQ e,e',h⟩)
    ·exact h.elim
   ·obtain⟨xs,w',hq,e',h⟩:=h;exact .inr (.inl ⟨p,xs,i,w',rfl,rfl,hq,e',h⟩)
  |_=>exact (show False from h).elim
 |_=>exact (show False from h).elim
def Iy(K:W.Frag):V->Option Int->Option Int->Hp->VK->Prop:=λx lo hi H Q=>match x with
 |.ref p=>match sq H p with
  |some (true,xs)=>∀q,H q=none->Q (.ref q) (upd H q (.lst (fE xs lo hi)))
  |some (false,xs)=>wK K (.ref p) lo hi H Q
  |none=>wK K (.ref p) lo hi H Q
 |_=>False
def Bw:CM X (Iy X.K):=by
 intro pins s σ H x v vl vu lo hi sl Q I rx hs pl pu h
 match x,h with
 |.ref p,h =>
  unfold Iy at h;simp only at h
  split at h
  ·rename_i xs e;exact tq pins s σ H _ v vl vu lo hi sl Q I rx hs pl pu ⟨p,xs,rfl,gc e,h⟩
  ·exact ym pins s σ H _ v vl vu lo hi sl Q I rx hs pl pu h
  ·exact ym pins s σ H _ v vl vu lo hi sl Q I rx hs pl pu h
def Bj:V->V->V->Hp->(Hp->Prop)->Prop:=λo i v H Q=>match o,i with
 |.ref p,.int k=>match H p with
  |some (.lst xs)=>(match jO xs.length k with|some j=>Q (upd H p (.lst (xs.set j v)))|none=>False)
  |_=>False
 |_,_=>False
def uset:Dz X Bj:=by
 intro pins s σ H o i v ov iv u Q I ro ri rv h
 cases o with
 |ref p=>cases i with
  |int k =>
   unfold Bj at h;simp only at h
   split at h
   ·rename_i xs e
    split at h
    ·rename_i j e';exact set_list pins s σ H _ _ v ov iv u Q I ro ri rv ⟨p,xs,k,j,rfl,rfl,e,e',h⟩
    ·exact h.elim
   ·exact h.elim
  |_=>exact (show False from h).elim
 |_=>exact (show False from h).elim
def wU(K:W.Frag):List V->Hp->VK->Prop:=λxs H Q=>match xs with
 |[.str y]=>y.length<=sizeLine/\Q (.int y.length) H
 |[.ref p]=>match sq H p with
  |some (_,ys)=>Q (.int ys.length) H
  |none=>∃ys,bu K H p ys/\Q (.int ys.length) H
 |_=>False
def u_:aX X (.builtin "len") (wU X.K):=by
 intro pins s σ H xs us Q I r h;rcases xs with _|⟨x,_|⟨y,xs⟩⟩
 ·exact (show False from h).elim
 rotate_left
 ·cases x<;>exact (show False from h).elim
 cases x with
 |str y=>exact iB pins s σ H _ us Q I r ⟨.str y,_,rfl,⟨h.1,rfl⟩,h.2⟩
 |ref p =>
  unfold wU at h;simp only at h
  split at h
  ·rename_i b ys e;refine iB pins s σ H _ us Q I r ⟨.ref p,ys.length,rfl,?_,h⟩
   cases b with
   |true=>exact .inl ⟨ys,gc e,rfl⟩
   |false=>exact .inr ⟨ys,fQ e,rfl⟩
  ·obtain⟨ys,hq,h⟩:=h;exact iB pins s σ H _ us Q I r ⟨.ref p,ys.length,rfl,.inr ⟨ys,hq,rfl⟩,h⟩
 |_=>exact (show False from h).elim
def HK:List V->Hp->VK->Prop:=λxs H Q=>match xs with
 |[.int i,.int j]=>Q (.int (if j<i then j else i)) H
 |_=>False
def mO(hc:X.calm=true):aX X (.builtin "min") HK:=by
 intro pins s σ H xs us Q I r h;rcases xs with _|⟨x,_|⟨y,_|⟨z,xs⟩⟩⟩
 ·exact (show False from h).elim
 ·cases x<;>exact (show False from h).elim
 ·cases x with
  |int i=>cases y with
   |int j=>exact uF hc pins s σ H _ us Q I r ⟨i,j,rfl,h⟩
   |_=>exact (show False from h).elim
  |_=>exact (show False from h).elim
 ·cases x with
  |int i=>cases y<;>exact (show False from h).elim
  |_=>exact (show False from h).elim
def nj(K:W.Frag):List V->Hp->VK->Prop:=λxs H Q=>match xs with
 |[.ref p]=>match sq H p with
  |some (true,ys)=>∀l,H l=none->Q (.ref l) (upd H l (.tup ys))
  |some (false,_)=>Q (.ref p) H
  |none=>∃ys,bu K H p ys/\Q (.ref p) H
 |_=>False
def p8:aX X (.type "tuple") (nj X.K):=by
 intro pins s σ H xs us Q I r h;rcases xs with _|⟨x,_|⟨y,xs⟩⟩
 ·exact (show False from h).elim
 rotate_left
 ·cases x<;>exact (show False from h).elim
 cases x with
 |ref p =>
  unfold nj at h;simp only at h
  split at h
  ·rename_i ys e;exact eG pins s σ H _ us Q I r ⟨p,ys,rfl,.inl ⟨gc e,h⟩⟩
  ·rename_i ys e;exact eG pins s σ H _ us Q I r ⟨p,ys,rfl,.inr ⟨fQ e,h⟩⟩
  ·obtain⟨ys,hq,h⟩:=h;exact eG pins s σ H _ us Q I r ⟨p,ys,rfl,.inr ⟨hq,h⟩⟩
 |_=>exact (show False from h).elim
def GZ:List V->Hp->VK->Prop:=λxs H Q=>match xs with
 |[.int i]=>Q (.int i) H
 |[.bl k]=>Q (.int (if k=true then 1 else 0)) H
 |_=>False
def m9:aX X (.type "int") GZ:=by
 intro pins s σ H xs us Q I r h;rcases xs with _|⟨x,_|⟨y,ys⟩⟩
 ·exact (show False from h).elim
 ·cases x with
  |int i=>exact lV pins s σ H _ us Q I r (.inl ⟨i,rfl,h⟩)
  |bl k=>exact lV pins s σ H _ us Q I r (.inr ⟨k,rfl,h⟩)
  |_=>exact (show False from h).elim
 ·cases x<;>exact (show False from h).elim
def vL(hc:X.calm=true):aX X (.builtin "sum") (λxs H Q=>∃(p:Addr) (ns:List Int),xs=[.ref p]/\a_ X.K H p (ns.map V.int)/\Q (.int ns.sum) H):=by
 intro pins s σ H xs us Q I r h;obtain⟨p,ns,rfl,hq,q⟩:=h;obtain⟨u,rfl,ru⟩:=vals1 r;cases ru;obtain⟨its,rv,pl,hz⟩:=I.list hq;have hi:=intsAre_of rv;obtain⟨xs,hx⟩:=hi.allInts.items;have hl':s.heap.IsList p (intItems xs):=by rw[<- hx];exact pl.isList
 refine sum_intListG (I.ok.hd hc) hl' λh' tk t' hk=>?_;have e1:ns=xs.toList.map (·.1):=by rw[<- nums_intItems,<- hx];exact hi.numsOf.symm
 have e2:preSum (numAt xs) xs.size=ns.sum:=by rw[preSum_eq,Lj (by simp),e1]
 rw[e2];exact⟨.int ns.sum,H,I.kept hk,⟨_,rfl⟩,q⟩
def EF(H:Hp):V->Option String
 |.aI=>some "NoneType"
 |.bl _=>some "bool"
 |.int _=>some "int"
 |.str _=>some "str"
 |.ref a=>match H a with
  |some (.lst _)=>some "list"
  |some (.tup _)=>some "tuple"
  |some (.dK _)=>some "dict"
  |_=>none
 |_=>none
def FH{x:V}(h:EF H x=some t):gR K H x (.type t):=by
 unfold EF at h
 split at h
 ·cases h;exact .aI
 ·cases h;exact .bl _
 ·cases h;exact .int _
 ·cases h;exact .str _
 ·split at h
  ·rename_i e;cases h;exact .lst e
  ·rename_i e;cases h;exact .tup e
  ·rename_i e;cases h;exact .dK e
  ·cases h
 ·cases h
def iF(t c:String):Bool:=decide (t=c) || (t == "bool" && c == "int")
def zw{c:String}(ht:t∈["NoneType","bool","int","str","list","tuple","dict"])(hc:c∈["bool","int","str","list","tuple","dict"]):W.kitOne K (.type t) (.type c)=some (iF t c):=by
 simp only[Kv,KO,Ma] at ht hc;rcases ht with rfl|rfl|rfl|rfl|rfl|rfl|rfl<;>rcases hc with rfl|rfl|rfl|rfl|rfl|rfl<;>rfl
def ES{x:V}(h:EF H x=some t):t∈["NoneType","bool","int","str","list","tuple","dict"]:=by
 unfold EF at h
 split at h
 ·cases h;decide
 ·cases h;decide
 ·cases h;decide
 ·cases h;decide
 ·split at h
  ·cases h;decide
  ·cases h;decide
  ·cases h;decide
  ·cases h
 ·cases h
def Dc(K:W.Frag):List V->Hp->VK->Prop:=λxs H Q=>match xs with
 |[x,.ty T]=>T∈["bool","int","str","list","tuple","dict"]/\match EF H x with
  |some t=>Q (.bl (iF t T)) H
  |none=>∃t b,gR K H x t/\W.kitOne K t (.type T)=some b/\Q (.bl b) H
 |_=>False
def uV:aX X (.builtin "isinstance") (Dc X.K):=by
 intro pins s σ H xs us Q I r h;rcases xs with _|⟨x,_|⟨y,_|⟨z,xs⟩⟩⟩
 ·exact (show False from h).elim
 ·exact (show False from h).elim
 rotate_left
 ·cases y<;>exact (show False from h).elim
 cases y with
 |ty T =>
  obtain⟨u,w',rfl,r1,r2⟩:=vals2 r;cases r2;obtain⟨hT,h⟩:=h
  split at h
  ·rename_i t e;exact lQ I r1 (FH e) (zw (ES e) hT) λtk=>⟨.bl _,H,I.tok _,rfl,h⟩
  ·obtain⟨t,b,ty,k,q⟩:=h;exact lQ I r1 ty k λtk=>⟨.bl b,H,I.tok _,rfl,q⟩
 |_=>exact (show False from h).elim
def DY{T:String}{pos:Pos}(hg:Gl X x)(hm:X.mg x=none)(hv:bootBuiltins x=some (.type T))(hn:autoParam (x≠"__name__") ℜ1)(hd:autoParam ((x ==("__debug__":Str))=false) ℜ1):PE X (.Name x pos) (tC (.ty T)):=AD hg hm hv rfl hn hd
def rJoin(K:W.Frag):V->List V->Hp->VK->Prop:=λx vs H Q=>∃z l ys,x=.str z/\vs=[.ref l]/\a_ K H l (ys.map V.str)/\(ys.map (·.length)).sum+ys.length*z.length<=16777216/\Q (.str (Str.join z ys)) H
theorem kP:∀{ys:List Str} {us:List Value},Vals (ys.map V.str) us->StrsAre us ys
 |[],_,.nil=>.nil
 |y::ys,_,.cons r t=>by
  obtain⟨k,rfl⟩:=r;exact .cons y k (kP t)
def AW:uK X "str.join" (rJoin X.K):=by
 intro pins s σ H x xs v us Q I rx rs h;obtain⟨z,l,ys,rfl,rfl,hq,hz,q⟩:=h;obtain⟨t,rfl⟩:=rx;obtain⟨u,rfl,ru⟩:=vals1 rs;cases ru;obtain⟨its,rv,pl,_⟩:=I.list hq;refine join_list pl.isList (by simpa using kP rv) hz λt' k=>?_
 have e:Txt.join z ys=Str.join z ys:=StrLaws.glued_eq_join z ys;rw[e];exact⟨.str _,H,I.tok _,⟨_,rfl⟩,q⟩
end
section
variable {X:Cx} {e:Expr} {te:TE}
theorem u0(p:Nat->Bool):∀(l:List Nat),l.drop (l.takeWhile p).length=l.dropWhile p
 |[]=>rfl
 |x::l=>by
  by_cases h:p x
  ·simp[NU,Nn,h,u0 p l]
  ·simp[NU,Nn,h]
end
open AutoSeq1 (wpAny_loadPart')
section
variable {prog:Program} {w:World} {A:Around} {E:Value->Shared->Prop} {s:Shared}
def jn{l:Addr}{x:Value}(hit:s.heap.IsTupleIter it l i)(hl:s.heap.IsTuple l items)(hx:items[i]?=some x)
  (hQ:∀h',h'.IsTupleIter it l (i+1)->Heap.SameBut it s.heap h'->Q x {s with heap:=h'}):wpAny (model prog w) A (Builtin.SmallTypes.nextOf (.ref it)) Q E s:=by
 obtain⟨o,ho,hc,hd⟩:=id hit;obtain⟨ol,hol,_,nl,hdl⟩:=hl;unfold Builtin.SmallTypes.nextOf;refine Kh (LA (name:=Str.ofString "__next__") hit.typeIs Mw (LF Mw hit.typeIs Ob ?_ (NX _)));show wpAny _ _ (field (.ref it) 0 >>= _) _ _ s;refine Kh (Ly ho hd (x:=.ref l) rfl ?_);show wpAny _ _ (if (Value.ref l == Value.none)=true then _ else _) _ _ s
 rw[Ko (show ¬ ((Value.ref l == Value.none)=true) from Ky)];show wpAny _ _ (field (.ref it) 1 >>= _) _ _ s;refine Kh (Ly ho hd (x:=.int i 0) rfl ?_);show wpAny _ _ (seqItems? (.ref l) >>= _) _ _ s;refine Kh (MU hol hdl ?_);simp only[KU,hx];refine Kh (N5 ho hd (by simp) (Kt ⟨x,rfl,Kt (hQ _ ?_ (LK ..))⟩))
 exact⟨_,LM _ ho (NF (MJ hd _)),(Obj.cls_mapFields ..).trans hc,by rw[MJ hd];simp[rawInt]⟩
def kq{l:Addr}(hh:A.handled=none)(hit:s.heap.IsTupleIter it l i)(hl:s.heap.IsTuple l items)(hx:items[i]?=none)
  (hE:∀h' e,Heap.ExtBut it s.heap h'->(∃o,h'.get? e=some o/\o.cls=.type "StopIteration")->E (.ref e) {s with heap:=h'}):wpAny (model prog w) A (Builtin.SmallTypes.nextOf (.ref it)) Q E s:=by
 obtain⟨o,ho,hc,hd⟩:=id hit;obtain⟨ol,hol,_,nl,hdl⟩:=hl;unfold Builtin.SmallTypes.nextOf;refine Kh (LA (name:=Str.ofString "__next__") hit.typeIs Mw (LF Mw hit.typeIs Ob ?_ (NX _)));show wpAny _ _ (field (.ref it) 0 >>= _) _ _ s;refine Kh (Ly ho hd (x:=.ref l) rfl ?_);show wpAny _ _ (if (Value.ref l == Value.none)=true then _ else _) _ _ s
 rw[Ko (show ¬ ((Value.ref l == Value.none)=true) from Ky)];show wpAny _ _ (field (.ref it) 1 >>= _) _ _ s;refine Kh (Ly ho hd (x:=.int i 0) rfl ?_);show wpAny _ _ (seqItems? (.ref l) >>= _) _ _ s;refine Kh (MU hol hdl ?_);simp only[KU,hx];refine Kh (Pp (Kh (N5 ho hd (by simp) ?_)))
 show wpAny _ _ (newExc (.type "StopIteration") [] >>= _) _ _ _;refine Kh ?_;simp only[newExc,newTuple];refine Kh (LJ ?_ (by size_fits))
 refine Kh (m:=firstArgMember _ _) (wpAny_of_eq (a:=Value.none) (by first|rfl | (simp only[firstArgMember];rfl)) ?_)
 refine LJ ?_ (by size_fits)
 simp only[raiseNew];refine Kh (wpAny_handled ?_)
 first|rw[show A.in1.handled=none from hh]|rw[hh]
 refine Kh (Kt (wpAny_throw ?_));exact hE _ _ (((LK ..).extBut.push _).push _) ⟨_,K1 _ rfl,rfl⟩
def i_(hh:A.handled=none)(it l:Addr)(hne:l≠it)(items:Array Value):
  Draws prog w A it [it,l] items.size (λi v=>items[i]?=some v) (λi h=>h.IsTupleIter it l i/\h.IsTuple l items) where
 live:=λ_ _ st=>let ⟨o,ho,_⟩:=st.1;⟨o,ho⟩
 frame:=λ_ _ _ st hk=>⟨let ⟨o,e,r⟩:=st.1;⟨o,hk it (by simp) o e,r⟩,let ⟨o,e,r⟩:=st.2;⟨o,hk l (by simp) o e,r⟩⟩
 item:=λi s Q E hi st hQ=>by
  refine jn st.1 st.2 (x:=items[i]) (by simp[hi]) λh' hit' hs'=>?_
  exact hQ _ h' s.toks (by simp[hi]) ⟨hit',st.2.extBut hs'.extBut hne⟩ hs'
 done:=λs Q E st hE=>kq hh st.1 st.2 (by simp) hE
def kJ(l:Addr)(items:Array Value)(n:Nat)(dct:Option Addr)(sl:Array (Option Value)):
  Meets (Builtin.«enumerate.__new__» ⟨[.type "enumerate",.ref l],[]⟩) (λ_ R s=>s.heap.get? l=some {cls:=.type "tuple",dict:=dct,data:=.seq items n,slots:=sl} /\
   R (.ok (.ret (.ref (s.heap.push {cls:=.type "tuple_iterator",data:=.fields #[.ref l,.int 0 0]}).objs.size)))
    {s with heap:=(s.heap.push {cls:=.type "tuple_iterator",data:=.fields #[.ref l,.int 0 0]}).push {cls:=.type "enumerate",data:=.fields #[.none,.bool false,.ref s.heap.objs.size,rawInt 0,.none,.none]}}):=
 .of_wp λprog w A R s h=>by
  obtain⟨hp,g,d,tk,os⟩:=s;obtain⟨hl,h⟩:=h;have hsub:=sub_enumerate;have hL:Heap.IsTuple (Shared.heap ⟨hp,g,d,tk,os⟩) l items:=⟨_,hl,rfl,n,rfl⟩;wp_walk using OM hl;refine wpAny_stack_any λst=>Kt ?_;split
  ·rename_i c _ _ _ _ _
   cases (c == Value.type "enumerate")<;>(wp_walk using OM hl,MK hL;exact⟨_,rfl,h⟩)
  ·wp_walk using OM hl,MK hL;exact⟨_,rfl,h⟩
def lI{l:Addr}(hL:s.heap.IsTuple l items)
  (h:∀h',IsEnum h' (s.heap.objs.size+1) s.heap.objs.size 0 .none->h'.IsTupleIter s.heap.objs.size l 0->h'.objs.size=s.heap.objs.size+2 ->
   (∀b o,s.heap.get? b=some o->h'.get? b=some o)->Q (.ref (s.heap.objs.size+1)) {s with heap:=h'}) :
  wpAny (model prog w) A (call (.type "enumerate") [.ref l]) Q E s:=by
 obtain⟨⟨c,dct,dt,sl⟩,hl,hc,n,hd⟩:=hL
 replace hc:c=.type "tuple":=hc
 replace hd:dt=.seq items n:=hd
 subst hc hd;refine O6 F.called_enumerate (by decide) (F.typeCall_enumerate_1 _) (F.newCall_enumerate_1 _) (λobj=>F.args_object_init_2 obj _) F.entry_enumerate_new (kJ l items n dct sl) ⟨hl,?_⟩
 have hz:(s.heap.push {cls:=.type "tuple_iterator",data:=.fields #[.ref l,.int 0 0]}).objs.size=s.heap.objs.size+1:=LS ..;show _/\_;rw[hz];have he:IsEnum ((s.heap.push {cls:=.type "tuple_iterator",data:=.fields #[.ref l,.int 0 0]}).push {cls:=.type "enumerate",data:=.fields #[.none,.bool false,.ref s.heap.objs.size,rawInt 0,.none,.none]}) (s.heap.objs.size+1) s.heap.objs.size 0 .none:=by
  have:=K1 (s.heap.push {cls:=.type "tuple_iterator",data:=.fields #[.ref l,.int 0 0]}) (o:={cls:=.type "enumerate",data:=.fields #[.none,.bool false,.ref s.heap.objs.size,rawInt 0,.none,.none]}) rfl;rw[hz] at this;exact this
 refine⟨⟨_,he,rfl⟩,h _ he ⟨_,Kk _ (K1 _ rfl),rfl,rfl⟩ (by rw[LS,hz]) λb o x=>Kk _ (Kk _ x)⟩
end
section
variable {X:Cx} {pins:List (Addr×Obj)} {σ:St} {H:Hp} {s:Shared} {h':Heap}
def Inv.turns{t':Nat}(I:Inv X pins σ H s)(hf:∀b∈fp,ko X pins H b)(k:∀b o,b∉fp->s.heap.get? b=some o->h'.get? b=some o):Inv X pins σ H {s with heap:=h',toks:=t'}:=by
 have nf:∀b u,H b=some u->b∉fp:=λb u e z=>by rw[(hf b z).1] at e;cases e
 refine I.step (g':=s.gens) (d':=s.drawn) (ch:=fp) (λb hb=>?_) (λb o _ _ hc e _=>k b o hc e) (λb o _ _ hc e _=>⟨o.slots,k b o hc e⟩) (λ_ _ _ _ n=>n)
  (λb o hc e=>⟨o,k b o hc e⟩) (λ_ _ e=>e) (λ_ _ _ e=>e) (λb ps e=>⟨#[],by rw[e];simp⟩) (λm hm=>?_) (λb u e=>?_) I.bare
 ·obtain⟨_,g1,g2,g3,g4,g5⟩:=hf b hb;exact⟨g3,g1,g4,g5⟩
 ·obtain⟨o,es,ep,ho,r⟩:=hm;exact⟨o,es,ep,k _ o (λz=>(hf _ z).2.1 rfl) ho,r⟩
 ·refine (I.aL b u e).iC (λc v hc q=>k c v ?_ q) (λ_ q=>q) (λ_ _ q=>q) λ_ _ _ q=>q;rcases hc with z|z
  ·rw[z];exact nf b u e
  ·exact nf c _ z
def Inv.oh{t':Nat}(I:Inv X pins σ H s)(hf:∀b∈fp,ko X pins H b)(hp:s.heap.objs.size<=p)(k:∀b o,b∉fp->s.heap.get? b=some o->h'.get? b=some o)
  (new:aN X.prog X.w (upd H p o) h' p o):Inv X pins σ (upd H p o) {s with heap:=h',toks:=t'}:=by
 have nf:∀b u,H b=some u->b∉fp:=λb u e z=>by rw[(hf b z).1] at e;cases e
 have fr:H p=none:=I.aL.fresh hp;have np:∀b u,H b=some u->b≠p:=λb u e=>aq e fr;have ne:∀b o,s.heap.get? b=some o->b≠p:=λb o e z=>by rw[z] at e;exact absurd (KI (Kz e) hp) (LZ _)
 refine I.step (g':=s.gens) (d':=s.drawn) (ch:=fp) (λb hb=>?_) (λb o _ _ hc e _=>k b o hc e) (λb o _ _ hc e _=>⟨o.slots,k b o hc e⟩) (λb o _ e n=>by rw[ae (ne b o e)];exact n)
  (λb o hc e=>⟨o,k b o hc e⟩) (λb xs e=>by rw[ae (np b _ e)];exact e) (λb o u e=>by rw[ae (np b _ e)];exact e) (λb ps e=>⟨#[],by rw[ae (np b _ e),e];simp⟩) (λm hm=>?_) (λb u e=>?_) I.bare
 ·obtain⟨_,g1,g2,g3,g4,g5⟩:=hf b hb;exact⟨g3,g1,g4,g5⟩
 ·obtain⟨o,es,ep,ho,r⟩:=hm;exact⟨o,es,ep,k _ o (λz=>(hf _ z).2.1 rfl) ho,r⟩
 ·by_cases hb:b=p
  ·subst hb;rw[aa] at e;cases e;exact new
  ·rw[ae hb] at e;refine (I.aL b u e).iC (λc v hc q=>k c v ?_ q) (λc q=>by rw[ae (np c _ q)];exact q) (λc xs q=>by rw[ae (np c _ q)];exact q) λc _ _ q=>by rw[ae (np c _ q)];exact q
   rcases hc with z|z
   ·rw[z];exact nf b u e
   ·exact nf c _ z
end
def getL(K:W.Frag)(a:Addr):Nat->Hp->V->Prop:=λi H x=>∃xs,a_ K H a xs/\xs[i]?=some x
def IJ(K:W.Frag)(a:Addr):Nat->Hp->V->Prop:=λi H x=>∃xs,bu K H a xs/\xs[i]?=some x
def IK(K:W.Frag)(a:Addr):Nat->Hp->Prop:=λi H=>∃xs,a_ K H a xs/\xs.length=i
def I_(K:W.Frag)(a:Addr):Nat->Hp->Prop:=λi H=>∃xs,bu K H a xs/\xs.length=i
def zW(K:W.Frag)(a:Addr):It:=
 ⟨λi H=>∃x,IJ K a i H x,λi H x H'=>∃p y,(∀xs,bu K H a xs->xs[i]?=some y)/\H p=none/\x=.ref p/\H'=upd H p (.tup [.int i,y]),I_ K a⟩
def rg{tk:Nat}{tp:Pos}(a it e:Addr)(hne:e≠it):Turn P w K (.Tuple es tk tp) (zW K a) [e,it] e (λi h=>(∃old,IsEnum h e it i old)/\h.IsTupleIter it a i) where
 mem:=by simp
 obj:=λi h st b hb=>by
  obtain⟨⟨old,he⟩,o,eo,c,d⟩:=st;rcases Kv.mp hb with z|z
  ·subst z;exact⟨_,he,λv z=>by cases z⟩
  ·have z:b=it:=by simpa using z
   subst z;exact⟨o,eo,λv z=>by rw[d] at z;cases z⟩
 keep:=λi h h' st k=>by
  obtain⟨⟨old,he⟩,o,eo,r⟩:=st;exact⟨⟨old,k e (by simp) _ he⟩,o,k it (by simp) o eo,r⟩
 item:=by
  intro X hP hw hK hc i pins s σ H E I hf st hg;subst hP hw hK;obtain⟨x,xs,hq,hx⟩:=hg;obtain⟨⟨old,he⟩,hit⟩:=st;obtain⟨its,rv,p,hz⟩:=I.tuple hq;obtain⟨u,hu,ru⟩:=rv.get hx;obtain⟨g0,g1,g2,g3,g4,g5⟩:=hf e (by simp)
  obtain⟨f0,f1,f2,f3,f4,f5⟩:=hf it (by simp)
  have ht:s.heap.IsTuple a its.toArray:=p;have ha:a≠it:=by
   rintro rfl;obtain⟨o,e1,c1,_⟩:=hit;obtain⟨o',e2,c2,_⟩:=ht;rw[e1] at e2;cases e2;rw[c1] at c2;exact absurd (Value.type.inj c2) (by decide)
  have hea:e≠a:=by
   rintro rfl;obtain⟨o',e2,c2,_⟩:=ht;have e1:s.heap.get? e=some _:=he;rw[e1] at e2;cases e2;exact absurd (Value.type.inj c2) (by decide)
  have hi:i<its.toArray.size:=by
   have:=(Kl.mp hu).1
   simpa using this
  refine OH (i_ (A:=X.A.in1) (I.ok.hd hc) it a ha its.toArray) he ⟨hit,ht⟩ hi hne (by simp[hne,hea]) λx' h' tk' hP ho hs' hT hsz hk=>?_
  have ex:x'=u:=by
   have hP':its.toArray[i]?=some x':=hP;rw[Lp,hu] at hP';exact (Option.some.inj hP').symm
  subst ex;refine⟨.ref s.heap.objs.size,rfl,Om ho λh2 he2 hs2=>?_⟩;have fr:H s.heap.objs.size=none:=I.aL.fresh (Kp _);have hle:e≠s.heap.objs.size:=KH (Kz he);have hT2:h2.get? s.heap.objs.size=some {cls:=.type "tuple",data:=.seq #[.int i tk',x']}:=(hs2.2 _ (Lk hle)).trans hT;have I2:Inv X pins σ (upd H s.heap.objs.size (.tup [.int i,x])) {s with heap:=h2,toks:=tk'+1}:=by
   refine I.oh (fp:=[e,it]) hf (Kp _) (λb o hb eb=>?_) ⟨by show 2<=sizeLine;decide,[.int i tk',x'],.cons ⟨_,rfl⟩ (.cons ru .nil),⟨_,hT2,rfl,_,rfl,rfl⟩⟩
   have n1:b≠e:=λz=>hb (by simp[z])
   have n2:b≠it:=λz=>hb (by simp[z])
   exact (hs2.2 b n1).trans (hk b o n1 n2 eb)
  refine⟨.ref s.heap.objs.size,_,I2,rfl,⟨s.heap.objs.size,x,λys hy=>by rw[I.iY hy hq];exact hx,fr,rfl,rfl⟩,⟨⟨x',?_⟩,?_⟩,λb hb=>?_⟩
  ·have e:(((i+1:Nat)):Int)=(i:Int)+1:=by lia
   rw[e];exact he2
  ·obtain⟨o,e1,r⟩:=hs'.1;exact⟨o,(hs2.2 it (Lk hne)).trans e1,r⟩
  ·have n:b≠s.heap.objs.size:=by
    rcases Kv.mp hb with z|z
    ·subst z;exact hle
    ·have z:b=it:=by simpa using z
     subst z;obtain⟨o,e1,_⟩:=hit;exact KH (Kz e1)
   rw[ae n];exact (hf b hb).1
 done:=by
  intro X hP hw hK hc i pins s σ H E I hf st hg;subst hP hw hK;obtain⟨xs,hq,hx⟩:=hg;obtain⟨⟨old,he⟩,hit⟩:=st;obtain⟨its,rv,p,hz⟩:=I.tuple hq;have ht:s.heap.IsTuple a its.toArray:=p;have ha:a≠it:=by
   rintro rfl;obtain⟨o,e1,c1,_⟩:=hit;obtain⟨o',e2,c2,_⟩:=ht;rw[e1] at e2;cases e2;rw[c1] at c2;exact absurd (Value.type.inj c2) (by decide)
  have hl:=rv.length;have hsz:its.toArray.size=i:=by simp;lia
  refine OU (i_ (A:=X.A.in1) (I.ok.hd hc) it a ha its.toArray) he (by rw[hsz];exact⟨hit,ht⟩) λh' eb=>⟨rfl,?_⟩
  exact I.turns (t':=s.toks) hf λb o hb e1=>eb b o (λz=>hb (by simp[z])) e1
 self:=λA i s Q E st h=>by
  obtain⟨⟨old,he⟩,_⟩:=st;exact N7 he h
section
variable {X:Cx} {es:List Expr} {tk:Nat} {tp:Pos}
def qr(K:W.Frag)(ta:TA):TI:=λσ H R=>ta σ H λvs H1=>∃a,vs=[.ref a]/\(∃xs,bu K H1 a xs)/\R (zW K a) H1
def Cs{e:Expr}{p pos:Pos}(hg:Gl X "enumerate")(hm:X.mg "enumerate"=none)(ha:PA X [e] ta)(h1:autoParam (cW e=true) ℜ0)(hv:autoParam (bootBuiltins "enumerate"=some (.type "enumerate")) ℜ6):
  PI X (.Tuple es tk tp) (.Call (.Name "enumerate" p) [e] [] pos) (qr X.K ta):=by
 intro pins s σ H R I h;refine Call_ (eF I hg hm hv (Lw (bH (ha pos pins s σ H _ I h) λus s1 hq1=>?_) (bN h1) rfl));obtain⟨vs,H1,I1,r1,q1⟩:=hq1;obtain⟨a,e,⟨xs,hq⟩,q⟩:=q1;subst e;obtain⟨u,rfl,ru⟩:=vals1 r1;cases ru;obtain⟨its,rv,pt,hz⟩:=I1.tuple hq;refine lI (show s1.heap.IsTuple a its.toArray from pt) λh' he hit hsz hk=>?_;refine N7 he ?_;have I2:Inv X pins σ H1 {s1 with heap:=h'}:=I1.kept (t':=s1.toks) hk
 refine⟨s1.heap.objs.size+1,[s1.heap.objs.size+1,s1.heap.objs.size],_,_,H1,rfl,I2,rg a s1.heap.objs.size (s1.heap.objs.size+1) (LX (Nat.lt_succ_self _)),⟨⟨_,he⟩,hit⟩,λb hb=>?_,q⟩;have hb':s1.heap.objs.size<=b:=by
  rcases Kv.mp hb with z|z
  ·rw[z];exact LY _
  ·have z:b=s1.heap.objs.size:=by simpa using z
   rw[z];exact Kp _
 exact I1.nH hb' (I1.aL.fresh hb')
def Ac(K:W.Frag)(tl:TE):TI:=λσ H R=>tl σ H λx H1=>match x with
 |.ref a=>match sq H1 a with
  |some (true,_)=>R (Ab K a) H1
  |some (false,_)=>R (uT K a) H1
  |none=>(∃xs,bu K H1 a xs)/\R (uT K a) H1
 |_=>False
def Ff{l:Expr}(hl:PE X l tl):PI X tg l (Ac X.K tl):=by
 intro pins s σ H R I h;refine bH (hl pins s σ H _ I h) λv s1 hq2=>?_;obtain⟨x,H1,I1,r1,q1⟩:=hq2;obtain⟨a,rfl,q⟩:∃a,x=V.ref a/\(((∃xs,a_ X.K H1 a xs)/\R (Ab X.K a) H1)\/((∃xs,bu X.K H1 a xs)/\R (uT X.K a) H1)):=by
  match x,q1 with
  |.ref a,q1 =>
   simp only at q1
   split at q1
   ·rename_i xs e;exact⟨a,rfl,.inl ⟨⟨xs,gc e⟩,q1⟩⟩
   ·rename_i xs e;exact⟨a,rfl,.inr ⟨⟨xs,fQ e⟩,q1⟩⟩
   ·exact⟨a,rfl,.inr q1⟩
 cases r1;rcases q with ⟨⟨xs,hq⟩,q⟩|⟨⟨xs,hq⟩,q⟩
 ·obtain⟨its,rv,p,hz⟩:=I1.list hq;refine N8 p.isList ?_;refine⟨s1.heap.objs.size,[s1.heap.objs.size],_,_,H1,rfl,I1.kept (t':=s1.toks) λb o e=>Kk _ e,lT a _,⟨_,K1 _ rfl,rfl,rfl⟩,λb hb=>?_,q⟩;have e:b=s1.heap.objs.size:=by simpa using hb
  subst e;exact I1.nH (Kp _) (I1.aL.fresh (Kp _))
 ·obtain⟨its,rv,p,hz⟩:=I1.tuple hq;refine MK (show s1.heap.IsTuple a its.toArray from p) ?_;refine⟨s1.heap.objs.size,[s1.heap.objs.size],_,_,H1,rfl,I1.kept (t':=s1.toks) λb o e=>Kk _ e,jJ a _,⟨_,K1 _ rfl,rfl,rfl⟩,λb hb=>?_,q⟩;have e:b=s1.heap.objs.size:=by simpa using hb
  subst e;exact I1.nH (Kp _) (I1.aL.fresh (Kp _))
end
def nX(J:It)(g:TG)(tb:TS)(D:Ends)(σ:St)(H:Hp):Prop:=∃W:Nat->Nat->St->Hp->Prop,(∃m,W 0 m σ H)/\∀i m σ H,W i m σ H ->
 (J.stop i H/\D.nx σ H)\/(J.go i H/\∃N:St->Hp->Prop,(∀σ' H',N σ' H'->∃m',m'<m/\W (i+1) m' σ' H')/\∀x H',J.CD i H x H'->g x σ H' λσ2 H2=>tb {D with nx:=N,ct:=N,bk:=D.nx} σ2 H2)
def AY(wi:TI)(g:TG)(tb:TS)(D:Ends)(σ:St)(H:Hp):DU wi g tb D σ H=wi σ H λJ H1=>nX J g tb D σ H1:=rfl
def iA(J:It)(k:Nat)(g:TG)(tc:TT)(te:TE)(Q:VK)(σ:St)(H1:Hp):Prop:=∀D,H1 D=none ->
 ∃W:Nat->Nat->List V->St->Hp->Prop,(∃m,W 0 m [] (List.replicate k none++σ) (upd H1 D (.lst [])))/\∀i m ys σ' H',W i m ys σ' H'->H' D=some (.lst ys) /\
  ((J.stop i H'/\Q (.ref D) H')\/(J.go i H'/\ys.length<sizeLine/\∀x H2,J.CD i H' x H2->g x σ' H2 λσ3 H3=>tc σ3 H3 λb H4 =>
   if b=true then te σ3 H4 λv H5=>H5 D=some (.lst ys)/\∃m',m'<m/\W (i+1) m' (ys++[v]) σ3 (upd H5 D (.lst (ys++[v])))
   else ∃m',m'<m/\W (i+1) m' ys σ3 H4))
def xH(wi:TI)(k:Nat)(g:TG)(tc:TT)(te:TE)(σ:St)(H:Hp)(Q:VK):eR wi k g tc te σ H Q=wi σ H λJ H1=>iA J k g tc te Q σ H1:=rfl
section
variable {K:W.Frag} {g:TG} {tb:TS} {D:Ends} {σ:St} {H:Hp} {te:TE} {Q:VK}
def gn(Pv:Nat->St->Hp->Prop)(h0:Pv 0 σ H)(hl:∀i σ H,i<=xs.length->Pv i σ H->a_ K H a xs)
  (hs:∀i x σ H,xs[i]?=some x->Pv i σ H->g x σ H λσ2 H2=>tb {D with nx:=Pv (i+1),ct:=Pv (i+1),bk:=D.nx} σ2 H2) (hd:∀σ H,Pv xs.length σ H->D.nx σ H):nX (Ab K a) g tb D σ H:=yF Pv h0 hl hs hd
def jE(Pv:Nat->St->Hp->Prop)(h0:Pv 0 σ H)(hl:∀i σ H,i<=xs.length->Pv i σ H->bu K H a xs)
  (hs:∀i x σ H,xs[i]?=some x->Pv i σ H->g x σ H λσ2 H2=>tb {D with nx:=Pv (i+1),ct:=Pv (i+1),bk:=D.nx} σ2 H2) (hd:∀σ H,Pv xs.length σ H->D.nx σ H):nX (uT K a) g tb D σ H:=AV Pv h0 hl hs hd
def bP{n:Nat}(Pv:Nat->St->Hp->Prop)(h0:Pv 0 σ H)
  (hs:∀i σ H,i<n->Pv i σ H->g (.int (lo+i)) σ H λσ2 H2=>tb {D with nx:=Pv (i+1),ct:=Pv (i+1),bk:=D.nx} σ2 H2) (hd:∀σ H,Pv n σ H->D.nx σ H):nX (y8 lo n) g tb D σ H:=u6 Pv h0 hs hd
def sf(Pv:Nat->St->Hp->Prop)(h0:Pv 0 σ H)(hl:∀i σ H,i<=xs.length->Pv i σ H->bu K H a xs)
  (hs:∀i x σ H p,xs[i]?=some x->Pv i σ H->H p=none->g (.ref p) σ (upd H p (.tup [.int i,x])) λσ2 H2=>tb {D with nx:=Pv (i+1),ct:=Pv (i+1),bk:=D.nx} σ2 H2) (hd:∀σ H,Pv xs.length σ H->D.nx σ H) :
  nX (zW K a) g tb D σ H:=by
 refine⟨λi m σ H=>m=xs.length-i/\i<=xs.length/\Pv i σ H,⟨xs.length,by simp,K4 _,h0⟩,?_⟩
 rintro i m σ H ⟨rfl,hi,p⟩;have q:=hl i σ H hi p;by_cases hlt:i<xs.length
 ·refine .inr ⟨⟨xs[i],xs,q,by simp[hlt]⟩,Pv (i+1),λσ' H' p'=>⟨xs.length-(i+1),by lia,rfl,hlt,p'⟩,λx H' y=>?_⟩
  obtain⟨b,y,hy,fr,rfl,rfl⟩:=y;exact hs i y σ H b (hy xs q) p fr
 ·have e:i=xs.length:=by lia
  subst e;exact .inl ⟨⟨xs,q,rfl⟩,hd σ H p⟩
def jj{n:Nat}(hn:n<=sizeLine)(Pv:Addr->Nat->List V->Hp->Prop)(h0:∀D,H D=none->Pv D 0 [] (upd H D (.lst [])))(hD:∀D i ys H',Pv D i ys H'->H' D=some (.lst ys)/\ys.length=i)
  (hs:∀D i ys H' (R:VK),i<n->Pv D i ys H'->(∀v H5,H5 D=some (.lst ys)->Pv D (i+1) (ys++[v]) (upd H5 D (.lst (ys++[v])))->R v H5)->te (some (.int (lo+i))::σ) H' R) (hd:∀D ys H',Pv D n ys H'->Q (.ref D) H') :
  iA (y8 lo n) 1 (aO 0) dz te Q σ H:=by
 intro D hD0;refine⟨λi m ys σ' H'=>m=n-i/\i<=n/\Pv D i ys H'/\∃o,σ'=o::σ,⟨n,by simp,K4 _,h0 D hD0,none,rfl⟩,?_⟩
 rintro i m ys σ' H' ⟨rfl,hi,p,o,rfl⟩;obtain⟨hDi,hly⟩:=hD _ _ _ _ p;refine⟨hDi,?_⟩;by_cases hlt:i<n
 ·refine .inr ⟨hlt,by lia,λx H2 y=>?_⟩
  obtain⟨rfl,rfl⟩:=y;unfold aO dz;dsimp only;rw[if_pos rfl];exact hs D i ys H2 _ hlt p λv H5 q1 q2=>⟨q1,n-(i+1),by lia,rfl,hlt,q2,_,rfl⟩
 ·have e:i=n:=by lia
  subst e;exact .inl ⟨Kp _,hd D ys H' p⟩
def d5(hn:xs.length<=sizeLine)(Pv:Addr->Nat->List V->Hp->Prop)(h0:∀D,H D=none->Pv D 0 [] (upd H D (.lst [])))(hD:∀D i ys H',Pv D i ys H'->H' D=some (.lst ys)/\ys.length=i)
  (hl:∀D i ys H',Pv D i ys H'->bu K H' a xs)
  (hs:∀D i ys H' x (R:VK),xs[i]?=some x->Pv D i ys H'->(∀v H5,H5 D=some (.lst ys)->Pv D (i+1) (ys++[v]) (upd H5 D (.lst (ys++[v])))->R v H5)->te (some x::σ) H' R) (hd:∀D ys H',Pv D xs.length ys H'->Q (.ref D) H') :
  iA (uT K a) 1 (aO 0) dz te Q σ H:=by
 intro D hD0;refine⟨λi m ys σ' H'=>m=xs.length-i/\i<=xs.length/\Pv D i ys H'/\∃o,σ'=o::σ,⟨xs.length,by simp,K4 _,h0 D hD0,none,rfl⟩,?_⟩
 rintro i m ys σ' H' ⟨rfl,hi,p,o,rfl⟩;obtain⟨hDi,hly⟩:=hD _ _ _ _ p;have q:=hl _ _ _ _ p;refine⟨hDi,?_⟩;by_cases hlt:i<xs.length
 ·refine .inr ⟨⟨xs,xs[i],q,by simp[hlt]⟩,by lia,λx H2 y=>?_⟩
  obtain⟨rfl,y⟩:=y;unfold aO dz;dsimp only;rw[if_pos rfl];exact hs D i ys H2 x _ (y xs q) p λv H5 q1 q2=>⟨q1,xs.length-(i+1),by lia,rfl,hlt,q2,_,rfl⟩
 ·have e:i=xs.length:=by lia
  subst e;exact .inl ⟨⟨xs,q,Kp _⟩,hd D ys H' p⟩
end
namespace Ap
def jQ(i:Nat)(σ:St)(H:Hp)(Q:VK):L2.jQ i σ H Q=∃v,σ[i]?=some (some v)/\Q v H:=rfl
def tC(v:V)(σ:St)(H:Hp)(Q:VK):L2.tC v σ H Q=Q v H:=rfl
def x9(r:R2)(ta tb:TE)(σ:St)(H:Hp)(Q:VK):L2.x9 r ta tb σ H Q=ta σ H λx H1=>tb σ H1 λy H2=>r x y H2 Q:=rfl
def Hj(r:V->Hp->VK->Prop)(ta:TE)(σ:St)(H:Hp)(Q:VK):L2.Hj r ta σ H Q=ta σ H λx H1=>r x H1 Q:=rfl
def kA(t:TE)(σ:St)(H:Hp)(Q:Bool->Hp->Prop):L2.kA t σ H Q=t σ H λx H'=>∃k,x=.bl k/\Q k H':=rfl
def HN(t:TT)(ta tb:TE)(σ:St)(H:Hp)(Q:VK):L2.HN t ta tb σ H Q=t σ H λc H1=>if c=true then ta σ H1 Q else tb σ H1 Q:=rfl
def xr(t u:TT)(σ:St)(H:Hp)(Q:Bool->Hp->Prop):L2.xr t u σ H Q=t σ H λc H1=>if c=true then u σ H1 Q else Q false H1:=rfl
def Gn(t u:TT)(σ:St)(H:Hp)(Q:Bool->Hp->Prop):L2.Gn t u σ H Q=t σ H λc H1=>if c=true then Q true H1 else u σ H1 Q:=rfl
def w8(t:TT)(σ:St)(H:Hp)(Q:Bool->Hp->Prop):L2.w8 t σ H Q=t σ H λc H1=>Q (!c) H1:=rfl
def qi(ta tb:TE)(σ:St)(H:Hp)(Q:VK):L2.qi ta tb σ H Q=ta σ H λx H1=>∃c,x=.bl c/\if c=true then tb σ H1 Q else Q (.bl false) H1:=rfl
def jR(r r':R2)(ta tb tc:TE)(σ:St)(H:Hp)(Q:VK):L2.jR r r' ta tb tc σ H Q=ta σ H λx H1=>tb σ H1 λy H2=>r x y H2 λz H3=>∃k,z=.bl k/\(if k=true then tc σ H3 λw' H4=>r' y w' H4 Q else Q (.bl false) H3):=rfl
def tK(vs:List V)(σ:St)(H:Hp)(Q:List V->Hp->Prop):L2.tK vs σ H Q=Q vs H:=rfl
def kh(σ:St)(H:Hp)(Q:List V->Hp->Prop):L2.kh σ H Q=Q [] H:=rfl
def iy(ta:TE)(tr:TA)(σ:St)(H:Hp)(Q:List V->Hp->Prop):L2.iy ta tr σ H Q=ta σ H λx H1=>tr σ H1 λxs H2=>Q (x::xs) H2:=rfl
def zE(t:TA)(σ:St)(H:Hp)(Q:VK):L2.zE t σ H Q=t σ H λxs H1=>xs.length<=sizeLine/\∀p,H1 p=none->Q (.ref p) (upd H1 p (.tup xs)):=rfl
def wW(t:TA)(σ:St)(H:Hp)(Q:VK):L2.wW t σ H Q=t σ H λxs H1=>xs.length<=sizeLine/\∀p,H1 p=none->Q (.ref p) (upd H1 p (.lst xs)):=rfl
def gI(sp:Sp)(dvs:List V)(E:XK)(t:TA)(σ:St)(H:Hp)(Q:VK):L2.gI sp dvs E t σ H Q=t σ H λvs H1=>sp (vs++dvs) H1 Q E:=rfl
def B7(r:List V->Hp->VK->Prop)(t:TA)(σ:St)(H:Hp)(Q:VK):L2.B7 r t σ H Q=t σ H λvs H1=>r vs H1 Q:=rfl
def Fs(K:W.Frag)(T:String)(r:V->List V->Hp->VK->Prop)(to:TE)(t:TA)(σ:St)(H:Hp)(Q:VK):L2.Fs K T r to t σ H Q=to σ H λx H1=>Hx K T x H1/\t σ H1 λxs H2=>r x xs H2 Q:=rfl
def zj(K:W.Frag)(T:String)(r:V->List V->Hp->VK->Prop)(to:TE)(σ:St)(H:Hp)(Q:VK):L2.zj K T r to σ H Q=to σ H λx H1=>Hx K T x H1/\r x [] H1 Q:=rfl
def Ho(r:V->Option Int->Option Int->Hp->VK->Prop)(te:TE)(tl th:TO)(σ:St)(H:Hp)(Q:VK):L2.Ho r te tl th σ H Q=te σ H λx H1=>tl σ H1 λl H2=>th σ H2 λu H3=>r x l u H3 Q:=rfl
def ip(σ:St)(H:Hp)(Q:Option Int->Hp->Prop):L2.ip σ H Q=Q none H:=rfl
def oW(t:TE)(σ:St)(H:Hp)(Q:Option Int->Hp->Prop):L2.oW t σ H Q=t σ H λx H1=>∃i,x=.int i/\Q (some i) H1:=rfl
def vp(t u:TS)(D:Ends)(σ:St)(H:Hp):L2.vp t u D σ H=t {D with nx:=u D} σ H:=rfl
def km(te:TE)(g:TG)(D:Ends)(σ:St)(H:Hp):L2.km te g D σ H=te σ H λx H1=>g x σ H1 D.nx:=rfl
def aO(i:Nat)(v:V)(σ:St)(H:Hp)(Q:St->Hp->Prop):L2.aO i v σ H Q=Q (σ.set i (some v)) H:=rfl
def xo(to ti:TE)(t:BC)(v:V)(σ:St)(H:Hp)(Q:St->Hp->Prop):L2.xo to ti t v σ H Q=to σ H λo H1=>ti σ H1 λi H2=>t o i v H2 λH3=>Q σ H3:=rfl
def d6(t:TG)(u:xI)(v:V)(vs:List V)(σ:St)(H:Hp)(Q:St->Hp->Prop):L2.d6 t u (v::vs) σ H Q=t v σ H λσ' H'=>u vs σ' H' Q:=by
 refine propext ⟨λhq1=>?_,λh=>⟨v,vs,rfl,h⟩⟩;obtain⟨a,b,e,h⟩:=hq1
 cases e;exact h
def lL(σ:St)(H:Hp)(Q:St->Hp->Prop):L2.lL [] σ H Q=Q σ H:=propext ⟨λh=>h.2,λh=>⟨rfl,h⟩⟩
def yb(te:TE)(D:Ends)(σ:St)(H:Hp):L2.yb te D σ H=te σ H D.rt:=rfl
def pZ(te:TE)(D:Ends)(σ:St)(H:Hp):L2.pZ te D σ H=te σ H λ_ H1=>D.nx σ H1:=rfl
def mX(c:TT)(t u:TS)(D:Ends)(σ:St)(H:Hp):L2.mX c t u D σ H=c σ H λb H1=>if b=true then t D σ H1 else u D σ H1:=rfl
def pA(D:Ends)(σ:St)(H:Hp):L2.pA D σ H=D.nx σ H:=rfl
def mQ(ta:TA)(σ:St)(H:Hp)(R:It->Hp->Prop):L2.mQ ta σ H R=ta σ H λvs H1=>∃j:Int,vs=[.int j]/\-(2^62)<=j/\j<2^62/\R (y8 0 j.toNat) H1:=rfl
def ma(ta:TA)(σ:St)(H:Hp)(R:It->Hp->Prop):L2.ma ta σ H R=ta σ H λvs H1=>∃i j:Int,vs=[.int i,.int j]/\(-(2^62)<=i/\i<2^62/\-(2^62)<=j/\j<2^62)/\R (y8 i (j-i).toNat) H1:=rfl
theorem Ac(K:W.Frag)(tl:TE)(σ:St)(H:Hp)(R:It->Hp->Prop):L2.Ac K tl σ H R=tl σ H λx H1=>match x with
 |.ref a=>match sq H1 a with
  |some (true,_)=>R (Ab K a) H1
  |some (false,_)=>R (uT K a) H1
  |none=>(∃xs,bu K H1 a xs)/\R (uT K a) H1
 |_=>False:=rfl
def qr(K:W.Frag)(ta:TA)(σ:St)(H:Hp)(R:It->Hp->Prop):L2.qr K ta σ H R=ta σ H λvs H1=>∃a,vs=[.ref a]/\(∃xs,bu K H1 a xs)/\R (zW K a) H1:=rfl
def rI(C:Int->Int->Prop)(g:Int->Int->V)(i j:Int)(H:Hp)(Q:VK):L2.rI C g (.int i) (.int j) H Q=(C i j/\Q (g i j) H):=by
 refine propext ⟨λhq2=>?_,λh=>⟨i,j,rfl,rfl,h⟩⟩;obtain⟨a,b,e1,e2,h⟩:=hq2
 cases e1;cases e2;exact h
def yU(g:Int->Int->V)(i j:Int)(H:Hp)(Q:VK):L2.yU g (.int i) (.int j) H Q=Q (g i j) H:=by
 refine propext ⟨λhq3=>?_,λh=>⟨i,j,rfl,rfl,h⟩⟩;obtain⟨a,b,e1,e2,h⟩:=hq3
 cases e1;cases e2;exact h
def rU(g:Int->V)(i:Int)(H:Hp)(Q:VK):L2.rU g (.int i) H Q=Q (g i) H:=by
 refine propext ⟨λhq4=>?_,λh=>⟨i,rfl,h⟩⟩;obtain⟨a,e1,h⟩:=hq4
 cases e1;exact h
def Ia(K:W.Frag)(i j:Int)(H:Hp)(Q:VK):rX K (.int i) (.int j) H Q=Q (.int (i+j)) H:=rfl
def HQ(K:W.Frag)(i j:Str)(H:Hp)(Q:VK):rX K (.str i) (.str j) H Q=(i.length+j.length<=sizeLine/\Q (.str (i++j)) H):=rfl
def G5(i j:Int)(H:Hp)(Q:VK):DS (.int i) (.int j) H Q=(yj i j/\Q (.int (i*j)) H):=rfl
def Jf(i j:Int)(H:Hp)(Q:VK):FY (.int i) (.int j) H Q=Q (.bl (decide (i=j))) H:=by
 have e:decide (V.int i=V.int j)=decide (i=j):=by rw[Mb];constructor<;>intro h<;>(try cases h)<;>(try rw[h])<;>rfl
 unfold FY;rw[e];exact propext ⟨λh=>h.2,λh=>⟨rfl,h⟩⟩
def Jc(i j:Str)(H:Hp)(Q:VK):FY (.str i) (.str j) H Q=Q (.bl (decide (i=j))) H:=by
 have e:decide (V.str i=V.str j)=decide (i=j):=by rw[Mb];constructor<;>intro h<;>(try cases h)<;>(try rw[h])<;>rfl
 unfold FY;rw[e];exact propext ⟨λh=>h.2,λh=>⟨rfl,h⟩⟩
def Jx(i j:Int)(H:Hp)(Q:VK):Fp (.int i) (.int j) H Q=Q (.bl (!decide (i=j))) H:=by
 have e:decide (V.int i=V.int j)=decide (i=j):=by rw[Mb];constructor<;>intro h<;>(try cases h)<;>(try rw[h])<;>rfl
 unfold Fp;rw[e];exact propext ⟨λh=>h.2,λh=>⟨rfl,h⟩⟩
def Je(i j:Str)(H:Hp)(Q:VK):Fp (.str i) (.str j) H Q=Q (.bl (!decide (i=j))) H:=by
 have e:decide (V.str i=V.str j)=decide (i=j):=by rw[Mb];constructor<;>intro h<;>(try cases h)<;>(try rw[h])<;>rfl
 unfold Fp;rw[e];exact propext ⟨λh=>h.2,λh=>⟨rfl,h⟩⟩
def ID(K:W.Frag)(b:Bool)(H:Hp)(k:Bool):xX K (.bl b) H k=(k=b):=rfl
end Ap
def KB(ex:List Addr)(H H':Hp):Prop:=∀b o,H b=some o->b∉ex->H' b=some o
def KB.refl(ex:List Addr)(H:Hp):KB ex H H:=λ_ _ e _=>e
def KB.trans{H1 H2:Hp}(a:KB ex H H1)(b:KB ex H1 H2):KB ex H H2:=λc o e n=>b c o (a c o e n) n
def KB.mono{ex':List Addr}(h:KB ex H H')(s:∀b∈ex,b∈ex'):KB ex' H H':=λb o e n=>h b o e λz=>n (s b z)
def KB.all(h:KB [] H H'):KB ex H H':=h.mono (by simp)
def KB.new(h:H p=none):KB ex H (upd H p o):=λb u e _=>by rw[ae (aq e h)];exact e
def KB.set(h:p∈ex):KB ex H (upd H p o):=λb u e n=>by rw[ae (λ(z:b=p)=>n (by rw[z];exact h))];exact e
def KB.free(h:KB ex H H'){b:Addr}(n:b∉ex)(e:H' b=none):H b=none:=by
 cases q:H b with
 |none=>rfl
 |some o=>rw[h b o q n] at e;cases e
def KB.HG(h:KB ex H H')(n:a∉ex)(q:a_ K H a xs):a_ K H' a xs:=by
 rcases q with (q|⟨o,q⟩)|q
 ·exact .inl (.inl (h _ _ q n))
 ·exact .inl (.inr ⟨o,h _ _ q n⟩)
 ·exact .inr q
def Ge(x:α)(r:List α):bS (x::r) 0=some x:=bw (j:=0) rfl
def Ja(a x:α)(r:List α):bS (a::x::r) 1=some x:=bw (j:=1) rfl
def Jg(a b x:α)(r:List α):bS (a::b::x::r) 2=some x:=bw (j:=2) rfl
def IS(a b c x:α)(r:List α):bS (a::b::c::x::r) 3=some x:=bw (j:=3) rfl
def nB{n:Nat}{i:Int}(h0:0<=i)(h:i<n):jO n i=some i.toNat:=by unfold jO;rw[Ku h0,Ku h]
namespace Ap
def HZ(K:W.Frag)(p:Addr)(i:Int)(H:Hp)(Q:VK):B0 K (.ref p) (.int i) H Q=(match sq H p with
  |some (_,xs)=>(match bS xs i with|some v=>Q v H|none=>False)
  |none=>∃xs v,bu K H p xs/\bS xs i=some v/\Q v H):=rfl
def Gz(K:W.Frag)(z:Str)(i:Int)(H:Hp)(Q:VK):B0 K (.str z) (.int i) H Q=(z.length<=sizeLine/\(match bS z.cps.toList i with|some c=>Q (.str ⟨#[c]⟩) H|none=>False)):=rfl
def setRef(p:Addr)(k:Int)(v:V)(H:Hp)(Q:Hp->Prop):Bj (.ref p) (.int k) v H Q=(match H p with
  |some (.lst xs)=>(match jO xs.length k with|some j=>Q (upd H p (.lst (xs.set j v)))|none=>False)
  |_=>False):=rfl
def Dk(K:W.Frag)(p:Addr)(H:Hp)(Q:VK):wU K [.ref p] H Q=(match sq H p with
  |some (_,ys)=>Q (.int ys.length) H
  |none=>∃ys,bu K H p ys/\Q (.int ys.length) H):=rfl
def DP(K:W.Frag)(y:Str)(H:Hp)(Q:VK):wU K [.str y] H Q=(y.length<=sizeLine/\Q (.int y.length) H):=rfl
def GQ(i j:Int)(H:Hp)(Q:VK):HK [.int i,.int j] H Q=Q (.int (if j<i then j else i)) H:=rfl
def J8(k:Bool)(H:Hp)(Q:VK):GZ [.bl k] H Q=Q (.int (if k=true then 1 else 0)) H:=rfl
def Ds(K:W.Frag)(p:Addr)(H:Hp)(Q:VK):nj K [.ref p] H Q=(match sq H p with
  |some (true,ys)=>∀l,H l=none->Q (.ref l) (upd H l (.tup ys))
  |some (false,_)=>Q (.ref p) H
  |none=>∃ys,bu K H p ys/\Q (.ref p) H):=rfl
def G0(K:W.Frag)(p:Addr)(lo hi:Option Int)(H:Hp)(Q:VK):Iy K (.ref p) lo hi H Q=(match sq H p with
  |some (true,xs)=>∀q,H q=none->Q (.ref q) (upd H q (.lst (fE xs lo hi)))
  |some (false,xs)=>wK K (.ref p) lo hi H Q
  |none=>wK K (.ref p) lo hi H Q):=rfl
def GX(K:W.Frag)(neg:Bool)(x:V)(p:Addr)(H:Hp)(Q:VK):Fo K neg x (.ref p) H Q=(match sq H p with
  |some (_,xs)=>cu x=true/\xs.all cu=true/\Q (.bl (if neg then !iW x xs else iW x xs)) H
  |none=>∃xs,bu K H p xs/\cu x=true/\xs.all cu=true/\Q (.bl (if neg then !iW x xs else iW x xs)) H):=rfl
def Jv(K:W.Frag)(x:V)(T:String)(H:Hp)(Q:VK):Dc K [x,.ty T] H Q=(T∈["bool","int","str","list","tuple","dict"]/\match EF H x with
  |some t=>Q (.bl (iF t T)) H
  |none=>∃t b,gR K H x t/\W.kitOne K t (.type T)=some b/\Q (.bl b) H):=rfl
def addRef(K:W.Frag)(a b:Addr)(H:Hp)(Q:VK):rX K (.ref a) (.ref b) H Q=(match H a,H b with
  |some (.lst xs),some (.lst ys)=>xs.length+ys.length<=sizeLine/\∀p,H p=none->Q (.ref p) (upd H p (.lst (xs++ys)))
  |some (.tup xs),some (.tup ys)=>xs≠[]/\ys≠[]/\xs.length+ys.length<=sizeLine/\∀p,H p=none->Q (.ref p) (upd H p (.tup (xs++ys)))
  |_,_=>False):=rfl
def Ft(H:Hp)(p:Addr)(xs:List V):sq (upd H p (.lst xs)) p=some (true,xs):=au aa
def A2(H:Hp)(p:Addr)(xs:List V):sq (upd H p (.tup xs)) p=some (false,xs):=aF aa
def Ag(H:Hp)(p:Addr)(o:HO):upd H p o p=some o:=aa
end Ap
def ar{t u:TS}(h:∀N,N=u D->t {D with nx:=N} σ H):vp t u D σ H:=h _ rfl
structure QE (X:Cx) (e:Expr) (t:TE):Prop where h:PE X e t
structure QT (X:Cx) (e:Expr) (t:TT):Prop where h:PT X e t
structure QW (X:Cx) (e:Expr) (t:TT):Prop where h:PW X e t
structure QA (X:Cx) (es:List Expr) (t:TA):Prop where h:PA X es t
structure QS (X:Cx) (st:Stmt) (t:TS):Prop where h:PS X st t
structure QB (X:Cx) (sts:List Stmt) (t:TS):Prop where h:rE X sts t
structure QI (X:Cx) (tg it:Expr) (t:TI):Prop where h:PI X tg it t
structure QG (X:Cx) (e:Expr) (t:TG):Prop where h:PG X e t
structure Ig (X:Cx) (es:List Expr) (t:xI):Prop where h:Hg X es t
structure QO (X:Cx) (e:Option Expr) (t:TO):Prop where h:PO X e t
structure Eu (X:Cx) (es:List Expr) (t:TT):Prop where h:AO X es t
namespace Z
def sim(b:Expr):Bool:=match b with
 |.Name .. |.Constant .. |.Call .. |.BinOp .. |.Subscript .. |.Attribute .. |.UnaryOp .. |.Compare .. |.IfExp ..=>true
 |_=>false
def JQ(h:sim b=true):uw b:=by
 cases b<;>first | (intro _ _;rfl)|cases h
def JD(b:Expr):Bool:=match b with
 |.Name .. |.Call .. |.Subscript .. |.Attribute ..=>true
 |_=>false
def ptr(h:JD b=true):∀whole,isTrue b env whole=(do let v <- whole;standAt b.pos;holding [v] (truthy v)):=by
 cases b<;>first | (intro _;rfl)|cases h
def Ij(b:Expr):Bool:=match b with
 |.ListComp .. |.SetComp .. |.DictComp ..=>false
 |_=>true
def JR{tg:Option Expr}{l:Nat}(h:Ij b=true):swapsWith b tg l env=pure false:=by
 cases b<;>first|rfl|cases h
section
variable {X:Cx}
def aH(K:W.Frag)(hK:X.K=K):cI X (binaryOp .Add) (rX K):=by subst hK;exact BJ
def Ct(K:W.Frag)(hK:X.K=K){k:Nat}(hu:k<cLine):cI X (compareOp .In) (Fo K false):=by subst hK;exact Fb hu
def Am(K:W.Frag)(hK:X.K=K){k:Nat}(hu:k<cLine):cI X (compareOp .NotIn) (Fo K true):=by subst hK;exact uO hu
def az(K:W.Frag)(hK:X.K=K){k:Nat}(hu:k<cLine):uR X (B0 K):=by subst hK;exact JY hu
def wI(K:W.Frag)(hK:X.K=K):CM X (Iy K):=by subst hK;exact Bw
def CQ(K:W.Frag)(hK:X.K=K):CM X (GA K):=by subst hK;exact tq
def bB(K:W.Frag)(hK:X.K=K):aX X (.builtin "len") (wU K):=by subst hK;exact u_
def DG(K:W.Frag)(hK:X.K=K):aX X (.builtin "len") (λxs H Q=>∃x n,xs=[x]/\GD K x H n/\Q (.int n) H):=by subst hK;exact iB
def kD(K:W.Frag)(hK:X.K=K):aX X (.builtin "isinstance") (Dc K):=by subst hK;exact uV
def d4(K:W.Frag)(hK:X.K=K):aX X (.type "tuple") (nj K):=by subst hK;exact p8
def HE(K:W.Frag)(hK:X.K=K)(hc:X.calm=true):aX X (.builtin "sum") (λxs H Q=>∃(p:Addr) (ns:List Int),xs=[.ref p]/\a_ K H p (ns.map V.int)/\Q (.int ns.sum) H):=by subst hK;exact vL hc
def y6(K:W.Frag)(hK:X.K=K):uK X "str.join" (rJoin K):=by subst hK;exact AW
end
section
variable {X:Cx} {a b c e o:Expr} {es:List Expr} {ta tb tc te to:TE} {t:TA} {pos p p2:Pos} {tA tB':TT} {rest:List Expr} {x:Str}
def int{i:Int}:QE X (.Constant (.int i) j pos) (tC (.int i)):=⟨yE⟩
def bl{i:Bool}:QE X (.Constant (.bool i) j pos) (tC (.bl i)):=⟨CF⟩
def aI:QE X (.Constant .none j pos) (tC .aI):=⟨x_⟩
def str{i:Str}:QE X (.Constant (.str i) j pos) (tC (.str i)):=⟨xv⟩
def v(i:Nat)(hN:autoParam (X.N[i]?=some x) ℜ0)(hv:autoParam (Gq X.env.scope x) ℜ4)(hd:autoParam ((x ==("__debug__":Str))=false) ℜ1)
  (fJ:autoParam ((x ==("__classdict__":Str))=false) ℜ1):QE X (.Name x pos) (jQ i):=⟨pv i hN hv hd fJ⟩
def glob{w:V}{u:Value}(hg:Gl X x)(hm:X.mg x=some u)(r:RelV w u)(hd:autoParam ((x ==("__debug__":Str))=false) ℜ1):QE X (.Name x pos) (tC w):=⟨tP hg hm r hd⟩
def op{o:Operator}{r:R2}(ho:cI X (binaryOp o) r)(ha:QE X a ta)(hb:QE X b tb):QE X (.BinOp a o b pos) (x9 r ta tb):=⟨GY ho ha.h hb.h⟩
def un{o:UnaryOp}{r:V->Hp->VK->Prop}(ho:Ip X (unaryOp o) r)(ha:QE X a ta):QE X (.UnaryOp o a pos) (Hj r ta):=⟨GF ho ha.h⟩
def cmp{o:CmpOp}{r:R2}(ho:cI X (compareOp o) r)(ha:QE X a ta)(hb:QE X b tb)(hm:autoParam (behindInMarks o b=false) ℜ0):QE X (.Compare a [o] [b] pos) (x9 r ta tb):=⟨Cv ho ha.h hb.h hm⟩
def and(ha:QE X a ta)(hb:QE X (.BoolOp .And (b::rest) pos) tb):QE X (.BoolOp .And (a::b::rest) pos) (qi ta tb):=⟨FE ha.h hb.h⟩
def one{o:BoolOp}(ha:QE X a ta):QE X (.BoolOp o [a] pos) ta:=⟨E6 ha.h⟩
def not(ha:QE X a ta):QE X (.UnaryOp .Not a pos) (pR ta):=⟨E3 ha.h⟩
def Iu(hc:QT X c tA)(ha:QE X a ta)(hb:QE X b tb):QE X (.IfExp c a b pos) (HN tA ta tb):=⟨yl hc.h ha.h hb.h⟩
def slice{r:V->Option Int->Option Int->Hp->VK->Prop}{lo hi:Option Expr}{tl th:TO}(hr:CM X r)(he:QE X e te)(hl:QO X lo tl)(hu:QO X hi th):QE X (.Subscript e (.Slice lo hi none p2) pos) (Ho r te tl th):=⟨zR hr he.h hl.h hu.h⟩
def p9:QO X none ip:=⟨A0⟩
def gU(he:QE X e te):QO X (some e) (oW te):=⟨Av he.h⟩
def ix{r:R2}(hr:uR X r)(ha:QE X a ta)(hb:QE X b tb)(hs:autoParam (sim b=true) ℜ0):QE X (.Subscript a b pos) (x9 r ta tb):=⟨C7 hr ha.h hb.h (JQ hs)⟩
def tup{k:Nat}(h:QA X es t):QE X (.Tuple es k pos) (zE t):=⟨EE h.h⟩
def lst(h:QA X es t):QE X (.List es pos) (wW t):=⟨DW h.h⟩
def nil:QA X [] kh:=⟨rC⟩
def cons(ha:QE X e te)(hr:QA X es t)(h:autoParam (cW e=true) ℜ0):QA X (e::es) (iy te t):=⟨IV ha.h hr.h h⟩
def consts{vs:List V}(h:tm es=some vs):QA X es (tK vs):=⟨mx h⟩
def cb{id:String}(hc:aX X (.builtin id) r)(hg:Gl X x)(hm:X.mg x=none)(hv:bootBuiltins x=some (.builtin id))(ha:QA X (e::es) t)(h1:autoParam (cW e=true) ℜ0)(h2:autoParam (es.all cW=true) ℜ0)(hn:autoParam (x≠"__name__") ℜ1)(hdb:autoParam ((x ==("__debug__":Str))=false) ℜ1):
  QE X (.Call (.Name x p) (e::es) [] pos) (B7 r t):=⟨HA hc hg hm hv ha.h h1 h2 hn hdb⟩
def ct{T:String}(hc:aX X (.type T) r)(hg:Gl X x)(hm:X.mg x=none)(hv:bootBuiltins x=some (.type T))(ha:QA X (e::es) t)(h1:autoParam (cW e=true) ℜ0)(h2:autoParam (es.all cW=true) ℜ0)(hn:autoParam (x≠"__name__") ℜ1)(hdb:autoParam ((x ==("__debug__":Str))=false) ℜ1):
  QE X (.Call (.Name x p) (e::es) [] pos) (B7 r t):=⟨Hy hc hg hm hv ha.h h1 h2 hn hdb⟩
def CB{T:String}(hg:Gl X x)(hm:X.mg x=none)(hv:bootBuiltins x=some (.type T))(hn:autoParam (x≠"__name__") ℜ1)(hd:autoParam ((x ==("__debug__":Str))=false) ℜ1):QE X (.Name x pos) (tC (.ty T)):=⟨DY hg hm hv hn hd⟩
def fn{k:Nat}{ps:List Str}{E:XK}(F:ao X.prog X.w X.K X.mg X.base CX k x ps sp)(hr:bt k X.A)(hg:Gl X x)(hx:Passes CX X E)(ha:QA X (e::es) t)(h1:autoParam (cW e=true) ℜ0)(h2:autoParam (es.all cW=true) ℜ0)(hdb:autoParam ((x ==("__debug__":Str))=false) ℜ1):
  QE X (.Call (.Name x p) (e::es) [] pos) (gI sp [] E t):=⟨Ie F hr hg hx ha.h h1 h2 hdb⟩
def JL{k:Nat}{ps:List Str}{E:XK}(F:ao X.prog X.w X.K X.mg X.base CX k x ps sp)(hr:bt k X.A)(hg:Gl X x)(hx:Passes CX X E)(hdb:autoParam ((x ==("__debug__":Str))=false) ℜ1):
  QE X (.Call (.Name x p) [] [] pos) (gI sp [] E kh):=⟨EZ F hr hg hx hdb⟩
def bm(K:W.Frag)(hK:X.K=K){apos:Pos}{T id:String}{r:V->List V->Hp->VK->Prop}(pa:PlainAttrs T)(slot:Slot T name id)(hty:typeOf (.builtin id)=pure (.type "method_descriptor"))(hm:uK X id r)(ho:QE X o to)(ha:QA X (e::es) t)
  (hbase:autoParam (attributeBase o name X.env (eval o X.env)=eval o X.env) ℜ0) (hline:autoParam ((apos.endLine == pos.line)=true) ℜ0) (h:autoParam ((e::es).all cW=true) ℜ0) (hl:autoParam ((e::es).length<30) ℜ1):QE X (.Call (.Attribute o name apos) (e::es) [] pos) (Fs K T r to t):=by
 subst hK;exact⟨Du pa slot hty hm ho.h ha.h hbase hline h hl⟩
def comp{wi:TI}{tc:TT}(S:aA osc ON scope own N)(hosc:X.env.scope=osc)(hON:X.N=ON)(hc:X.calm=true)(hi:QI X tg iter wi)
  (hg:∀C s H fp,QG (aG X scope N C s H fp) tg g) (ht:∀C s H fp,Eu (aG X scope N C s H fp) ifs tc) (he:∀C s H fp,QE (aG X scope N C s H fp) elt te) (hs:autoParam (∀x,foldedSetIterable iter X.env x=pure x) ℜ3) :
  QE X (.ListComp elt [⟨tg,iter,ifs,0⟩] scope pos) (eR wi own.length g tc te):=⟨Al S hosc hON hc hi.h (λC s H fp=>(hg C s H fp).h) (λC s H fp=>(ht C s H fp).h) (λC s H fp=>(he C s H fp).h) hs⟩
def aS{o:CmpOp}{r:R2}(ho:cI X (compareOp o) r)(ha:QE X a ta)(hb:QE X b tb)(hm:autoParam (behindInMarks o b=false) ℜ0):QT X (.Compare a [o] [b] pos) (kA (x9 r ta tb)):=⟨A9 ho ha.h hb.h hm⟩
def FJ{o o':CmpOp}{r r':R2}(ho:cI X (compareOp o) r)(ho':cI X (compareOp o') r')(ha:QE X a ta)(hb:QE X b tb)(hc:QE X c tc)(hm:autoParam (lastMarks [o,o'] [b,c]=false) ℜ5):QT X (.Compare a [o,o'] [b,c] pos) (kA (jR r r' ta tb tc)):=⟨xb ho ho' ha.h hb.h hc.h hm⟩
def tw(h:QW X e tA):QT X e tA:=⟨h.h.pt⟩
def xP(ha:QT X a tA):QT X (.UnaryOp .Not a pos) (w8 tA):=⟨Df ha.h⟩
def BM(K:W.Frag)(ta:TE):TT:=λσ H Q=>ta σ H λx H'=>∃k,xX K x H' k/\Q k H'
def qK(K:W.Frag)(hK:X.K=K)(ha:QE X a ta)(he:autoParam (JD a=true) ℜ0):QT X a (BM K ta):=by subst hK;exact⟨wM ha.h (ptr he)⟩
def xD(ha:QT X a tA):QW X (.BoolOp .And [a] pos) tA:=⟨Co ha.h⟩
def FN(ha:QT X a tA):QW X (.BoolOp .Or [a] pos) tA:=⟨Dh ha.h⟩
def Dq(ha:QT X a tA)(hb:QW X (.BoolOp .And (b::rest) pos) tB'):QW X (.BoolOp .And (a::b::rest) pos) (xr tA tB'):=⟨DJ ha.h hb.h⟩
def IH(ha:QT X a tA)(hb:QW X (.BoolOp .Or (b::rest) pos) tB'):QW X (.BoolOp .Or (a::b::rest) pos) (Gn tA tB'):=⟨Hv ha.h hb.h⟩
def aM(hN:X.N.Nodup)(hi:X.N[i]?=some x)(hx:Loc X.env.scope x)(hf:autoParam (X.fn x=true\/X.env.scope.names.lookup x=some .local) ℜ2):QG X (.Name x pos) (aO i):=⟨An hN hi hx hf⟩
def nM(K:W.Frag)(hK:X.K=K){k n:Nat}{tg:xI}(hc:X.calm=true)(h:Ig X es tg)(hn:autoParam ((assignEach es X.env).length=n) ℜ0)(hst:autoParam ((assignEach es X.env).findIdx? (·.1)=none) ℜ0):QG X (.Tuple es k pos) (rT K n tg):=by subst hK;exact⟨Ea hc h.h hn hst⟩
def iq:Ig X [] lL:=⟨Bs⟩
def bJ{u:xI}(h1:QG X e g)(h2:Ig X es u)(hs:autoParam ((assignEach (e::es) X.env).map (·.2)=assign e X.env::(assignEach es X.env).map (·.2)) ℜ0):Ig X (e::es) (d6 g u):=⟨zG h1.h h2.h hs⟩
def q_{i:Expr}{ti:TE}(ho:QE X o to)(hi:QE X i ti)
  (ha:autoParam (∀v,assign (.Subscript o i pos) X.env v=(do
   let ov <- holding [v] (eval o X.env)
   let iv <- holding [v,ov] (eval i X.env)
   standAt pos
   holding [v,ov,iv] (setItem ov iv v)
   release [v,ov,iv] [])) ℜ3):QG X (.Subscript o i pos) (xo to ti Bj):=⟨DB ho.h hi.h uset ha⟩
def lH{ta:TA}(hg:Gl X "range")(hm:X.mg "range"=none)(ha:QA X [a] ta)(h:autoParam (cW a=true) ℜ0):QI X tg (.Call (.Name "range" p) [a] [] pos) (mQ ta):=⟨rA hg hm ha.h h⟩
def II{ta:TA}(hg:Gl X "range")(hm:X.mg "range"=none)(ha:QA X [a,b] ta)(h:autoParam (cW a=true) ℜ0)(h2:autoParam (cW b=true) ℜ0):QI X tg (.Call (.Name "range" p) [a,b] [] pos) (ma ta):=⟨rY hg hm ha.h h h2⟩
def enum(K:W.Frag)(hK:X.K=K){k:Nat}{tp:Pos}{ta:TA}(hg:Gl X "enumerate")(hm:X.mg "enumerate"=none)(ha:QA X [e] ta)(h1:autoParam (cW e=true) ℜ0):QI X (.Tuple es k tp) (.Call (.Name "enumerate" p) [e] [] pos) (qr K ta):=by subst hK;exact⟨Cs hg hm ha.h h1⟩
def any(K:W.Frag)(hK:X.K=K){l:Expr}(hl:QE X l tl):QI X tg l (Ac K tl):=by subst hK;exact⟨Ff hl.h⟩
def tF:Eu X [] dz:=⟨Bl⟩
def JX(h:QT X c tA):Eu X [c] tA:=⟨B_ h.h⟩
end
section
variable {X:Cx} {e o tg:Expr} {te to:TE} {st:Stmt} {sts xs ys:List Stmt} {t u:TS} {pos pos':Pos} {x:Str}
def ba:QB X [] pA:=⟨Cn⟩
def av(h:QS X st t):QB X [st] t:=⟨BE h.h⟩
def ai(h:QS X st t)(h2:QB X sts u):QB X (st::sts) (vp t u):=⟨Aa h.h h2.h⟩
def set(hN:X.N.Nodup)(hi:X.N[i]?=some x)(hx:Loc X.env.scope x)(he:QE X e te)(hs:autoParam (Ij e=true) ℜ0)(hf:autoParam (X.fn x=true\/X.env.scope.names.lookup x=some .local) ℜ2):
  QS X (.Assign [.Name x pos'] e pos) (km te (aO i)):=⟨FA hN hi hx he.h (JR hs) hf⟩
def setC{p2:Pos}{wi:TI}(hN:X.N.Nodup)(hj:X.N[j]?=some x)(hx:Loc X.env.scope x)(S:aA osc ON scope own N)(hosc:X.env.scope=osc)(hON:X.N=ON)(hc:X.calm=true)(hi:QI X tg iter wi)
  (hg:∀C s H fp,QG (aG X scope N C s H fp) tg g) (ht:∀C s H fp,Eu (aG X scope N C s H fp) ifs tc) (he:∀C s H fp,QE (aG X scope N C s H fp) elt te)
  (hsw:autoParam (swapsWith (.ListComp elt [⟨tg,iter,ifs,0⟩] scope p2) (some (.Name x pos')) pos.line X.env=pure true) ℜ0)
  (hf:autoParam (X.fn x=true\/X.env.scope.names.lookup x=some .local) ℜ2) (hs:autoParam (∀x,foldedSetIterable iter X.env x=pure x) ℜ3) :
  QS X (.Assign [.Name x pos'] (.ListComp elt [⟨tg,iter,ifs,0⟩] scope p2) pos) (km (eR wi own.length g tc te) (aO j)):=⟨rQ hN hj hx S hosc hON hc hi.h (λC s H fp=>(hg C s H fp).h) (λC s H fp=>(ht C s H fp).h) (λC s H fp=>(he C s H fp).h) hsw hf hs⟩
def asg(he:QE X e te)(hg:QG X tg g)(hs:autoParam (swapsWithSole [tg] e pos.line X.env=pure false) ℜ0)(hw:autoParam (swappedStores [tg] e X.env=pure none) ℜ0)
  (h1:autoParam ((assignEach [tg] X.env).map (·.2)=[assign tg X.env]) ℜ0):QS X (.Assign [tg] e pos) (km te g):=⟨EB he.h hg.h hs hw h1⟩
def ret(he:QE X e te):QS X (.Return (some e) pos) (yb te):=⟨Ei he.h⟩
def expr(he:QE X e te)(hs:autoParam (Ij e=true) ℜ0):QS X (.Expr e pos) (pZ te):=⟨B5 he.h (JR hs)⟩
def cS{c:Expr}(hc:QT X c tc)(ha:QB X xs t)(hb:QB X ys u):QS X (.If c xs ys pos) (mX tc t u):=⟨Gr hc.h ha.h hb.h⟩
def dO{wi:TI}(hp:PassesOwn (model X.prog X.w) X.A X.env X.xe)(hc:X.calm=true)(hi:QI X tg iter wi)(hg:QG X tg g)(hb:QB X xs t)(hs:autoParam (∀x,foldedSetIterable iter X.env x=pure x) ℜ3):QS X (.For tg iter xs [] pos) (DU wi g t):=⟨Ef hp hc hi.h hg.h hb.h hs⟩
def r8{c:Expr}(hp:PassesOwn (model X.prog X.w) X.A X.env X.xe)(hc:QT X c tc)(hb:QB X xs t):QS X (.While c xs [] pos) (wF tc t):=⟨xm hp hc.h hb.h⟩
end
end Z
namespace Ap
def BM(K:W.Frag)(ta:TE)(σ:St)(H:Hp)(Q:Bool->Hp->Prop):L2.Z.BM K ta σ H Q=ta σ H λx H'=>∃k,xX K x H' k/\Q k H':=rfl
def pR(ta:TE)(σ:St)(H:Hp)(Q:VK):L2.pR ta σ H Q=ta σ H λx H1=>∃c,x=.bl c/\Q (.bl (!c)) H1:=rfl
end Ap
def HasFn.fq{ps:List Str}{k:Nat}(F:HasFn K mg x st ps)(S:ax N ps (af st))(len:∀vs H Q E,sp vs H Q E->vs.length=ps.length)
  (hbody:∀(f:Addr) (cdv:Value) (A:Around) (outer:List Env) (s:Shared) (H:Hp) (vs:List V) (Q:VK) (E:XK),bt k (A.deeper (envOfC x (af st) s.heap.objs.size f cdv))->sp vs H Q E ->
   ∃t,QB (iZ aY P w K mg base N x (af st) f cdv A outer s H E).AK (bA st) t/\t {nx:=λ_ H'=>Q .aI H',rt:=Q} (start N vs) H):ao P w K mg base aY (k+1) x ps sp:=
 F.ok S len λf cdv A outer s H vs Q E hr h=>let ⟨t,q,r⟩:=hbody f cdv A outer s H vs Q E hr h;⟨t,q.h,r⟩
def A_{ps:List Str}{k:Nat}(F:wj K x x st f fd)(S:ax N ps (af st))(len:∀vs H Q E,sp vs H Q E->vs.length=ps.length)
  (hbody:∀(cdv:Value) (A:Around) (outer:List Env) (s:Shared) (H:Hp) (vs:List V) (Q:VK) (E:XK),bt k (A.deeper (envOfC x (af st) s.heap.objs.size f cdv))->sp vs H Q E ->
   ∃t,QB (iZ aY P w K mg base N x (af st) f cdv A outer s H E).AK (bA st) t/\t {nx:=λ_ H'=>Q .aI H',rt:=Q} (start N vs) H):dP P w K mg base aY (k+1) f fd ps sp:=
 F.ok S len λcdv A outer s H vs Q E hr h=>let ⟨t,q,r⟩:=hbody cdv A outer s H vs Q E hr h;⟨t,q.h,r⟩
def gy(e:Addr)(cls:Value)(d:Option Addr)(h:Heap):Prop:=∃o vs,h.get? e=some o/\o.cls=cls/\o.dict=d/\o.data=.fields vs
def Jn(c:Addr)(n:Nat)(h:Heap):Prop:=∃(its:List Value) (m:Nat),h.get? c=some {cls:=.type "list",data:=.seq its.toArray m}/\its.length=n/\∀v∈its,∃(i:Int) (t:Tok),v=.int i t/\0<=i
inductive T where
 |il (n:Nat)|aI|bl (b:Bool)|int (i:Int)|str (x:Str)|tup (ts:List T)|lst (ts:List T)|JC (ts:List T)|lJ (lo hi:Int)|JE (ts:List T)|JI (ks:List Key) (ts:List T)|exc (c:Value) (f:Option (Str×Int))|adr (a:Addr)|ins (a c:Addr) (ks:List Str) (ts:List T)
variable{ts ys:List T}
abbrev nK:=Addr->Prop
def GP(K:W.Frag)(a:Addr)(xs:List V):Prop:=∃(o:Obj) (its:Array Value) (n:Nat),K.lookup a=some o/\o.cls=.type "tuple"/\o.data=.seq its n/\its.size<=sizeLine/\Vals xs its.toList
def Kb(K:W.Frag)(a:Addr)(xs:List V):Prop:=∃(o:Obj) (its:Array Value) (n:Nat),K.lookup a=some o/\o.cls=.type "list"/\o.dict=none/\o.data=.seq its n/\its.size<=sizeLine/\Vals xs its.toList
def LB(K:W.Frag)(H:Hp)(B:nK)(a:Addr)(xs:List V):Prop:=(¬ B a/\Rd H a (.lst xs))\/Kb K a xs
mutual
inductive Rep (K:W.Frag) (H:Hp) (B:nK):V->T->Prop
 |aI:Rep K H B .aI .aI
 |bl (b:Bool):Rep K H B (.bl b) (.bl b)
 |int (i:Int):Rep K H B (.int i) (.int i)
 |str (x:Str):Rep K H B (.str x) (.str x)
 |tup {a:Addr} {vs:List V} {ts:List T} (n:¬ B a) (h:H a=some (.tup vs)) (r:dw K H B vs ts):Rep K H B (.ref a) (.tup ts)
 |JE {a:Addr} {vs:List V} {ts:List T} (h:GP K a vs) (r:dw K H B vs ts):Rep K H B (.ref a) (.JE ts)
 |lst {a:Addr} {vs:List V} {ts:List T} (n:¬ B a) (h:H a=some (.lst vs)) (r:dw K H B vs ts):Rep K H B (.ref a) (.lst ts)
 |JC {a:Addr} {vs:List V} {ts:List T} (h:LB K H B a vs) (r:dw K H B vs ts):Rep K H B (.ref a) (.JC ts)
 |lJ {a:Addr} {lo hi:Int} (n:¬ B a) (h:H a=some (.lJ lo hi)):Rep K H B (.ref a) (.lJ lo hi)
 |JI {a:Addr} {ks:List Key} {vs:List V} {ts:List T} (n:¬ B a) (h:Rd H a (.dK (ks.zip vs))) (l:ks.length=vs.length) (r:dw K H B vs ts):Rep K H B (.ref a) (.JI ks ts)
 |exc {a:Addr} {c:Value} (n:¬ B a) (h:H a=some (.ext (gy a c none))):Rep K H B (.ref a) (.exc c none)
 |Kf {a d:Addr} {c:Value} {x:Str} {i:Int} (n:¬ B a) (h:H a=some (.ext (gy a c (some d)))) (m:¬ B d) (g:H d=some (.xd [(x,.int i)])):Rep K H B (.ref a) (.exc c (some (x,i)))
 |il {a:Addr} {n:Nat} (m:¬ B a) (h:H a=some (.ext (Jn a n))):Rep K H B (.ref a) (.il n)
 |adr (a:Addr):Rep K H B (.ref a) (.adr a)
 |ins {a dx c:Addr} {ks:List Str} {vs:List V} {ts:List T} (n:¬ B a) (h:H a=some (.ins c dx (ks.zip vs))) (l:ks.length=vs.length) (r:dw K H B vs ts):Rep K H B (.ref a) (.ins a c ks ts)
inductive dw (K:W.Frag) (H:Hp) (B:nK):List V->List T->Prop
 |nil:dw K H B [] []
 |cons {v:V} {t:T} {vs:List V} {ts:List T} (h:Rep K H B v t) (r:dw K H B vs ts):dw K H B (v::vs) (t::ts)
end
section
variable {K:W.Frag} {H:Hp} {B:nK} {v:V}
def dw.Ji{vs:List V}(h:dw K H B vs []):vs=[]:=by cases h;rfl
def dw.CY{vs:List V}{t:T}(h:dw K H B vs (t::ts)):∃v ws,vs=v::ws/\Rep K H B v t/\dw K H B ws ts:=by cases h with|cons h r=>exact⟨_,_,rfl,h,r⟩
end
def Paired.vU{β:Type}{P:α->β->Prop}{ys:List β}(h:Paired P [] ys):ys=[]:=by cases h;rfl
def Paired.dm{β:Type}{P:α->β->Prop}{x:α}{xs:List α}{ys:List β}(h:Paired P (x::xs) ys):∃y zs,ys=y::zs/\P x y/\Paired P xs zs:=by cases h with|cons h r=>exact⟨_,_,rfl,h,r⟩
section
variable {K:W.Frag} {H H':Hp} {B B':nK}
def dw.length{vs:List V}(r:dw K H B vs ts):vs.length=ts.length:=by
 induction ts generalizing vs with
 |nil=>obtain rfl:=r.Ji;rfl
 |cons t ts ih=>obtain⟨v,ws,rfl,_,r⟩:=r.CY;exact Lg (·+1) (ih r)
def dw.get{vs:List V}{i:Nat}{t:T}(r:dw K H B vs ts)(e:ts[i]?=some t):∃v,vs[i]?=some v/\Rep K H B v t:=by
 induction ts generalizing vs i with
 |nil=>cases e
 |cons u ts ih =>
  obtain⟨v,ws,rfl,h,r⟩:=r.CY
  cases i with
  |zero=>cases e;exact⟨_,rfl,h⟩
  |succ i=>exact ih (vs:=ws) (i:=i) r e
end
def l_:T->Bool
 |.aI|.bl _|.int _|.str _=>true
 |_=>false
inductive Sl where
 |un|tr (t:T)|bx (c:T)|pb (c:T)
abbrev Mu:=List Sl
inductive R where
 |tr (t:T)|br (i:Nat)|fr (c:T)
structure Fx where
 K:W.Frag
 H0:Hp
 P:Nat->Option Addr
 Bc:nK
 bh:∀b,Bc b->∃o,H0 b=some o
 G:Addr->Option HO
abbrev UE:=Mu->(R->Mu->Prop)->Prop
abbrev UT:=Mu->(Bool->Mu->Prop)->Prop
abbrev UA:=Mu->(List R->Mu->Prop)->Prop
structure Ed where
 nx:Mu->Prop
 rt:R->Mu->Prop
 bk:Mu->Prop:=λ_=>False
 ct:Mu->Prop:=λ_=>False
abbrev US:=Ed->Mu->Prop
namespace Y
def HJ:T->T->Bool
 |.aI,.aI=>true
 |.bl a,.bl b=>a == b
 |.bl a,.int b=>(if a then 1 else 0) == b
 |.int a,.bl b=>a ==(if b then 1 else 0)
 |.int a,.int b=>a == b
 |.str a,.str b=>a == b
 |_,_=>false
def H_{B:nK}{x y:V}{t u:T}(h1:Rep K H B x t)(h2:Rep K H B y u)(f1:l_ t=true)(f2:l_ u=true):cu x=true/\cu y=true/\wR x y=HJ t u:=by
 cases h1<;>first | (cases f1;done) | (cases h2<;>first | (cases f2;done)|exact⟨rfl,rfl,rfl⟩)
def GI(K:W.Frag)(neg:Bool):R2:=λx y H Q=>∃a b xs ys,x=.ref a/\y=.ref b/\((a_ K H a xs/\a_ K H b ys)\/(bu K H a xs/\bu K H b ys))/\xs.all cu=true/\ys.all cu=true /\
 ∀c,c=(xs.length == ys.length && (List.range (min xs.length ys.length)).all λj=>match xs[j]?,ys[j]? with|some x,some y=>wR x y|_,_=>true)->Q (.bl (if neg then !c else c)) H
theorem gE:∀(n:Nat) (acc:List Value) (k:Nat),acc.length=n->(∀j v,acc[j]?=some v->∃t,v=Value.int (lo+((k+j:Nat):Int)) t)->Vals ((List.range' k n).map λk=>V.int (lo+(k:Nat))) acc
 |0,acc,k,h,_=>by cases acc with|nil=>exact .nil|cons a b=>cases h
 |n+1,[],k,h,_=>by cases h
 |n+1,a::acc,k,h,g=>by
  rw[M1,KA];refine .cons ?_ (gE n acc (k+1) (by simpa using h) λj v e=>?_)
  ·obtain⟨t,e⟩:=g 0 a rfl;exact⟨t,by simpa using e⟩
  ·obtain⟨t,e2⟩:=g (j+1) v (by simpa using e)
   exact⟨t,by rw[e2];congr 2;lia⟩
def A8:List V->Hp->VK->Prop:=λxs H Q=>(∃j,xs=[.int j]/\∀p,H p=none->Q (.ref p) (upd H p (.lJ 0 j)))\/(∃i j,xs=[.int i,.int j]/\∀p,H p=none->Q (.ref p) (upd H p (.lJ i j)))
def pC:aX X (.type "range") A8:=by
 intro pins s σ H xs us Q I r h;rcases h with ⟨j,rfl,q⟩|⟨i,j,rfl,q⟩
 ·obtain⟨u,rfl,t,rfl⟩:=vals1 r;refine call_range_1 ?_;exact⟨.ref s.heap.objs.size,_,I.laid (o:=.lJ 0 j) (λb ob q=>Kk _ q) (Kp _) (show aN X.prog X.w _ _ _ (.lJ 0 j) from⟨_,_,_,K1 _ rfl⟩),rfl,q _ (I.aL.fresh (Kp _))⟩
 ·obtain⟨u,w',rfl,⟨t,rfl⟩,⟨t',rfl⟩⟩:=vals2 r;refine call_range_2 ?_;exact⟨.ref s.heap.objs.size,_,I.laid (o:=.lJ i j) (λb ob q=>Kk _ q) (Kp _) (show aN X.prog X.w _ _ _ (.lJ i j) from⟨_,_,_,K1 _ rfl⟩),rfl,q _ (I.aL.fresh (Kp _))⟩
section
variable {X:Cx} {a b c e o:Expr} {es rest:List Expr} {ua ub uc ue uo:UE} {uA uB:UT} {us:UA} {pos p p2 p3:Pos} {x:Str}
def gz(xs:List α)(lo hi:Option Int):List α:=(xs.drop (HT.bM xs.length 0 lo)).take (HT.bM xs.length xs.length hi-HT.bM xs.length 0 lo)
end
end Y
abbrev UI:=Mu->(List T->Option (Nat×List T)->Mu->Prop)->Prop
def yO(K:W.Frag)(tl:TE):TI:=λσ H R=>tl σ H λx H1=>∃a,x=V.ref a/\(((∃xs,a_ K H1 a xs)/\R (Ab K a) H1)\/((∃xs,bu K H1 a xs)/\R (uT K a) H1))
def Ee{l:Expr}(hl:PE X l tl):PI X tg l (yO X.K tl):=by
 intro pins s σ H R I h;refine bH (hl pins s σ H _ I h) λv s1 hq2=>?_;obtain⟨x,H1,I1,r1,q1⟩:=hq2;obtain⟨a,rfl,q⟩:=q1;cases r1;rcases q with ⟨⟨xs,hq⟩,q⟩|⟨⟨xs,hq⟩,q⟩
 ·obtain⟨its,rv,p,hz⟩:=I1.list hq;refine N8 p.isList ?_;refine⟨s1.heap.objs.size,[s1.heap.objs.size],_,_,H1,rfl,I1.kept (t':=s1.toks) λb o e=>Kk _ e,lT a _,⟨_,K1 _ rfl,rfl,rfl⟩,λb hb=>?_,q⟩;have e:b=s1.heap.objs.size:=by simpa using hb
  subst e;exact I1.nH (Kp _) (I1.aL.fresh (Kp _))
 ·obtain⟨its,rv,p,hz⟩:=I1.tuple hq;refine MK (show s1.heap.IsTuple a its.toArray from p) ?_;refine⟨s1.heap.objs.size,[s1.heap.objs.size],_,_,H1,rfl,I1.kept (t':=s1.toks) λb o e=>Kk _ e,jJ a _,⟨_,K1 _ rfl,rfl,rfl⟩,λb hb=>?_,q⟩;have e:b=s1.heap.objs.size:=by simpa using hb
  subst e;exact I1.nH (Kp _) (I1.aL.fresh (Kp _))
namespace Y
def Dt{α:Type _}{l:List α}(h:l.length=1):∃y,l=[y]:=by
 rcases l with _|⟨a,_|⟨b,t⟩⟩
 ·cases h
 ·exact⟨a,rfl⟩
 ·cases h
def FT{α:Type _}{l:List α}(h:l.length=2):∃y z,l=[y,z]:=by
 rcases l with _|⟨a,t⟩
 ·cases h
 ·obtain⟨b,rfl⟩:=Dt (Nat.succ.inj h);exact⟨a,b,rfl⟩
def qF{α:Type _}{l:List α}(h:l.length=3):∃x y z,l=[x,y,z]:=by
 rcases l with _|⟨a,t⟩
 ·cases h
 ·obtain⟨b,c,rfl⟩:=FT (Nat.succ.inj h);exact⟨a,b,c,rfl⟩
def Ju{α:Type _}{l:List α}(h:l.length=4):∃w x y z,l=[w,x,y,z]:=by
 rcases l with _|⟨a,t⟩
 ·cases h
 ·obtain⟨b,c,d,rfl⟩:=qF (Nat.succ.inj h);exact⟨a,b,c,d,rfl⟩
end Y
abbrev JO:=List T->(R->List T->Prop)->Prop
def AN(K:W.Frag)(f:Addr)(cdv:Value):Prop:=∃(o:Obj) (fd:FuncData),K.lookup f=some o/\o.data=.func fd/\fd.code=cdv
def hJ(K:W.Frag)(k:Bool)(H:Hp)(a:Addr)(xs:List V):Prop:=if k=true then a_ K H a xs else bu K H a xs
def jX(k:Bool)(h:Heap)(it a:Addr)(i:Nat):Prop:=if k=true then h.IsListIter it a i else h.IsTupleIter it a i
def cf(k:Bool)(h:Heap)(a:Addr)(items:Array Value):Prop:=if k=true then h.IsList a items else h.IsTuple a items
def uk{A:Around}(k:Bool)(hh:A.handled=none)(it l:Addr)(hne:l≠it)(items:Array Value):Draws prog w A it [it,l] items.size (λi v=>items[i]?=some v) (λi h=>jX k h it l i/\cf k h l items):=by
 cases k with
 |true=>exact Draws.list hh it l hne items
 |false=>exact i_ hh it l hne items
def Inv.pU{s:Shared}{k:Bool}(I:Inv X pins σ H s)(h:hJ X.K k H a xs):∃its:List Value,Vals xs its/\cf k s.heap a its.toArray:=by
 cases k with
 |true=>obtain⟨its,r,p,_⟩:=I.list h;exact⟨its,r,p.isList⟩
 |false=>obtain⟨its,r,p,_⟩:=I.tuple h;exact⟨its,r,p⟩
def Inv.zX{s:Shared}{k:Bool}{ys:List V}(I:Inv X pins σ H s)(h:hJ X.K k H a xs)(h':hJ X.K k H a ys):xs=ys:=by
 cases k with
 |true=>exact I.jN h h'
 |false=>exact I.iY h h'
def cf.ty{k:Bool}(x:cf k h a items):∃o,h.get? a=some o/\(o.cls=.type "list"\/o.cls=.type "tuple")/\∃n,o.data=.seq items n:=by
 cases k with
 |true=>obtain⟨o,e,c,n,d⟩:=(show h.IsList a items from x);exact⟨o,e,.inl c,n,d⟩
 |false=>obtain⟨o,e,c,n,d⟩:=(show h.IsTuple a items from x);exact⟨o,e,.inr c,n,d⟩
def jX.ty{k:Bool}(x:jX k h it a i):∃o,h.get? it=some o/\(o.cls=.type "list_iterator"\/o.cls=.type "tuple_iterator")/\o.data=.fields #[.ref a,.int i 0]:=by
 cases k with
 |true=>obtain⟨o,e,c,d⟩:=(show h.IsListIter it a i from x);exact⟨o,e,.inl c,d⟩
 |false=>obtain⟨o,e,c,d⟩:=(show h.IsTupleIter it a i from x);exact⟨o,e,.inr c,d⟩
def vc(k:Bool):String:=if k=true then "list_iterator" else "tuple_iterator"
def zS(x:h.IsTuple a items)(o:Obj):(h.push o).IsTuple a items:=by
 obtain⟨ob,e,r⟩:=x;exact⟨ob,Kk _ e,r⟩
def Gf{k:Bool}(e:h.get? it=some {cls:=.type (vc k),data:=.fields #[.ref a,.int 0 0]}):jX k h it a 0:=by
 cases k with
 |true=>exact⟨_,e,rfl,rfl⟩
 |false=>exact⟨_,e,rfl,rfl⟩
def pz(K:W.Frag):Sp:=λvs H Q _=>∃(a:Addr) (ns:List Int),vs=[.ref a]/\a_ K H a (ns.map V.int)/\ns.length<=63/\∀H',Q (.bl true) H'
namespace Y
def EV(hu:X.A.units<cLine):cI X (compareOp .NotEq) (GI X.K true):=by
 intro pins s σ H x y v u Q I rx ry h;obtain⟨a,b,xs,ys,rfl,rfl,hq,fx,fy,q⟩:=h
 cases rx;cases ry
 have item:∀(its its2:List Value),Vals xs its->Vals ys its2->∀j (h1:j<its.toArray.size) (h2:j<its2.toArray.size),SeqAt.EqAt X.A.in1 s its.toArray[j] its2.toArray[j] (match xs[j]?,ys[j]? with|some x,some y=>wR x y|_,_=>true):=λits its2 r1 r2 j h1 h2=>by
  have l1:=r1.length;have l2:=r2.length;rw[Kq] at h1 h2;obtain⟨u1,e1,g1⟩:=r1.get (i:=j) (x:=xs[j]) (Kg (by lia))
  obtain⟨u2,e2,g2⟩:=r2.get (i:=j) (x:=ys[j]) (Kg (by lia))
  rw[Kg (show j<xs.length by lia),Kg (show j<ys.length by lia)]
  have z1:its.toArray[j]=u1:=by
   rw[Kg h1] at e1;simpa using e1
  have z2:its2.toArray[j]=u2:=by
   rw[Kg h2] at e2;simpa using e2
  rw[z1,z2];exact sG g1 g2 (M0.mp fx _ (K9 _)) (M0.mp fy _ (K9 _))
 rcases hq with ⟨ha,hb⟩|⟨ha,hb⟩
 ·obtain⟨its,r1,p1,_⟩:=I.list ha;obtain⟨its2,r2,p2,_⟩:=I.list hb;have l1:=r1.length;have l2:=r2.length;by_cases e:xs.length=ys.length
  ·refine SeqAt.RcNeAt.lists p1.isList p2.isList (by rw[Kq,Kq];lia) hu (item its its2 r1 r2) X.prog X.w X.xe _ ⟨.bl _,H,I,rfl,q _ ?_⟩
   rw[Kq,<- l1,<- e,M4,L3,Bool.true_and]
   try rfl
  ·refine Oo p1.isList p2.isList (by rw[Kq,Kq,bne_iff_ne];lia) hu X.prog X.w X.xe _ ⟨.bl true,H,I,rfl,?_⟩
   exact q false (by rw[Lb.mpr e,Bool.false_and])
 ·obtain⟨its,r1,p1,_⟩:=I.tuple ha;obtain⟨its2,r2,p2,_⟩:=I.tuple hb;have l1:=r1.length;have l2:=r2.length;refine SeqAt.RcNeAt.tuples p1 p2 hu (item its its2 r1 r2) X.prog X.w X.xe _ ⟨.bl _,H,I,rfl,q _ ?_⟩;rw[Kq,Kq,<- l1,<- l2,Bool.and_comm]
  try rfl
def GG(K:W.Frag):R2:=λx y H Q=>Fp x y H Q\/GI K true x y H Q
def Ep(K:W.Frag)(hK:X.K=K)(hu:X.A.units<cLine):cI X (compareOp .NotEq) (GG K):=by subst hK;exact CI.or (EV hu)
def kW:fillsNumberSlot (.type "tuple") "mul"=pure false:=
 PySem.fillsNumberSlot_seq (id:="tuple.__mul__") (r:=some (.builtin "tuple.__rmul__")) PySem.F.slot_tuple_mul.lookup (by decide +kernel) PySem.F.slot_tuple_rmul.lookup (by decide +kernel)
def rJ:seqRepeat? (.type "tuple")=pure (some (.builtin "tuple.__mul__")):=by
 unfold seqRepeat?;rw[PySem.seqSlot_of (T:="tuple") (name:="__mul__") (id:="tuple.__mul__") PySem.F.slot_tuple_mul.lookup (by decide +kernel),PySem.seqSlot_of (T:="tuple") (name:="__rmul__") (id:="tuple.__rmul__") PySem.F.slot_tuple_rmul.lookup (by decide +kernel)];rfl
def zJ(a:Int)(t:Tok)(l:Addr)(ob:Obj)(items:Array Value)(n:Nat)(hc:ob.cls=.type "tuple")(hd:ob.data=.seq items n):
  Meets (Builtin.«int.__rmul__» ⟨[.int a t,.ref l],[]⟩) (λ_ R s=>s.heap.get? l=some ob/\R (.ok (.ret Value.notImplemented)) s):=
 .of_wp λprog w A R s h=>by
  obtain⟨hp,g,d,tk,os⟩:=s;obtain⟨hl,h⟩:=h;obtain⟨c,dd,da,sl⟩:=ob;simp only at hc hd;subst hc hd
  wp_walk
  exact⟨_,rfl,h⟩
def Bq(l:Addr)(items:Array Value)(ob:Obj)(n:Nat)(k:Int)(t:Tok)(hc:ob.cls=.type "tuple")(hd:ob.data=.seq items n)(hne:items.isEmpty=false)(h1:1<k)(h2:k<=1000)(hsz:items.size<=1000):
  Meets (Builtin.«tuple.__mul__» ⟨[.ref l,.int k t],[]⟩) (λ_ R s=>s.heap.get? l=some ob/\R (.ok (.ret (.ref s.heap.objs.size))) {s with heap:=s.heap.push {cls:=.type "tuple",data:=.seq ((List.replicate k.toNat items).foldl (·++·) #[])}}):=
 .of_wp λprog w A R s h=>by
  obtain⟨hp,g,d,tk,os⟩:=s;obtain⟨hl,h⟩:=h;obtain⟨c,dd,da,sl⟩:=ob;simp only at hc hd;subst hc hd;have e1:(decide (k < -(2^63)) || decide (k >= 2^63))=false:=by rw[KJ (by lia),KJ (by lia)];rfl
  have e2:(items.isEmpty || k == 1)=false:=by rw[hne,Lb.mpr (by lia)];rfl
  have e3:(decide (k<=0) || items.isEmpty)=false:=by rw[hne,KJ (by lia)];rfl
  wp_walk using AutoSeq1.wpAny_loadPart' hl;rw[Ko (by rw[e1];exact Ky)]
  have ht:IsTup (Shared.heap ⟨hp,g,d,tk,os⟩) l items:=⟨_,hl,rfl,n,rfl⟩;show wpAny _ _ (Builtin.Tuple.tupleItemsOf (.ref l) >>= _) _ _ _;refine Kh (tupleItemsOf_ ht ?_);rw[Ko (by rw[e2];exact Ky)]
  show wpAny _ _ (if (decide (k<=0) || items.isEmpty)=true then _ else _) _ _ _
  rw[Ko (by rw[e3];exact Ky)]
  have hm:(items.size:Int)*k<=1000*1000:=Int.mul_le_mul (by lia) h2 (by lia) (by lia)
  show wpAny _ _ (if (items.size:Int)*k >(2^63-1) / 8 then _ else _) _ _ _
  rw[Ko (by lia)]
  show wpAny _ _ (if Builtin.Tuple.tupleTooMany ((items.size:Int)*k)=true then _ else _) _ _ _
  have e4:Builtin.Tuple.tupleTooMany ((items.size:Int)*k)=false:=KJ (by
   have:((sizeLine:Nat):Int) >= 1000000:=by decide
   lia)
  rw[Ko (by rw[e4];exact Ky)]
  have hl2:((List.replicate k.toNat items).foldl (·++·) #[]).size<=sizeLine:=by
   have fs:∀(m:Nat) (acc:Array Value),((List.replicate m items).foldl (·++·) acc).size=acc.size+m*items.size:=λm=>by
    induction m with
    |zero=>intro acc;simp
    |succ m ih=>intro acc;rw[Lc,OL,ih,Ou,O5];lia
   rw[fs];have h3:k.toNat*items.size<=1000*1000:=Nat.mul_le_mul (by lia) hsz
   have h4:(1000000:Nat)<=sizeLine:=by decide
   simp;lia
  exact Kh (m:=Builtin.Tuple.tupleExact _) (LJ (Kt ⟨_,rfl,h⟩) hl2)
def vb(its:List Value):∀(m:Nat) (acc:List Value),(List.replicate m its.toArray).foldl (·++·) acc.toArray=(acc++(List.replicate m its).flatten).toArray:=λm acc=>foldl_rep its m acc
def C5(K:W.Frag):R2:=λx y H Q=>∃a k xs,x=.ref a/\y=.int k/\bu K H a xs/\xs≠[]/\xs.length<=1000/\1<k/\k<=1000/\∀p,H p=none->Q (.ref p) (upd H p (.tup (List.replicate k.toNat xs).flatten))
def A1:cI X (binaryOp .Mult) (C5 X.K):=by
 intro pins s σ H x y v u Q I rx ry h;obtain⟨a,k,xs,rfl,rfl,hx,hne,hsz,h1,h2,q⟩:=h;cases rx;obtain⟨t,rfl⟩:=ry;obtain⟨its,r,p,hz⟩:=I.tuple hx;obtain⟨ob,ho,hc,n,hd⟩:=id p;have hlen:=r.length;have hemp:its.toArray.isEmpty=false:=by
  cases its with
  |nil=>cases r;exact absurd rfl hne
  |cons a b=>rfl
 refine Oy (T:="tuple") (U:="int") (by decide) ⟨_,ho,hc⟩ (λs'=>Ox s' k t) kW PySem.F.fills_int_mul PySem.F.slot_int_rmul rJ PySem.F.slot_int_index.lookup
  (MI PySem.F.slot_int_rmul (Ox s k t) PySem.F.entry_int_rmul (PySem.F.args_int_rmul_2 _ _) (zJ k t a ob its.toArray n hc hd)
   ⟨ho,rfl,⟨_,ho,hc⟩,MI PySem.F.slot_tuple_mul ⟨_,ho,hc⟩ PySem.F.entry_tuple_mul (PySem.F.args_tuple_mul_2 _ _) (Bq a its.toArray ob n k t hc hd hemp h1 h2 (by rw[Kq];lia)) ⟨ho,?_⟩⟩)
 have e0:=vb its k.toNat [];rw[L8] at e0;have e0':(List.replicate k.toNat its.toArray).foldl (·++·) #[]=(List.replicate k.toNat its).flatten.toArray:=e0;rw[e0'];refine⟨.ref s.heap.objs.size,_,I.laid (t':=s.toks) (o:=.tup (List.replicate k.toNat xs).flatten) (λb ob q=>Kk _ q) (Kp _) ?_,rfl,q _ (I.aL.fresh (Kp _))⟩;refine⟨?_,_,r.rep k.toNat,d9.new _ _⟩;rw[len_rep];have h3:k.toNat*xs.length<=1000*1000:=Nat.mul_le_mul (by lia) hsz
 exact Km h3 (by decide)
def CA(K:W.Frag):R2:=λx y H Q=>DS x y H Q\/C5 K x y H Q
def nO(K:W.Frag)(hK:X.K=K):cI X (binaryOp .Mult) (CA K):=by subst hK;exact bX.or A1
end Y
open PySem PySem.Spec PyProof PyProof.Rows
namespace Y
theorem fz:∀{us:List Value} {ns:List Int},IntsAre us ns->Vals (ns.map V.int) us
 |_,_,.nil=>.nil
 |_,_,.cons n t h=>.cons ⟨t,rfl⟩ (fz h)
theorem ke:∀{us:List Value} {ns:List Int},IntsAre us ns->us.length=ns.length
 |_,_,.nil=>rfl
 |_,_,.cons n t h=>by simp[ke h]
section
variable {prog:Program} {w:World} {A:Around} {E:Value->Shared->Prop} {s:Shared}
def qe{l:Addr}{vs:List Value}{Q:List Value->Shared->Prop}(hl:IsTup s.heap l vs.toArray)(hsz:vs.length<=sizeLine)
  (h:Q vs {s with heap:=(s.heap.push (seqObj "list" #[] 0)).update s.heap.objs.size (Obj.mapSeq (·++vs.toArray))}):wpAny (model prog w) A (collect (.ref l)) Q E s:=by
 obtain⟨o,ho,hc,n,hd⟩:=id hl;unfold collect;refine Kh (wpAny_runValue (ML entry_proto_collect' ?_));show wpAny _ _ (do again (.builtin "list.__iadd__" ⟨[<- newList [],.ref l],[]⟩)) _ _ s
 refine Kh (Nm (Kt ⟨Oc _ (by decide +kernel),ML entry_list_iadd' ?_⟩))
 show wpAny _ _ (Builtin.List.listExtendWith (.ref s.heap.objs.size) (.ref l) (.ref s.heap.objs.size)) _ _ {s with heap:=s.heap.push (seqObj "list" #[] 0)}
 unfold Builtin.List.listExtendWith;have ho':(s.heap.push (seqObj "list" #[] 0)).get? l=some o:=Kk _ ho;refine Kh (P1 (T:="tuple") ⟨o,ho',hc⟩ ?_);have ht:(Value.type "tuple" == Value.type "tuple")=true:=by rfl
 rw[Ku (by rw[ht];simp)]
 refine Kh (NN ho' hd ?_);refine Kh (NN (xs:=#[]) (n:=0) (K1 _ rfl) rfl ?_);rw[Ko (by simp)]
 refine Kh (ND (xs:=#[]) (n:=0) (K1 _ rfl) rfl ?_ (K4 _) (by show (#[]++vs.toArray).size<=sizeLine+1;simp only[Ou,Kq,Lo];lia))
 refine Kt ?_;show wpAny (model prog w) A (load s.heap.objs.size >>= _) Q E {s with heap:=(s.heap.push (seqObj "list" #[] 0)).update s.heap.objs.size (Obj.mapSeq (·++vs.toArray))}
 refine Kh (wpAny_load (Nu (K1 _ rfl) _) ?_);show wpAny _ _ (pure ((#[]:Array Value)++vs.toArray).toList) Q E _;rw[show ((#[]:Array Value)++vs.toArray).toList=vs by simp]
 exact Kt h
def qX{l:Addr}{vs:List Value}(hl:IsTup s.heap l vs.toArray)(hI:IntsAre vs ns)(h64:vs.length<64)
  (h:∀(out:Array Value) (ns':List Int),IntsAre out.toList ns'->ns'.Perm ns->ns'.Pairwise (·<=·)->Q (.ref (s.heap.objs.size+1)) {s with heap:=sortedAll s.heap vs out}) :
  wpAny (model prog w) A (call (.builtin "sorted") [.ref l]) Q E s:=by
 have hz:vs.length<=sizeLine:=Km (Me h64) (by decide)
 refine Oz kind_sorted plain_sorted entry_sorted (args_sorted1 _) ?_;unfold Builtin.«sorted»;refine Kh (m:=checkCount "sorted" 1 1 _) (Kt ?_);refine Kh (qe hl hz ?_);refine Kh (Nm ?_ hz);have hs:((s.heap.push (seqObj "list" #[] 0)).update s.heap.objs.size (Obj.mapSeq (·++vs.toArray))).objs.size=s.heap.objs.size+1:=by rw[O7,size_push']
 have ho:(((s.heap.push (seqObj "list" #[] 0)).update s.heap.objs.size (Obj.mapSeq (·++vs.toArray))).push (seqObj "list" vs.toArray 0)).get? (s.heap.objs.size+1)=some (seqObj "list" vs.toArray 0):=by
  rw[<- hs];exact K1 _ rfl
 show wpAny _ _ _ _ _ {s with heap:=((s.heap.push (seqObj "list" #[] 0)).update s.heap.objs.size (Obj.mapSeq (·++vs.toArray))).push (seqObj "list" vs.toArray 0)}
 rw[hs];refine Kh (Lu (LF slot_list_sort ⟨_,ho,rfl⟩ entry_list_sort (list_sort_tree ho hI h64 λout ns' a1 a2 a3=>⟨_,rfl,?_⟩) (args_list_sort _)));exact Kt ⟨_,rfl,h out ns' a1 a2 a3⟩
end
def C8(K:W.Frag):List V->Hp->VK->Prop:=λxs H Q=>∃p ns,xs=[.ref p]/\bu K H p (ns.map V.int)/\ns.length<64/\∀ns':List Int,ns'.Perm ns->ns'.Pairwise (·<=·)->∀l,H l=none->Q (.ref l) (upd H l (.lst (ns'.map V.int)))
def vi(K:W.Frag)(hK:X.K=K):aX X (.builtin "sorted") (C8 K):=by
 subst hK;intro pins s σ H xs us Q I r h;obtain⟨p,ns,rfl,hq,h64,q⟩:=h;obtain⟨u,rfl,ru⟩:=vals1 r;cases ru;obtain⟨its,rv,pl,hz⟩:=I.tuple hq;have hi:=intsAre_of rv;refine qX pl hi (by rw[ke hi];exact h64) λout ns' a1 a2 a3=>?_
 obtain⟨e,he⟩:=sortedAll_at s.heap its out;refine⟨.ref (s.heap.objs.size+1),_,I.laid (t':=s.toks) (λb ob q=>sortedAll_old q) (LY _) (show aN X.prog X.w _ _ _ (.lst (ns'.map V.int)) from⟨?_,out.toList,e,fz a1,by simpa using he⟩),rfl,q ns' a2 a3 _ (I.aL.fresh (LY _))⟩
 rw[Ki,a2.length_eq];exact Km (Me h64) (by decide)
theorem yy(l:List Nat):∀(n a:Nat),((List.range n).map (λk=>a+k)).filterMap (l[·]?)=(l.drop a).take n
 |0,_=>by simp
 |n+1,a=>by
  rw[NO,K7,List.filterMap_append,yy l n a,List.take_add_one,LR]
  cases h:l[a+n]?<;>simp[h]
def qJ(lo hi:Option Int)(n:Nat):Builtin.Str.strSliceIndices lo hi 1 n=(List.range (HT.bM n n hi-HT.bM n 0 lo)).map (λk=>HT.bM n 0 lo+k):=by
 have ea:∀(v:Int),max 0 (min (if v<0 then v+(n:Int) else v) (n:Int))=(((if v<0 then (v+(n:Int)).toNat else min v.toNat n):Nat):Int):=by
  intro v;split<;>lia
 have e:Builtin.Str.strSliceIndices lo hi 1 n=sliceRange (HT.bM n 0 lo) (HT.bM n n hi) 1:=by
  cases lo with
  |none=>cases hi with
   |none=>rfl
   |some j=>show sliceRange 0 (max 0 (min (if j<0 then j+(n:Int) else j) (n:Int))) 1=_;rw[ea];rfl
  |some i=>cases hi with
   |none=>show sliceRange (max 0 (min (if i<0 then i+(n:Int) else i) (n:Int))) n 1=_;rw[ea];rfl
   |some j=>show sliceRange (max 0 (min (if i<0 then i+(n:Int) else i) (n:Int))) (max 0 (min (if j<0 then j+(n:Int) else j) (n:Int))) 1=_;rw[ea,ea];rfl
 rw[e];generalize HT.bM n 0 lo=a;generalize HT.bM n n hi=b;unfold sliceRange;simp only[show ((1:Int) > 0)=True from by simp,MT,Int.one_mul]
 have c:(if (a:Int)<(b:Int) then ((b:Int)-a+1-1) / 1 else 0).toNat=b-a:=by split<;>lia
 rw[c];refine List.map_congr_left λk _=>?_;lia
def rR(z:Str)(lo hi:Option Int):Txt.slice z lo hi=⟨((z.cps.toList.drop (HT.bM z.cps.toList.length 0 lo)).take (HT.bM z.cps.toList.length z.cps.toList.length hi-HT.bM z.cps.toList.length 0 lo)).toArray⟩:=by
 have hl:z.cps.toList.length=z.length:=La;rw[hl];have hp:(Builtin.Str.strSliceIndices lo hi 1 z.length).filterMap (z.cps[·]?)=(z.cps.toList.drop (HT.bM z.length 0 lo)).take (HT.bM z.length z.length hi-HT.bM z.length 0 lo):=by
  rw[qJ];have:=yy z.cps.toList (HT.bM z.length z.length hi-HT.bM z.length 0 lo) (HT.bM z.length 0 lo)
  simpa using this
 unfold Txt.slice;split
 ·rename_i h;rw[qJ] at h;simp at h;have h2:=HT.sj z.length z.length (Kp _) hi;have h3:=HT.sj z.length 0 (K4 _) lo;have a0:HT.bM z.length 0 lo=0:=by lia
  have b0:HT.bM z.length z.length hi=z.length:=by lia
  rw[a0,b0,LI,NP,<- hl,Lq]
 ·rw[hp]
def eW(z:Str)(lo hi:Option Int):Str:=⟨(gz z.cps.toList lo hi).toArray⟩
def vA(z:Str)(lo hi:Option Int):Txt.slice z lo hi=eW z lo hi:=rR z lo hi
def Ar:V->Option Int->Option Int->Hp->VK->Prop:=λx lo hi H Q=>∃z,x=.str z/\z.length<=sizeLine/\Q (.str (eW z lo hi)) H
def bZ:CM X Ar:=by
 intro pins s σ H x v vl vu lo hi sl Q I rx hs pl pu h;obtain⟨z,rfl,hz,q⟩:=h;rw[<- vA] at q;obtain⟨t,rfl⟩:=rx;refine⟨"str",_,PySem.F.slot_str_getitem.lookup,Po _ _ _,?_⟩
 cases pl<;>cases pu
 ·exact MD (l:=none) (u:=none) (st:=none) hs rfl (NQ ⟨Km (Txt.slice_le z _ _) hz,λt' k=>⟨.str _,H,I.tok _,⟨_,rfl⟩,q⟩⟩)
 ·exact MD (l:=none) (u:=some (_,_)) (st:=none) hs rfl (NQ ⟨Km (Txt.slice_le z _ _) hz,λt' k=>⟨.str _,H,I.tok _,⟨_,rfl⟩,q⟩⟩)
 ·exact MD (l:=some (_,_)) (u:=none) (st:=none) hs rfl (NQ ⟨Km (Txt.slice_le z _ _) hz,λt' k=>⟨.str _,H,I.tok _,⟨_,rfl⟩,q⟩⟩)
 ·exact MD (l:=some (_,_)) (u:=some (_,_)) (st:=none) hs rfl (NQ ⟨Km (Txt.slice_le z _ _) hz,λt' k=>⟨.str _,H,I.tok _,⟨_,rfl⟩,q⟩⟩)
def kT(z y:Str)(i:Int):Bool:=decide (fromIndex z.length i+y.length<=z.length) && Builtin.Str.subAt z y (fromIndex z.length i)
def ze:V->List V->Hp->VK->Prop:=λx vs H Q=>∃z y i,x=.str z/\vs=[.str y,.int i]/\Q (.bl (kT z y i)) H
def qP:uK X "str.startswith" ze:=by
 intro pins s σ H x xs v us Q I rx rs h;obtain⟨z,y,i,rfl,rfl,q⟩:=h;obtain⟨t,rfl⟩:=rx;obtain⟨_,_,rfl,r1,rs⟩:=Paired.dm rs;obtain⟨_,_,rfl,r2,rs⟩:=Paired.dm rs;obtain rfl:=Paired.vU rs;obtain⟨u1,rfl⟩:=r1;obtain⟨u2,rfl⟩:=r2;exact call_gives PySem.F.slot_str_startswith (Po _ _ _) PySem.F.entry_str_startswith (PySem.F.args_str_startswith_3 _ _ _) (gives_str_startswith_from z y i t _ _) ⟨.bl _,H,I,rfl,q⟩
end Y
def Fl(h:Heap)(e:Addr)(cls:Value)(d:Option Addr):Option Addr->Prop
 |none=>∃oe vs,h.get? e=some oe/\oe.cls=cls/\oe.dict=d/\oe.data=.fields vs/\vs[1]?=some Value.none
 |some T=>∃oe vs oT ts,h.get? e=some oe/\oe.cls=cls/\oe.dict=d/\oe.data=.fields vs/\vs[1]?=some (.ref T)/\T≠e/\h.get? T=some oT/\oT.data=.fields ts/\3<ts.size
def Fl.is(f:Fl h e cls d To):gy e cls d h:=by
 cases To with
 |none=>obtain⟨oe,vs,h1,h2,h3,h4,_⟩:=f;exact⟨oe,vs,h1,h2,h3,h4⟩
 |some T=>obtain⟨oe,vs,_,_,h1,h2,h3,h4,_⟩:=f;exact⟨oe,vs,h1,h2,h3,h4⟩
def gy.ok(x:gy e cls d h):aN P w H h e (.ext (gy e cls d)):=
 ⟨x,let ⟨o,_,h1,_⟩:=x;⟨o,h1⟩,λh1 h2 ⟨o,vs,a,b,c,d⟩ k=>⟨o,vs,k o a,b,c,d⟩⟩
def gy.one{cls':Value}{d':Option Addr}(x:gy e cls d h)(y:gy e cls' d' h):cls=cls'/\d=d':=by
 obtain⟨o,_,h1,h2,h3,_⟩:=x;obtain⟨o',_,g1,g2,g3,_⟩:=y;rw[h1] at g1;cases g1;exact⟨h2.symm.trans g2,h3.symm.trans g3⟩
structure Mv (h h':Heap) (e:Addr) (To:Option Addr) (fs:List Addr) (T':Addr):Prop where
 keep:∀b o,b≠e->(∀T,To=some T->b≠T)->b∉fs->h.get? b=some o->h'.get? b=some o
 slot:∀b o,b∈fs->h.get? b=some o->∃sl,h'.get? b=some {o with slots:=sl}
 new:(h.get? T'=none\/To=some T')/\T'∉fs
section
variable {h:Heap} {e:Addr} {cls:Value} {d:Option Addr} {base:Heap} {l:List Env}
def Fl.oZ{T:Addr}(f:Fl h e cls d (some T))(hl:h.FunFrames base l):T∉iw l:=λm=>by
 obtain⟨_,o,ho,hd⟩:=hl.mem m;obtain⟨_,_,oT,ts,_,_,_,_,_,_,hT,hdT,_⟩:=f;rw[hT] at ho;cases ho;exact hd ts hdT
def zh{o:Obj}{vs:Array Value}(q:o.data=.fields vs)(g:Array Value->Array Value):o.mapFields g={o with data:=.fields (g vs)}:=by
 obtain⟨c,dd,dt,sl⟩:=o;cases q;rfl
end
section
variable {M:Model} {A:Around} {E:Value->Shared->Prop} {s:Shared} {env:Env} {outer:List Env} {L e:Addr} {cls:Value} {d:Option Addr} {base:Heap}
def i3{o:Obj}{vs:Array Value}{x:Value}{Q:Unit->Shared->Prop}(ho:s.heap.get? a=some o)(hd:o.data=.fields vs)(hi:i<vs.size)
  (hq:∀h':Heap,(∀b,b≠a->h'.get? b=s.heap.get? b)->h'.get? a=some {o with data:=.fields (vs.setIfInBounds i x)}->Q () {s with heap:=h'}):wpAny M A (setField (.ref a) i x) Q E s:=by
 have hm:=zh hd (·.setIfInBounds i x);refine N5 ho hd hi (hq _ (λb n=>MO _ _ (Lk n)) ?_);have:=LM (Obj.mapFields (·.setIfInBounds i x)) ho (NF (MJ hd _));rw[hm] at this;exact this
def iK{T:Addr}{fl:Value}{oT:Obj}{vs ts:Array Value}{Q:Unit->Shared->Prop}(he:s.heap.get? e=some oe)(hd:oe.data=.fields vs)(h1:vs[1]?=some (.ref T))(hne:T≠e)(hT:s.heap.get? T=some oT)(hdT:oT.data=.fields ts)(h3:ts[3]?=some fl)
  (hq:∀h':Heap,(∀b,b≠T->h'.get? b=s.heap.get? b)->h'.get? T=some {oT with data:=.fields (ts.setIfInBounds 3 .none)}->Q () {s with heap:=h'}):wpAny M A (setFlight (.ref e) none) Q E s:=by
 unfold setFlight;refine Kh (Ly he hd h1 ?_);rw[Ku (by simp)]
 exact i3 hT hdT (KC.mp h3).1 hq
def j4{vs:Array Value}{head:Value}{hn:Bool}{Q:Unit->Shared->Prop}(hfr:A.frames=some (env::outer))(hf:env.frame=some L)(hl:s.heap.FunFrames base (env::outer))(he:s.heap.get? e=some oe)(hd:oe.data=.fields vs)(hsz:1<vs.size)
  (hq:∀(h':Heap) (T':Addr) (oT:Obj) (ts:Array Value),(∀b o,b≠e->b∉iw (env::outer)->s.heap.get? b=some o->h'.get? b=some o)->(∀b o,b∈iw (env::outer)->s.heap.get? b=some o->∃sl,h'.get? b=some {o with slots:=sl}) ->
   s.heap.get? T'=none->h'.get? e=some {oe with data:=.fields (vs.setIfInBounds 1 (.ref T'))}->h'.get? T'=some oT->oT.data=.fields ts->ts[3]?=some (rawInt L)->T'≠e->T'∉iw (env::outer)->Q () {s with heap:=h'}) :
  wpAny M A (frameOf env >>= λa=>entryPlaceOf L hn >>= λpl=>EntryCells.newEntry head a .none (rawInt L) .none pl >>= λb=>setField (.ref e) 1 b) Q E s:=by
 have nfe:e∉iw (env::outer):=λm=>by
  obtain⟨_,o,ho,hnf⟩:=hl.mem m;rw[he] at ho;cases ho;exact hnf vs hd
 refine Kh (wpAny_frameOf_fun hfr hl hf λh1 hs=>?_);obtain⟨hs1,hs2,hs3⟩:=hs;refine Kh (wpAny_entryPlaceOf λpl hpl=>?_);unfold EntryCells.newEntry newFields;refine Kh (LJ ?_ (hpl.sizeOk5 _ _ _ _ _));have e1:h1.get? e=some oe:=(hs2 e nfe).trans he;have hsize:∀b o,h1.get? b=some o->b≠h1.objs.size:=λb o q=>KH (Kz q);refine i3 (Kk _ e1) hd hsz λh2 k1 k2=>?_;have nfT:h1.objs.size∉iw (env::outer):=λm=>by
  obtain⟨_,o,ho,_⟩:=hl.mem m;obtain⟨sl,q⟩:=hs3 _ o ho;exact hsize _ _ q rfl
 refine hq h2 h1.objs.size _ _ (λb o n1 n2 q=>?_) (λb o m q=>?_) ?_ k2 ((k1 _ (Lk (hsize _ _ e1))).trans (K1 h1 rfl)) rfl ?_ (Lk (hsize _ _ e1)) nfT
 ·rw[k1 b n1];exact Kk _ ((hs2 b n2).trans q)
 ·obtain⟨sl,q1⟩:=hs3 b o q;exact⟨sl,(k1 b λz=>nfe (by rw[<- z];exact m)).trans (Kk _ q1)⟩
 ·cases q:s.heap.get? h1.objs.size with
  |none=>rfl
  |some o =>
   obtain⟨sl,q1⟩:=hs3 _ o q;exact absurd rfl (hsize _ _ q1)
 ·rcases hpl with rfl|⟨_,_,_,_,_,_,_,rfl⟩<;>simp
def qo{T:Addr}{l:List Env}{Q:Unit->Shared->Prop}(hl:s.heap.FunFrames base l)(f:Fl s.heap e cls d (some T))
  (hq:∀h' T',Mv s.heap h' e (some T) (iw l) T'->Fl h' e cls d (some T')->Q () {s with heap:=h'}):wpAny M A (setFlight (.ref e) none) Q E s:=by
 have nfT:=f.oZ hl;obtain⟨oe,vs,oT,ts,g1,g2,g3,g4,g5,g6,g7,g8,g9⟩:=id f;refine iK g1 g4 g5 g6 g7 g8 (Mc g9) λh2 j1 j2=>?_;refine hq h2 T ⟨λb o n1 n2 n3 q=>(j1 b (n2 T rfl)).trans q,λb o m q=>⟨o.slots,(j1 b λz=>nfT (by rw[<- z];exact m)).trans q⟩,.inr rfl,nfT⟩ ⟨_,_,_,_,(j1 e (Lk g6)).trans g1,g2,g3,g4,g5,g6,j2,rfl,?_⟩
 simp[g9]
def oR{Q:Unit->Shared->Prop}(hfr:A.frames=some (env::outer))(hf:env.frame=some L)(hl:s.heap.FunFrames base (env::outer))(f:Fl s.heap e cls d To)
  (hq:∀h' T',Mv s.heap h' e To (iw (env::outer)) T'->Fl h' e cls d (some T')->Q () {s with heap:=h'}):wpAny M A (noteFrame (.ref e) env) (λ_ s2=>wpAny M A (setFlight (.ref e) none) Q E s2) E s:=by
 unfold noteFrame;simp only[hf]
 cases To with
 |none =>
  obtain⟨oe,vs,g1,g2,g3,g4,g5⟩:=id f;have hsz:=(KC.mp g5).1;refine Kh (Ly g1 g4 g5 ?_);rw[Ko (by decide)]
  refine j4 hfr hf hl g1 g4 hsz λh1 T' oT ts k1 k2 k3 k4 k5 k6 k7 k8 k9=>?_;refine iK (s:={s with heap:=h1}) k4 rfl (by simp[hsz]) k8 k5 k6 k7 λh2 j1 j2=>?_
  have nT:∀b o,s.heap.get? b=some o->b≠T':=λb o q z=>by rw[z,k3] at q;cases q
  refine hq h2 T' ⟨λb o n1 _ n3 q=>?_,λb o m q=>?_,.inl k3,k9⟩ ⟨_,_,_,_,(j1 e (Lk k8)).trans k4,g2,g3,rfl,by simp[hsz],k8,j2,rfl,?_⟩
  ·exact (j1 b (nT b o q)).trans (k1 b o n1 n3 q)
  ·obtain⟨sl,q1⟩:=k2 b o m q;exact⟨sl,(j1 b (nT b o q)).trans q1⟩
  ·have:=(KC.mp k7).1;simp[this]
 |some T =>
  obtain⟨oe,vs,oT,ts,g1,g2,g3,g4,g5,g6,g7,g8,g9⟩:=id f;have hsz:=(KC.mp g5).1;have nfT:=f.oZ hl;refine Kh (Ly g1 g4 g5 ?_);rw[Ku (by simp)]
  refine Kh (Ly g7 g8 (Mc g9) ?_);by_cases cL:(ts[3] == rawInt L)=true
  ·rw[Ku cL];exact Kt (qo hl f hq)
  rw[Ko cL];refine Kh (i3 g7 g8 g9 λh0 i1 i2=>?_);have hl0:h0.FunFrames base (env::outer):=hl.of_keeps λb o q hn=>⟨o,(i1 b λz=>by rw[z,g7] at q;cases q;exact hn ts g8).trans q,rfl⟩
  refine j4 (s:={s with heap:=h0}) hfr hf hl0 ((i1 e (Lk g6)).trans g1) g4 hsz λh1 T' oT' ts' k1 k2 k3 k4 k5 k6 k7 k8 k9=>?_
  refine iK (s:={s with heap:=h1}) k4 rfl (by simp[hsz]) k8 k5 k6 k7 λh2 j1 j2=>?_
  have nTT:T'≠T:=λz=>by
   have k3':h0.get? T'=none:=k3;rw[z,i2] at k3';cases k3'
  have nT:∀b o,s.heap.get? b=some o->b≠T':=λb o q z=>by
   have k3':h0.get? T'=none:=k3;rw[<- z] at k3';by_cases z2:b=T
   ·exact nTT (z.symm.trans z2)
   ·rw[i1 b z2,q] at k3';cases k3'
  refine hq h2 T' ⟨λb o n1 n2 n3 q=>?_,λb o m q=>?_,.inl ?_,k9⟩ ⟨_,_,_,_,(j1 e (Lk k8)).trans k4,g2,g3,rfl,by simp[hsz],k8,j2,rfl,?_⟩
  ·exact (j1 b (nT b o q)).trans (k1 b o n1 n3 ((i1 b (n2 T rfl)).trans q))
  ·have nbT:b≠T:=λz=>nfT (by rw[<- z];exact m)
   obtain⟨sl,q1⟩:=k2 b o m ((i1 b nbT).trans q);exact⟨sl,(j1 b (nT b o q)).trans q1⟩
  ·exact (i1 T' nTT).symm.trans k3
  ·have:=(KC.mp k7).1;simp[this]
def uP{Q:Unit->Shared->Prop}(hfr:A.frames=some (env::outer))(hf:env.frame=some L)(hl:s.heap.FunFrames base (env::outer))(f:Fl s.heap e cls d To)
  (hq:∀h' T',Mv s.heap h' e To (iw (env::outer)) T'->Fl h' e cls d (some T')->Q () {s with heap:=h'}):wpAny M A (leaving env (.ref e)) Q E s:=by
 unfold leaving;exact Kh (oR hfr hf hl f hq)
end
def dB.zU(x:dB P w H h)(k:∀b u,h.get? b=some u->h'.get? b=some u)(hn:H a=none)(new:aN P w (upd H a o) h' a o):dB P w (upd H a o) h':=λb u e=>by
 by_cases z:b=a
 ·subst z;rw[aa] at e;cases e;exact new
 ·rw[ae z] at e;exact (x b u e).iC (λc v _ q=>k c v q) (λc q=>by rw[ae (aq q hn)];exact q) (λc xs q=>by rw[ae (aq q hn)];exact q) λc _ _ q=>by rw[ae (aq q hn)];exact q
def Un.zU{fs:List Addr}(k:∀b u,h.get? b=some u->h'.get? b=some u)(h0:h.get? a=none)(hn:H a=none):Un fs ex H (upd H a o) h h' where
 keep:=λb u q _ _ _=>k b u q
 slot:=λb u q _ _ _=>⟨u.slots,k b u q⟩
 free:=λb u q n _=>by rw[ae (λz=>by rw[z,h0] at q;cases q)];exact n
 there:=λb u q _=>⟨u,k b u q⟩
 jc:=λb xs q=>by rw[ae (aq q hn)];exact q
 i4:=λb u xs q=>by rw[ae (aq q hn)];exact q
 gZ:=λb ps q=>⟨#[],by rw[ae (aq q hn),q];simp⟩
def dB.none_of(x:dB P w H h)(e:h.get? a=none):H a=none:=by
 cases q:H a with
 |none=>rfl
 |some u =>
  have:=x a u q;obtain⟨o,ho⟩:∃o,h.get? a=some o:=by
   clear q
   induction u with
   |lst xs=>obtain⟨_,_,_,_,z⟩:=this;exact⟨_,z⟩
   |tup xs=>obtain⟨_,_,_,o,z,_⟩:=this;exact⟨_,z⟩
   |dK kvs=>obtain⟨_,_,_,_,o,_,_,z,_⟩:=this;exact⟨_,z⟩
   |dT kvs=>obtain⟨_,_,_,_,o,_,_,z,_⟩:=this;exact⟨_,z⟩
   |set S n=>obtain⟨o,_,_,_,z,_⟩:=this;exact⟨_,z⟩
   |ins C dx fs=>obtain⟨_,_,_,z,_⟩:=this;exact⟨_,z⟩
   |own x=>exact this
   |xd fs=>obtain⟨_,⟨o,_,_,z,_⟩,_⟩:=this;exact⟨_,z⟩
   |met f x=>exact⟨_,this⟩
   |lJ lo hi=>obtain⟨_,_,_,z⟩:=this;exact⟨_,z⟩
   |iH o u ih=>exact⟨_,this.1⟩
   |we ps=>obtain⟨_,z,_⟩:=this;exact⟨_,z⟩
   |ext φ=>exact this.2.1
  rw[e] at ho;cases ho
def dB.moved{T':Addr}{fs:List Addr}(x:dB P w H h)(mv:Mv h h' e To fs T')(f':gy e cls d h')(he:H e=some (.ext (gy e cls d)))(hT:∀T,To=some T->H T=none)(hf:∀b∈fs,H b=none):dB P w H h':=λb u q=>by
 by_cases z:b=e
 ·subst z;rw[he] at q;cases q;exact f'.ok
 ·refine (x b u q).iC (λc v hc r=>?_) (λ_ q=>q) (λ_ _ q=>q) λ_ _ _ q=>q;have tr:∃o,H c=some o:=by
   rcases hc with rfl|hc
   ·exact⟨u,q⟩
   ·exact⟨_,hc⟩
  obtain⟨o,tr⟩:=tr;refine mv.keep c v (λz2=>?_) (λT hT' z2=>?_) (λm=>?_) r
  ·rcases hc with rfl|hc
   ·exact z z2
   ·rw[z2,he] at hc;cases hc
  ·rw[z2,hT T hT'] at tr;cases tr
  ·rw[hf c m] at tr;cases tr
section
variable {X:Cx} {pins:List (Addr×Obj)} {σ:St} {H H':Hp} {s:Shared} {h':Heap}
def Inv.HP{ch:List Addr}(I:Inv X pins σ H s)
  (hch:∀b∈ch,X.s₀.heap.get? b=none/\b≠X.env.locals/\(∀x c,X.env.cells.lookup x=some c->c≠b)/\∀p∈X.pn++pins,p.1≠b)
  (keep:∀b o,b≠X.env.locals->b∉X.fs->b∉ch->s.heap.get? b=some o->H b=none->h'.get? b=some o)
  (slot:∀b o,b≠X.env.locals->b∈X.fs->b∉ch->s.heap.get? b=some o->H b=none->∃sl,h'.get? b=some {o with slots:=sl})
  (there:∀b o,b∉ch->s.heap.get? b=some o->∃o',h'.get? b=some o')
  (ns:∀m,s.heap.Ns X.env.locals m->h'.Ns X.env.locals m) (aL:dB X.prog X.w H h') :
  Inv X pins σ H {s with heap:=h'}:=by
 have neL:∀b o,X.s₀.heap.get? b=some o->b≠X.env.locals:=λb o e=>KH (KI (Kz e) I.ok.above);have neC:∀b o,X.s₀.heap.get? b=some o->b∉ch:=λb o e hb=>by rw[(hch b hb).1] at e;cases e
 have cellK:∀x c,X.env.cells.lookup x=some c->∀v,s.heap.IsCell c v->h'.IsCell c v:=λx c e v ⟨o,ho,hd⟩=>by
  have nch:c∉ch:=λz=>(hch c z).2.2.1 x c e rfl;by_cases hc:c∈X.fs
  ·obtain⟨sl,q⟩:=slot c o (I.vH x c e) hc nch ho (I.cw x c e);exact⟨_,q,hd⟩
  ·exact⟨o,keep c o (I.vH x c e) hc nch ho (I.cw x c e),hd⟩
 refine⟨I.ok,I.os,I.bare,⟨λb o e n hb hx=>?_,λb o e n hb hx=>?_,I.base.free,λb o e hx=>?_,I.base.jc,I.base.i4,I.base.gZ⟩,?_,λx c e=>?_,I.free,I.cw,λp hp=>?_,aL,I.len⟩
 ·exact keep b o (neL b o e) hb (neC b o e) (I.base.keep b o e n hb hx) (I.base.free b o e n hx)
 ·obtain⟨sl,e1⟩:=I.base.slot b o e n hb hx;obtain⟨sl',e2⟩:=slot b _ (neL b o e) hb (neC b o e) e1 (I.base.free b o e n hx);exact⟨sl',e2⟩
 ·obtain⟨o',e1⟩:=I.base.there b o e hx;exact there b o' (neC b o e) e1
 ·obtain⟨m,hn,hl⟩:=I.loc;refine⟨m,ns m hn,λi x v e1 e2 e3=>?_⟩;obtain⟨u,r,l⟩:=hl i x v e1 e2 e3;refine⟨u,r,?_⟩;rcases l with l|⟨k,c,e,z⟩
  ·exact .inl l
  ·exact .inr ⟨k,c,e,cellK x c e _ z⟩
 ·obtain⟨v,z⟩:=I.cell x c e;exact⟨v,cellK x c e v z⟩
 ·obtain⟨e,n,ne,nf,d⟩:=I.pin p hp;have nch:p.1∉ch:=λz=>(hch p.1 z).2.2.2 p hp rfl;exact⟨keep p.1 p.2 ne nf nch e n,n,ne,nf,d⟩
structure Nw (X:Cx) (pins:List (Addr×Obj)) (H:Hp) (e:Addr) (cls:Value) (d To:Option Addr):Prop where
 tr:H e=some (.ext (gy e cls d))
 e0:X.s₀.heap.get? e=none
 d0:∀a,d=some a->X.s₀.heap.get? a=none
 t0:∀T,To=some T->H T=none/\X.s₀.heap.get? T=none/\∀p∈X.pn++pins,p.1≠T
def Inv.moved{T':Addr}(I:Inv X pins σ H s)(hex:X.ex=[])(f:Fl s.heap e cls d To)(nw:Nw X pins H e cls d To)(mv:Mv s.heap h' e To (iw X.stack) T')(f':Fl h' e cls d (some T')):
  Inv X pins σ H {s with heap:=h'}/\Nw X pins H e cls d (some T'):=by
 have hfr:=I.ju;have teT:∀T o,To=some T->s.heap.get? T=some o->T∉iw X.stack:=λT o hT _=>by subst hT;exact f.oZ I.stack
 have hne:∀b o,s.heap.get? b=some o->H b=none->b≠e:=λb o _ n z=>by rw[z,nw.tr] at n;cases n
 refine⟨I.HP (ch:=To.toList) (λb hb=>?_) (λb o hL hb hc q n=>?_) (λb o _ hb hc q n=>?_) (λb o hc q=>?_) (λm hm=>?_) (I.aL.moved mv f'.is nw.tr (λT hT=>(nw.t0 T hT).1) hfr),nw.tr,nw.e0,nw.d0,λT hT=>?_⟩
 ·cases To with
  |none=>cases hb
  |some T =>
   have:b=T:=by simpa using hb
   subst this;obtain⟨h1,h2,h3⟩:=nw.t0 b rfl;obtain⟨_,_,oT,ts,_,_,_,_,_,_,hT,hdT,_⟩:=f;refine⟨h2,λz=>?_,λx c hc z=>?_,h3⟩
   ·obtain⟨m,⟨o,es,ep,ho,hd,_⟩,_⟩:=I.loc;rw[<- z,hT] at ho;cases ho;rw[hdT] at hd;cases hd
   ·obtain⟨v,o,ho,hd⟩:=I.cell x c hc;rw[z,hT] at ho;cases ho;rw[hdT] at hd;cases hd
 ·refine mv.keep b o (hne b o q n) (λT hT z=>hc (by rw[hT,z];simp)) (λm=>?_) q
  exact (Kv.mp (I.kU b m)).elim hL hb
 ·by_cases m:b∈iw X.stack
  ·exact mv.slot b o m q
  ·exact⟨o.slots,mv.keep b o (hne b o q n) (λT hT z=>hc (by rw[hT,z];simp)) m q⟩
 ·by_cases z:b=e
  ·obtain⟨o',_,q',_⟩:=f'.is;exact⟨o',by rw[z];exact q'⟩
  ·by_cases m:b∈iw X.stack
   ·obtain⟨sl,q2⟩:=mv.slot b o m q;exact⟨_,q2⟩
   ·exact⟨o,mv.keep b o z (λT hT z=>hc (by rw[hT,z];simp)) m q⟩
 ·obtain⟨o,es,ep,ho,r⟩:=hm;have n:=I.free;by_cases mm:X.env.locals∈iw X.stack
  ·obtain⟨sl,q2⟩:=mv.slot _ o mm ho;exact⟨_,es,ep,q2,r⟩
  ·refine⟨o,es,ep,mv.keep _ o (hne _ o ho n) (λT hT z=>?_) mm ho,r⟩;subst hT;obtain⟨_,_,oT,ts,_,_,_,_,_,_,hT,hdT,_⟩:=f;rw[z,hT] at ho;cases ho;obtain⟨hd,_⟩:=r;rw[hdT] at hd;cases hd
 ·cases hT;rcases mv.new.1 with q|q
  ·refine⟨I.aL.none_of q,?_,λp hp z=>?_⟩
   ·cases q2:X.s₀.heap.get? T' with
    |none=>rfl
    |some o =>
     obtain⟨o',q3⟩:=I.base.there T' o q2 (by rw[hex];simp)
     rw[q] at q3;cases q3
   ·rw[<- z,(I.pin p hp).1] at q;cases q
  ·exact nw.t0 T' q
def g_(X:Cx)(cls:Value)(d:Option Addr)(e:Addr)(σ:St)(H:Hp):Prop:=∀(pins:List (Addr×Obj)) (s:Shared) (To:Option Addr),Inv X pins σ H s->Fl s.heap e cls d To->Nw X pins H e cls d To->X.xe (.ref e) s
def oB(P:Program)(w:World):oC:=λouter H s E x s'=>∃(e T:Addr) (cls:Value) (d:Option Addr) (H':Hp),x=.ref e/\s'.os=s.os/\AllBare s'.gens/\Un (iw outer) [] H H' s.heap s'.heap/\dB P w H' s'.heap/\Fl s'.heap e cls d (some T)/\s.heap.get? e=none/\(∀a,d=some a->s.heap.get? a=none)/\s.heap.get? T=none/\H' e=some (.ext (gy e cls d))/\H' T=none/\E cls (some e) H'
end
def jA{base:Heap}{cd:Value}{A:Around}{outer:List Env}{s0:Shared}{H0:Hp}{E:XK}(hE:E cls (some e) H):
  g_ (iZ (oB P w) P w K mg base N qual scope f cd A outer s0 H0 E) cls d e σ H:=by
 intro pins s To I fl nw;refine uP (base:=base) I.ok.frames rfl I.stack fl λh' T' mv f'=>?_;obtain⟨I2,nw2⟩:=I.moved rfl fl nw mv f';exact⟨e,T',cls,d,H,rfl,I.os,I.bare,I2.base,I2.aL,f',nw.e0,nw.d0,(nw2.t0 T' rfl).2.1,nw.tr,(nw2.t0 T' rfl).1,hE⟩
section
variable {X:Cx}
def ET(X:Cx)(σ:St)(H:Hp):XK:=λcls de H'=>∃(e:Addr) (d:Option Addr),de=some e/\H' e=some (.ext (gy e cls d))/\(H e=none->(∀a,d=some a->H a=none)->g_ X cls d e σ H')
def yV(X:Cx)(sp:Sp)(t:TA):TE:=λσ H Q=>t σ H λvs H1=>sp vs H1 Q (ET X σ H1)
def FO{k:Nat}{ps:List Str}{p pos:Pos}{e:Expr}{t:TA}(F:ao X.prog X.w X.K X.mg X.base (oB X.prog X.w) k x ps sp)(hr:bt k X.A)(hg:Gl X x)(hex:X.ex=[])(ha:PA X (e::es) t)(h1:autoParam (cW e=true) ℜ0)(h2:autoParam (es.all cW=true) ℜ0)(hdb:autoParam ((x ==("__debug__":Str))=false) ℜ1):
  PE X (.Call (.Name x p) (e::es) [] pos) (yV X sp t):=by
 intro pins s σ H Q I h;obtain⟨f,fd,hm,hk,hb,G⟩:=F.ex;refine LO (dQ I hg hm ?_ hdb);refine O4 (h₀:=X.base) I.ok.mod.jz hk (bH (ha pos pins s σ H _ I h) λus s1 ⟨vs,H1,I1,r,q⟩=>⟨I1.fi,?_⟩) (bN h1) (plain_any h2);have hl:us.length=ps.length:=by rw[<- r.length];exact G.len _ _ _ _ q
 have hb2:=hb s1 us I1.fi (by rw[Le];exact hl)
 rw[Le] at hb2;refine MZ (NL (G.run X.A X.stack s1 H1 ⟨us,[]⟩ us vs Q (ET X σ H1) hr I1.Bm hb2 r q) λr s' hq=>?_)
 cases r with
 |error e =>
  obtain⟨ea,T,cls,d,H',rfl,ho,hbare,un,aL,fl,n1,n3,n2,tr,nT,ea',d',hea,tr',hd⟩:=hq;cases hea;obtain⟨_,rfl⟩:=fl.is.one (show gy ea cls d' s'.heap from (aL _ _ tr').1);have I2:=I1.yB (ch:=[]) ho un aL hbare (λb z=>absurd z (by simp))
  have n0:∀b,s1.heap.get? b=none->X.s₀.heap.get? b=none:=λb z=>by
   cases q2:X.s₀.heap.get? b with
   |none=>rfl
   |some o =>
    obtain⟨o',q3⟩:=I1.base.there b o q2 (by rw[hex];simp)
    rw[z] at q3;cases q3
  exact hd (I1.aL.none_of n1) (λa z=>I1.aL.none_of (n3 a z)) pins s' (some T) I2 fl ⟨tr,n0 _ n1,λa z=>n0 _ (n3 a z),λT' hT=>by
   cases hT;exact⟨nT,n0 _ n2,λp hp z=>by rw[<- z,(I1.pin p hp).1] at n2;cases n2⟩⟩
 |ok fl =>
  cases fl with
  |ret u=>exact I1.after hq
  |next=>exact False.elim hq
  |brk=>exact False.elim hq
  |cont=>exact False.elim hq
structure vq (K:W.Frag) (C:Addr):Prop where
 q:W.excIn K C [.type "ValueError",.type "Exception",.type "BaseException",.type "object"] "ValueError.__new__"=true
def vq.obj(c:vq K C):∃bm N nm qn bs hd sn sub ab col dd k0 k1 k2 k3 k5,K.lookup C=some (excClassObj nm qn C N bs bm hd sn sub ab col dd k0 k1 k2 k3 k5 "ValueError.__new__") /\
  (∀h:Heap,K.In h->OwnTail h [.type "ValueError",.type "Exception",.type "BaseException",.type "object"] bm)/\(∃oN,K.lookup N=some oN)/\∀h:Heap,K.In h->∃mN,h.Ns N mN/\mN "__init__"=none:=by
 have q:=c.q;unfold W.excIn at q
 split at q
 ·rename_i dd cd sl ho
  split at q
  ·rename_i C2 bm k0 k1 k2 k3 nw k5 hm hs;simp only[beq_iff_eq,Bool.not_eq_true',Bool.and_eq_true] at q;obtain⟨⟨⟨⟨⟨z1,z2⟩,z3⟩,z4⟩,z5⟩,z6⟩:=q;subst z1;subst z2;obtain⟨nm,bs,mr,ns,qn,hd,sn,sub,ab,col,dl⟩:=cd;dsimp only at hm z3 z5 z6 ho;subst hm;subst z3;obtain⟨l⟩:=sl;have hs':l=[k0,k1,k2,k3,some (.builtin "ValueError.__new__"),k5]:=hs;subst hs';refine⟨bm,ns,nm,qn,bs,hd,sn,sub,ab,col,dd,k0,k1,k2,k3,k5,ho,λh jz=>W.tail_of_in jz z4,?_,λh jz=>⟨_,.of_isNs (W.isNs_of_in jz z5),W.nsMap_none_of_in jz z5 z6⟩⟩;unfold W.nsOkIn at z5
   split at z5
   ·rename_i hN;exact⟨_,hN⟩
   ·cases z5
  ·cases q
 ·cases q
end
abbrev Xw:=T->Mu->Prop
abbrev qS:=Value->Option Addr->Addr->St->Hp->Prop
abbrev UX:=Mu->(R->Mu->Prop)->Xw->Prop
abbrev JW:=Ed->Xw->Mu->Prop
def Fm(K:W.Frag)(mg:Str->Option Value)(x:Str)(f:Addr)(cdv:Value):Prop:=mg x=some (.ref f)/\∃(o:Obj) (fd:FuncData),K.lookup f=some o/\o.data=.func fd/\fd.code=cdv
abbrev uH(X:Cx)(pins:List (Addr×Obj))(E:Value->Shared->Prop):Cx:={X with xe:=E,pn:=X.pn++pins}
abbrev DD(X:Cx)(e:Addr):Cx:={X with A:=X.A.mark (some (.ref e)),calm:=false,xe:=λ_ _=>False}
section
variable {X:Cx} {pins pins':List (Addr×Obj)} {σ:St} {H:Hp} {s:Shared} {E:Value->Shared->Prop} {e:Addr}
def Inv.Ic(I:Inv X pins σ H s):Inv (uH X pins E) [] σ H s:=
 ⟨⟨I.ok.mod,I.ok.kind,I.ok.glob,I.ok.blt,I.ok.above,I.ok.inj,I.ok.has,I.ok.zF,I.ok.hd,I.ok.frames,I.ok.Ad,I.ok.CP,I.ok.bs,I.ok.qN,I.ok.jG,I.ok.lN,I.ok.fC,I.ok.v7,I.ok.tabs⟩,
  I.os,I.bare,I.base,I.loc,I.cell,I.free,I.cw,λp hp=>I.pin p (by simpa using hp),I.aL,I.len⟩
def Inv.jg(I:Inv (uH X pins E) pins' σ H s):Inv X pins σ H s:=
 ⟨⟨I.ok.mod,I.ok.kind,I.ok.glob,I.ok.blt,I.ok.above,I.ok.inj,I.ok.has,I.ok.zF,I.ok.hd,I.ok.frames,I.ok.Ad,I.ok.CP,I.ok.bs,I.ok.qN,I.ok.jG,I.ok.lN,I.ok.fC,I.ok.v7,I.ok.tabs⟩,
  I.os,I.bare,I.base,I.loc,I.cell,I.free,I.cw,λp hp=>I.pin p (LD _ hp),I.aL,I.len⟩
def Inv.wc(I:Inv X pins σ H s):Inv (DD X e) pins σ H s:=
 ⟨⟨I.ok.mod,I.ok.kind,I.ok.glob,I.ok.blt,I.ok.above,I.ok.inj,I.ok.has,I.ok.zF,(λz=>nomatch z),I.ok.frames,I.ok.Ad,I.ok.CP,I.ok.bs,I.ok.qN,I.ok.jG,I.ok.lN,I.ok.fC,I.ok.v7,I.ok.tabs⟩,
  I.os,I.bare,I.base,I.loc,I.cell,I.free,I.cw,I.pin,I.aL,I.len⟩
def SP.jg{f:Flow}(h:SP (uH X pins E) pins' D f s):SP X pins D f s:=by
 cases f with
 |next=>obtain⟨σ',H',I,q⟩:=h;exact⟨σ',H',I.jg,q⟩
 |brk=>obtain⟨σ',H',I,q⟩:=h;exact⟨σ',H',I.jg,q⟩
 |cont=>obtain⟨σ',H',I,q⟩:=h;exact⟨σ',H',I.jg,q⟩
 |ret u=>obtain⟨v,σ',H',I,r,q⟩:=h;exact⟨v,σ',H',I.jg,r,q⟩
def SP.IC{f:Flow}(hd:X.A.handled=none)(hc:X.calm=true)(h:SP (DD X e) pins D f s):SP X pins D f s:=by
 have go:∀{σ':St} {H':Hp} {s':Shared},Inv (DD X e) pins σ' H' s'->Inv X pins σ' H' s':=λI =>
  ⟨⟨I.ok.mod,I.ok.kind,I.ok.glob,I.ok.blt,I.ok.above,I.ok.inj,I.ok.has,I.ok.zF,λ_=>hd,I.ok.frames,I.ok.Ad,I.ok.CP,I.ok.bs,I.ok.qN,I.ok.jG,I.ok.lN,I.ok.fC,I.ok.v7,I.ok.tabs⟩,
   I.os,I.bare,I.base,I.loc,I.cell,I.free,I.cw,I.pin,I.aL,I.len⟩
 cases f with
 |next=>obtain⟨σ',H',I,q⟩:=h;exact⟨σ',H',go I,q⟩
 |brk=>obtain⟨σ',H',I,q⟩:=h;exact⟨σ',H',go I,q⟩
 |cont=>obtain⟨σ',H',I,q⟩:=h;exact⟨σ',H',go I,q⟩
 |ret u=>obtain⟨v,σ',H',I,r,q⟩:=h;exact⟨v,σ',H',go I,r,q⟩
end
abbrev UJ:=Mu->(Mu->Prop)->Prop
def jH(a b:Str):(a++b).length=a.length+b.length:=Ou
def oy{n:Nat}(h:n<=40000):n<=sizeLine:=Km h (by decide)
def mW(n m:Nat)(e:Nat->Bool):Bool:=(List.range (min n m)).all e && n == m
inductive uX:Nat->T->T->Bool->Prop
 |flat {n:Nat} {t u:T} (f1:l_ t=true) (f2:l_ u=true):uX n t u (Y.HJ t u)
 |tup {n:Nat} {xs ys:List T} (e:Nat->Bool) (h:∀(j:Nat) (x y:T),xs[j]?=some x->ys[j]?=some y->uX n x y (e j)):uX (n+1) (.tup xs) (.tup ys) (mW xs.length ys.length e)
 |lst {n:Nat} {xs ys:List T} (e:Nat->Bool) (h:∀(j:Nat) (x y:T),xs[j]?=some x->ys[j]?=some y->uX n x y (e j)):uX (n+1) (.lst xs) (.lst ys) (mW xs.length ys.length e)
def wX{t u:T}{v:V}{B:nK}(h1:Rep K H B v t)(h2:Rep K H B v u)(f1:l_ t=true)(f2:l_ u=true):Y.HJ t u=true:=by
 cases h1<;>first | (cases f1;done) | (cases h2<;>first | (cases f2;done)|simp[Y.HJ])
def iQ{n m:Nat}{e:Nat->Bool}(h:n=m)(h2:∀j,j<n->e j=true):mW n m e=true:=by
 subst h;unfold mW;rw[M4,L3,Oq,M0];intro j hj;exact h2 j (by simpa using hj)
def uX.same{n:Nat}{t u:T}{b:Bool}(d:uX n t u b):∀{K:W.Frag} {H:Hp} {B:nK} {v:V},Rep K H B v t->Rep K H B v u->b=true:=by
 induction d with
 |flat f1 f2=>exactλh1 h2=>wX h1 h2 f1 f2
 |tup e h ih =>
  rename_i nn xs ys;intro K H B v h1 h2
  cases h1 with
  |tup n1 a1 r1=>cases h2 with
   |tup n2 a2 r2 =>
    rw[a1] at a2;cases a2;refine iQ (r1.length.symm.trans r2.length) λj hj=>?_;have hx:=Kg hj;have hj2:j<ys.length:=by rw[<- r2.length,r1.length];exact hj
    have hy:=Kg hj2;obtain⟨v1,g1,p1⟩:=r1.get hx;obtain⟨v2,g2,p2⟩:=r2.get hy;rw[g1] at g2;cases g2;exact ih j _ _ hx hy p1 p2
 |lst e h ih =>
  rename_i nn xs ys;intro K H B v h1 h2
  cases h1 with
  |lst n1 a1 r1=>cases h2 with
   |lst n2 a2 r2 =>
    rw[a1] at a2;cases a2;refine iQ (r1.length.symm.trans r2.length) λj hj=>?_;have hx:=Kg hj;have hj2:j<ys.length:=by rw[<- r2.length,r1.length];exact hj
    have hy:=Kg hj2;obtain⟨v1,g1,p1⟩:=r1.get hx;obtain⟨v2,g2,p2⟩:=r2.get hy;rw[g1] at g2;cases g2;exact ih j _ _ hx hy p1 p2
section
variable {X:Cx} {pins:List (Addr×Obj)} {σ:St} {H:Hp} {s:Shared} {B:nK}
def ib{A:Around}{n:Nat}{xs:List T}{vs:List V}{e:Nat->Bool}(r1:dw X.K H B vs xs)(r2:dw X.K H B ws ys)(g1:Vals vs its)(g2:Vals ws its2)
  (ih:∀(j:Nat) (x y:T),xs[j]?=some x->ys[j]?=some y->∀(v w:V) (a b:Value),Rep X.K H B v x->Rep X.K H B w y->RelV v a->RelV w b->SeqAt.EqAt A s a b (e j)) :
  ∀j (h1:j<its.toArray.size) (h2:j<its2.toArray.size),SeqAt.EqAt A s its.toArray[j] its2.toArray[j] (e j):=by
 intro j h1 h2;have l1:=g1.length;have l2:=g2.length;have l3:=r1.length;have l4:=r2.length;rw[Kq] at h1 h2;have hx:=Kg (show j<xs.length by lia)
 have hy:=Kg (show j<ys.length by lia)
 obtain⟨v1,q1,p1⟩:=r1.get hx;obtain⟨v2,q2,p2⟩:=r2.get hy;obtain⟨u1,e1,f1⟩:=g1.get q1;obtain⟨u2,e2,f2⟩:=g2.get q2;have z1:its.toArray[j]=u1:=by
  rw[Kg h1] at e1;simpa using e1
 have z2:its2.toArray[j]=u2:=by
  rw[Kg h2] at e2;simpa using e2
 rw[z1,z2];exact ih j _ _ hx hy v1 v2 u1 u2 p1 p2 f1 f2
def ia{vs:List V}{xs:List T}(e:Nat->Bool)(r1:dw X.K H B vs xs)(r2:dw X.K H B ws ys)(g1:Vals vs its)(g2:Vals ws its2):((List.range (min its.toArray.size its2.toArray.size)).all e && its.toArray.size == its2.toArray.size)=mW xs.length ys.length e:=by
 have l1:=g1.length;have l2:=g2.length;have l3:=r1.length;have l4:=r2.length;unfold mW;rw[Kq,Kq,<- l1,<- l2,l3,l4]
def E1{n:Nat}{t u:T}{b:Bool}(d:uX n t u b):∀(I:Inv X pins σ H s) {A:Around} (hu:A.units+n<cLine) (v w:V) (a c:Value),Rep X.K H B v t->Rep X.K H B w u->RelV v a->RelV w c->SeqAt.EqAt A s a c b:=by
 induction d with
 |flat f1 f2 =>
  intro I A hu v w a c h1 h2 r1 r2;obtain⟨z1,z2,z3⟩:=Y.H_ h1 h2 f1 f2;rw[<- z3];exact sG r1 r2 z1 z2
 |tup e h ih =>
  intro I A hu v w a c h1 h2 r1 r2;rename_i n xs ys;have h1':=h1;have h2':=h2
  cases h1 with
  |tup n1 a1 q1=>cases h2 with
   |tup n2 a2 q2 =>
    rename_i p1 vs p2 ws
    cases r1;cases r2
    by_cases z:p1=p2
    ·subst z;rw[(uX.tup (n:=n) e h).same h1' h2'];exact SeqAt.EqAt.same _
    ·obtain⟨its,g1,pl1,_⟩:=I.tuple (bu.of a1);obtain⟨its2,g2,pl2,_⟩:=I.tuple (bu.of a2);rw[<- ia (X:=X) e q1 q2 g1 g2];exact Od z (SeqAt.RcAt.tuples pl1 pl2 (by lia) (ib (n:=n) q1 q2 g1 g2 λj x y hx hy v w a c=>ih j x y hx hy I (A:=A.in1) (by show A.units+1+n<cLine;lia) v w a c))
 |lst e h ih =>
  intro I A hu v w a c h1 h2 r1 r2;rename_i n xs ys;have h1':=h1;have h2':=h2
  cases h1 with
  |lst n1 a1 q1=>cases h2 with
   |lst n2 a2 q2 =>
    rename_i p1 vs p2 ws
    cases r1;cases r2
    by_cases z:p1=p2
    ·subst z;rw[(uX.lst (n:=n) e h).same h1' h2'];exact SeqAt.EqAt.same _
    ·obtain⟨its,g1,pl1,_⟩:=I.list (a_.of a1);obtain⟨its2,g2,pl2,_⟩:=I.list (a_.of a2);have sz:=ia (X:=X) e q1 q2 g1 g2;rw[<- sz];by_cases hs:its.toArray.size=its2.toArray.size
     ·rw[hs,M4,L3,Oq,<- hs];exact Od z (SeqAt.RcAt.lists pl1.isList pl2.isList hs (by lia) (ib (n:=n) q1 q2 g1 g2 λj x y hx hy v w a c=>ih j x y hx hy I (A:=A.in1) (by show A.units+1+n<cLine;lia) v w a c))
     ·rw[Lb.mpr hs,Pc];exact Od z (SeqAt.RcAt.lists_lengths pl1.isList pl2.isList (bne_iff_ne.mpr hs) (by lia))
end
namespace Y
def Hq(K:W.Frag)(n:Nat)(neg:Bool):R2:=λx y H Q=>∃(B:nK) (a b:Addr) (vs ws:List V) (xs ys:List T) (e:Nat->Bool),x=.ref a/\y=.ref b/\((bu K H a vs/\bu K H b ws)\/(a_ K H a vs/\a_ K H b ws))/\dw K H B vs xs/\dw K H B ws ys /\
 (∀(j:Nat) (x y:T),xs[j]?=some x->ys[j]?=some y->uX n x y (e j))/\Q (.bl (if neg then !mW xs.length ys.length e else mW xs.length ys.length e)) H
def BH{X:Cx}{n:Nat}(hu:X.A.units+n+1<cLine):cI X (compareOp .NotEq) (Hq X.K n true):=by
 intro pins s σ H x y v u Q I rx ry h;obtain⟨B,a,b,vs,ws,xs,ys,e,rfl,rfl,hq,r1,r2,ih,q⟩:=h
 cases rx;cases ry
 have it:∀(j:Nat) (x y:T),xs[j]?=some x->ys[j]?=some y->∀(v w:V) (a b:Value),Rep X.K H B v x->Rep X.K H B w y->RelV v a->RelV w b->SeqAt.EqAt X.A.in1 s a b (e j):=λj x y hx hy v w a c=>E1 (ih j x y hx hy) I (A:=X.A.in1) (by show X.A.units+1+n<cLine;lia) v w a c
 rcases hq with ⟨ha,hb⟩|⟨ha,hb⟩
 ·obtain⟨its,g1,p1,_⟩:=I.tuple ha;obtain⟨its2,g2,p2,_⟩:=I.tuple hb;refine SeqAt.RcNeAt.tuples p1 p2 (by lia) (ib (n:=n) r1 r2 g1 g2 it) X.prog X.w X.xe _ ⟨.bl _,H,I,rfl,?_⟩
  rw[ia (X:=X) e r1 r2 g1 g2];exact q
 ·obtain⟨its,g1,p1,_⟩:=I.list ha;obtain⟨its2,g2,p2,_⟩:=I.list hb;have sz:=ia (X:=X) e r1 r2 g1 g2;by_cases hs:its.toArray.size=its2.toArray.size
  ·rw[hs,M4,L3,Oq,<- hs] at sz;refine SeqAt.RcNeAt.lists p1.isList p2.isList hs (by lia) (ib (n:=n) r1 r2 g1 g2 it) X.prog X.w X.xe _ ⟨.bl _,H,I,rfl,?_⟩
   rw[sz];exact q
  ·rw[Lb.mpr hs,Pc] at sz;refine Oo p1.isList p2.isList (bne_iff_ne.mpr hs) (by lia) X.prog X.w X.xe _ ⟨.bl true,H,I,rfl,?_⟩
   have q2:=q;rw[<- sz] at q2;exact q2
end Y
def Ej{A:Around}{k:Nat}(hr:bt k A):A.units+4+1<cLine:=Lf (Nat.add_le_add_left (by decide:4+1<=64) _) hr.units
namespace Y
def Jt(K:W.Frag):R2:=λx y H Q=>GG K x y H Q\/Hq K 4 true x y H Q
def E9(K:W.Frag)(hK:X.K=K)(hu:X.A.units+4+1<cLine):cI X (compareOp .NotEq) (Jt K):=by subst hK;exact (Ep X.K rfl (by lia)).or (BH hu)
end Y
structure jY (K:W.Frag) (C:Addr):Prop where
 ga:W.findIn K (.ref C) "__getattribute__"=some (some (.builtin "BaseException.__getattribute__"))
 gt:W.findIn K (.ref C) "__getattr__"=some none
 ck:W.findIn K (.ref C) "__class__"=some (some (.builtin "object.__class__"))
 sp:W.specialIn K (.builtin "object.__class__") "__get__"=some (some (.builtin "getset_descriptor.__get__"))
 tk:W.takesIn K (.builtin "object.__class__")=some true
 mo:W.mroIn K C (.type "object")=some true
 mb:W.mroIn K C (.type "BaseException")=some true
def kR{v:Value}{b:Bool}(e:W.mroIn K C v=some b):∃c d cd sl,K.lookup C=some ⟨c,d,.cls cd,sl⟩:=by
 unfold W.mroIn W.clsIn at e
 split at e
 ·rename_i c d cd sl q;exact⟨c,d,cd,sl,q⟩
 ·cases e
theorem mK:∀{ds:List Addr} {us:List Value},Vals (ds.map V.ref) us->us=ds.map Value.ref
 |[],_,.nil=>rfl
 |d::ds,u::us,.cons h r=>by
  have h':u=Value.ref d:=h;rw[h',mK r];rfl
section
variable {X:Cx} {pins:List (Addr×Obj)} {σ:St} {H:Hp} {s:Shared}
def name_goes{A:Around}{pos:Pos}{Q:Unit->Shared->Prop}(I:Inv X pins σ H s)(hN:X.N.Nodup)(hi:X.N[i]?=some x)(hk:X.env.kindOf x=some .local)
  (hq:∀s',Inv X pins (σ.set i none) H s'->Q () s'):wpAny M A (do bindName X.env x .none;unbindBehindTheSuite X.env x pos) Q E s:=by
 obtain⟨m,hn,hl⟩:=id I.loc;have hcls:(X.env.scope.kind == .class || (X.env.scope.kind == .module && X.env.locals != X.env.globals))=false:=by rw[I.ok.kind];rfl
 have vH:=I.vH;refine wpAny_nameGoes_keeps hk hn hcls λh' v hn' hs=>hq _ ?_;have keep:∀b o,b≠X.env.locals->s.heap.get? b=some o->h'.get? b=some o:=λb o n q=>(hs.2 b n).trans q;have neL:∀b o,X.s₀.heap.get? b=some o->b≠X.env.locals:=λb o e=>KH (KI (Kz e) I.ok.above);refine⟨I.ok,I.os,I.bare,⟨λb o e n hb hx=>keep b o (neL b o e) (I.base.keep b o e n hb hx),λb o e n hb hx=>?_,I.base.free,λb o e hx=>?_,I.base.jc,I.base.i4,I.base.gZ⟩,⟨_,hn',λj y v' e1 e2 e3=>?_⟩,λy c e=>?_,I.free,I.cw,λp hp=>?_,λb ob e=>?_,by simpa using I.len⟩
 ·obtain⟨sl,e1⟩:=I.base.slot b o e n hb hx;exact⟨sl,keep b _ (neL b o e) e1⟩
 ·obtain⟨o',e1⟩:=I.base.there b o e hx;exact⟨o',keep b _ (neL b o e) e1⟩
 ·by_cases hj:j=i
  ·subst hj;have:j<σ.length:=by rw[I.len];exact (Kl.mp hi).1
   rw[Mo this] at e2;cases e2
  ·rw[MY (Lk hj)] at e2;obtain⟨u',r',q⟩:=hl j y v' e1 e2 e3;refine⟨u',r',?_⟩;rcases q with ⟨k,e⟩|⟨k,c,e,z⟩
   ·refine .inl ⟨k,?_⟩;have:y≠x:=λe=>hj (ki hN e1 (e ▸ hi));simp[this,e]
   ·exact .inr ⟨k,c,e,z.sameBut hs (vH y c e)⟩
 ·obtain⟨w',z⟩:=I.cell y c e;exact⟨w',z.sameBut hs (vH y c e)⟩
 ·obtain⟨e,n,ne,nf,d⟩:=I.pin p hp;exact⟨keep _ _ ne e,n,ne,nf,d⟩
 ·refine (I.aL b ob e).iC (λc w' hc q=>keep c w' ?_ q) (λ_ q=>q) (λ_ _ q=>q) λ_ _ _ q=>q;rintro rfl;rcases hc with rfl|hc
  ·rw[I.free] at e;cases e
  ·rw[I.free] at hc;cases hc
end
section
variable {prog:Program} {w:World} {A:Around} {E:Value->Shared->Prop} {s:Shared} {K:W.Frag} {x C:Addr} {ox:Obj} {od:Option Obj}
def qU{tk:Tok}{Q:Fin->Shared->Prop}(KX:jY K C)(X:K.In s.heap)(I:W.InstAt s.heap x ox C od)(h:Q (.done (.ret (.ref C))) s):wpAny (model prog w) A (Builtin.«object.__getattribute__» ⟨[.ref x,.str "__class__" tk],[]⟩) Q E s:=by
 obtain⟨cd,fJ⟩:∃cd,W.clsIn K C=some cd:=by
  have:=KX.mo;unfold W.mroIn at this
  cases q:W.clsIn K C with
  |none=>rw[q] at this;cases this
  |some cd=>exact⟨cd,rfl⟩
 have hf:W.findObj K C od "__class__"=some (.bind (.builtin "getset_descriptor.__get__") (.builtin "object.__class__")):=by
  unfold W.findObj;rw[fJ,M_,KX.ck,M_];simp[KX.sp,KX.tk]
 have L0:=I.type (M:=model prog w);have L1:=W.looks_find (M:=model prog w) X I hf;obtain⟨hh,g,d,t,os⟩:=s;unfold Builtin.«object.__getattribute__»
 repeat (any_goals (first|assumption|with_reducible refine Kh (L0.at ?_)|with_reducible refine Kh (L1.at ?_)|wp_step))
 exact W.class_get X I KX.mo (Kt h)
def Cb{tk:Tok}{v:Value}{Q:Fin->Shared->Prop}(X:K.In s.heap)(I:W.InstAt s.heap x ox C od)(hf:W.findObj K C od name=some (.value v))(h:Q (.done (.ret v)) s):wpAny (model prog w) A (Builtin.«object.__getattribute__» ⟨[.ref x,.str name tk],[]⟩) Q E s:=by
 have L0:=I.type (M:=model prog w);have L1:=W.looks_find (M:=model prog w) X I hf;obtain⟨hh,g,d,t,os⟩:=s;unfold Builtin.«object.__getattribute__»
 repeat (any_goals (first|assumption|with_reducible refine Kh (L0.at ?_)|with_reducible refine Kh (L1.at ?_)|wp_step))
def wQ{v:Value}{fill expr:Bool}(KX:jY K C)(X:K.In s.heap)(I:W.InstAt s.heap x ox C od)(hh:W.handedIn v=true)
  (ent:∀(A':Around) (Q':Fin->Shared->Prop) (E':Value->Shared->Prop) (t':Nat),Q' (.done (.ret v)) {s with toks:=t'}->wpAny (model prog w) A' (Builtin.«object.__getattribute__» ⟨[.ref x,.str name s.toks],[]⟩) Q' E' {s with toks:=t'})
  (h:Q v {s with toks:=s.toks+1}):wpAny (model prog w) A (getAttrBy (.ref x) (.str name s.toks) fill expr) Q E {s with toks:=s.toks+1}:=by
 have L0:=I.type (M:=model prog w);have L1:=NY (M:=model prog w) X KX.ga;have L2:=NY (M:=model prog w) X KX.gt;have LB:W.Looks (model prog w) s.heap (isInstance (.ref x) (.type "BaseException")) true:=L0.andThen (W.looks_mroIn (M:=model prog w) X KX.mb);have fb:=PySem.F.attr_ValueError.ga.bind (.ref x);have n1:(onTheHeap (Value.ref C) && Value.builtin "BaseException.__getattribute__" == Value.builtin "object.__getattribute__")=false:=by
  rw[show (Value.builtin "BaseException.__getattribute__" == Value.builtin "object.__getattribute__")=false from by decide +kernel];rfl
 obtain⟨hp,g,d,t,os⟩:=s;unfold getAttrBy;refine wpAny_holding (wpAny_bind (L0.at (wpAny_bind (L1.at ?_))));dsimp only;rw[if_neg (by rw[n1];decide)]
 unfold getAttrByItsOwn hookBefore;rw[Ku (show onTheHeap (Value.ref C)=true from rfl)];refine Kh (L2.at (Kh (MG (Lu ?_))));unfold callGetattribute boundAndCalled;rw[show (expr && onTheHeap (Value.builtin "BaseException.__getattribute__"))=false from Pc _,Ko (by decide),fb]
 refine Kh (Kt (MZ ?_));refine Na PySem.F.attr_ValueError.ga.plain PySem.F.entry_bexc_ga ?_;have hk:builtinKind "BaseException.__getattribute__"=some .slot:=by decide +kernel
 have jr:splitId "BaseException.__getattribute__"=some ("BaseException","__getattribute__"):=by decide +kernel
 have ha:=PySem.F.args_bexc_ga (.ref x) (.str name t);simp only[checkBuiltinCall,hk,jr];show wpAny _ _ (isInstance (.ref x) (.type "BaseException") >>= _) _ _ _;refine Kh (LB.at ?_);rw[Ko (by decide)]
 unfold argsOk at ha;have fin:∀(A':Around),wpAny (model prog w) A (handedOut v) Q E ⟨hp,g,d,t+1,os⟩:=λ_=>by rw[W.handedOut_of hh];exact Kt h
 cases q:Manifest.signature? "BaseException.__getattribute__" with
 |none =>
  refine Kt (ent _ _ _ _ ?_);exact fin A
 |some sg =>
  rw[q] at ha;have ha':Bind.checkArgs "BaseException.__getattribute__" sg ⟨[.ref x,.str name t],[]⟩=pure ():=ha;show wpAny _ _ (Bind.checkArgs "BaseException.__getattribute__" sg ⟨[.ref x,.str name t],[]⟩) _ _ _;rw[ha'];refine Kt (ent _ _ _ _ ?_);exact fin A
def BL{v:Value}{expr:Bool}(KX:jY K C)(X:K.In s.heap)(I:W.InstAt s.heap x ox C od)(hf:W.findObj K C od name=some (.value v))(hh:W.handedIn v=true)
  (h:Q v {s with toks:=s.toks+1}):wpAny (model prog w) A (getAttr (.ref x) name expr) Q E s:=by
 unfold getAttr;refine Kh (P6 ?_);exact wQ KX X I hh (λA' Q' E' t' z=>Cb (s:={s with toks:=t'}) X I hf z) h
def rO{Q:Option Value->Shared->Prop}(KX:jY K C)(X:K.In s.heap)(I:W.InstAt s.heap x ox C od)(h:Q (some (.ref C)) {s with toks:=s.toks+1}):wpAny (model prog w) A (getAttr? (.ref x) "__class__") Q E s:=by
 unfold getAttr? getAttrBy?;refine Kh (P6 (Kh (MG ?_)));exact wQ KX X I rfl (λA' Q' E' t' z=>qU (s:={s with toks:=t'}) KX X I z) (Kt h)
def Ah{vs:Array Value}{v:Value}{cd:ClassData}{Q:Unit->Shared->Prop}(KX:jY K C)(X:K.In s.heap)(hx:s.heap.get? x=some ox)(hcl:ox.cls=.ref C)(hdn:ox.dict=none)(hfd:ox.data=.fields vs)
  (hc:W.clsIn K C=some cd) (hmr:cd.mro=[.ref C,.ref S,.type "ValueError",.type "Exception",.type "BaseException",.type "object"]) (hhd:cd.hasDict=true)
  (hs:W.findIn K (.ref C) "__setattr__"=some (some (.builtin "object.__setattr__"))) (ha:W.findIn K (.ref C) name=some none)
  (h:∀(h':Heap) (tk':Nat),h'.get? x=some {ox with dict:=some s.heap.objs.size}->h'.Ns1 s.heap.objs.size (λy=>if y=name then some v else none)->(∀b o,b≠x->s.heap.get? b=some o->h'.get? b=some o)->Q () {s with heap:=h',toks:=tk'}) :
  wpAny (model prog w) A (setAttr (.ref x) name v) Q E s:=by
 have I:W.InstAt s.heap x ox C none:=⟨hx,hcl,by unfold W.notCls;rw[hfd],by rw[hdn];trivial⟩
 refine W.set_plain X I hs ?_;have SF:=PySem.F.store_ValueError;obtain⟨hp,g,d,t,os⟩:=s;have L0:=I.type (M:=model prog w);have sub:W.Looks (model prog w) hp (isInstance (.ref x) (.type "object")) true:=L0.andThen (W.looks_mroIn (M:=model prog w) X KX.mo);refine Na SF.slot.plain SF.entry (@W.check_slot (model prog w) _ _ ⟨hp,g,d,t+1,os⟩ "object.__setattr__" "object" "__setattr__" (.ref x) [.str name t,v] [] _ SF.kind SF.split sub (SF.args (.ref x) (.str name t) v) ?_);have hm:W.Looks (model prog w) hp (mroOf (.ref C)) cd.mro:=(W.looks_clsIn X hc).andThen .now;have hpass:=SF.passes (.ref x);rw[W.osa_eq,refuse_eq];refine Kh (Kh (L0.at (Kh (hm.at ?_))));rw[hmr,refuseLoop_ref,refuseLoop_ref,hpass];refine Kt (Kh (L0.at (Kh ((NY (M:=model prog w) X ha).at (Kh ((show W.Looks (model prog w) hp (Builtin.ObjectAttr.storeTaker? none) none from .now).at ?_))))));obtain⟨oc,odt,oda,osl⟩:=ox;obtain rfl:oc=.ref C:=hcl;obtain rfl:odt=none:=hdn;obtain rfl:oda=.fields vs:=hfd;have hx':hp.get? x=some ⟨.ref C,none,.fields vs,osl⟩:=hx;have hxs:x≠hp.objs.size:=KH (Kz hx');refine Kh (Kt (Kh (Kh (wpAny_loadPart hx' (Kh (W.Looks.here (s:=⟨hp,g,d,t+1,os⟩) (W.looks_clsIn X hc) ?_))))));rw[hhd];have hx₁:(hp.push {cls:=.type "dict",data:=.dict #[]}).get? x=some ⟨.ref C,none,.fields vs,osl⟩:=Kk _ hx';refine Kh (wpAny_alloc' ?_);refine Kh (wpAny_update' hx₁ ?_);refine Kt ?_;have hgd:((hp.push {cls:=.type "dict",data:=.dict #[]}).update x λo=>{cls:=o.cls,dict:=some hp.objs.size,data:=o.data,slots:=o.slots}).get? hp.objs.size
   = some {cls:=.type "dict",data:=.dict #[]}:=
  (Np _ _ _ _ hxs.symm).trans (Heap.get?_push_at rfl rfl)
 have hnd:((hp.push {cls:=.type "dict",data:=.dict #[]}).update x λo=>{cls:=o.cls,dict:=some hp.objs.size,data:=o.data,slots:=o.slots}).Ns hp.objs.size (λ_=>none):=
  ⟨_,#[],_,hgd,rfl,λe he=>absurd he (by simp),λ_=>rfl⟩
 show wpAny _ _ (Builtin.ObjectAttr.storeInDict hp.objs.size (.str name t) name v) _ _ _;unfold Builtin.ObjectAttr.storeInDict Builtin.ObjectAttr.newKeyGuard;refine Kh (Kt (Kh (wpAny_nsSet1 (Heap.Ns1.of_empty hnd) λh' hn' hs=>?_)));obtain⟨oD,esD,epD,hoD,hdD,hcD⟩:=hn'.count (PySem.Within.cons name v PySem.Within.nil);refine Kh (wpAny_lookBehind hoD (by rw[hdD];exact pastItsLine_dict (Km hcD (by rw[K2,Lo,L7];lia))) ?_)
 refine Kt (h h' _ ?_ hn' λb o hb q=>?_)
 ·exact (hs.2 x hxs).trans (LM _ hx₁ rfl)
 ·exact (hs.2 b (KH (Kz q))).trans ((Np _ _ _ _ hb).trans (Kk _ q))
end
abbrev uC:List Value:=[.type "ValueError",.type "Exception",.type "BaseException",.type "object"]
structure fB (K:W.Frag) (C S f:Addr) (name:Str):Prop where
 lk:∃nm qn N bs sn sub ab col dd k0 k1 k2 k3 k5,K.lookup C=some (excClassObj nm qn C N bs (.ref S::uC) true sn sub ab col dd k0 k1 k2 k3 k5 "ValueError.__new__")
 sb:vq K S
 jz:jY K C
 hi:W.findIn K (.ref C) "__init__"=some (some (.ref f))
 hf:W.typeIn K (.ref f)=some (.type "function")
 hs:W.findIn K (.ref C) "__setattr__"=some (some (.builtin "object.__setattr__"))
 ha:W.findIn K (.ref C) name=some none
 kp:W.keepIn K (.ref C)=true
 si:W.findCls K (.ref S) (.type "type") "__init__"=some (.val (.builtin "ValueError.__init__"))
 sr:W.readsIn K S (.type "type")=true
 sg:W.specialIn K (.ref S) "__getattribute__"=some (some (.builtin "type.__getattribute__"))
section
variable {prog:Program} {w:World} {A:Around} {E:Value->Shared->Prop} {s:Shared} {K:W.Frag} {C S f:Addr} {name:Str}
def fB.tail(x:fB K C S f name)(X:K.In h):OwnTail h uC (.ref S::uC):=by
 obtain⟨bm,N,nm,qn,bs,hd,sn,sub,ab,col,dd,k0,k1,k2,k3,k5,lk,tl,_,hns⟩:=x.sb.obj;obtain⟨mN,hN,hni⟩:=hns h X;exact .own (X _ _ lk) hN hni .base
def vO{vs:Array Value}{rest:List Value}(x:fB K C S f name)(X:K.In s.heap)(he:s.heap.get? e=some oe)(hcls:oe.cls=.ref C)(hfd:oe.data=.fields vs){a0:Addr}(h0:vs[0]?=some (.ref a0))(hrest:rest.length<=sizeLine)
  (hq:∀(h':Heap) (a1:Addr),h'.get? e=some {oe with data:=.fields (vs.setIfInBounds 0 (.ref a1))}->(∀b o,b≠e->s.heap.get? b=some o->h'.get? b=some o)->Q .none {s with heap:=h'}) :
  wpAny (model prog w) A (call (.builtin "ValueError.__init__") (.ref e::rest)) Q E s:=by
 obtain⟨nm,qn,N,bs,sn,sub,ab,col,dd,k0,k1,k2,k3,k5,lk⟩:=x.lk;have F:=PySem.F.excBase_ValueError;have T:=x.tail X;have hC:=X _ _ lk;obtain⟨hp,g,d,t,os⟩:=s;refine MZ (Na F.init.plain F.initEntry (wpAny_check_init_subU F T hC he hcls ?_));obtain⟨oc,odt,oda,osl⟩:=oe;obtain rfl:oda=.fields vs:=hfd
 wp_walk
 rw[h0]
 wp_walk
 have hsz:=(KC.mp h0).1;have he1:(hp.push {cls:=.type "tuple",data:=.seq rest.toArray}).get? e=some ⟨oc,odt,.fields vs,osl⟩:=Kk _ he;rw[Ku hsz];refine wpAny_update' he1 ?_
 wp_walk
 refine hq _ hp.objs.size ?_ λb o hb q=>?_
 ·exact LM _ he1 rfl
 ·exact (Np _ _ _ _ hb).trans (Kk _ q)
def kY{rest:List Value}{Q:Fin->Shared->Prop}(x:fB K C S f name)(X:K.In s.heap)(hrest:rest.length<=sizeLine)
  (hq:∀h' e,Heap.MadeExcOf s.heap h' e (.ref C) rest->wpAny (model prog w) A (call (.ref f) (.ref e::rest)) (λr s'=>r=.none/\Q (.done (.ret (.ref e))) s') E {s with heap:=h'}) :
  wpAny (model prog w) A (Builtin.«type.__call__» ⟨.ref C::rest,[]⟩) Q E s:=by
 obtain⟨nm,qn,N,bs,sn,sub,ab,col,dd,k0,k1,k2,k3,k5,lk⟩:=x.lk;have F:=PySem.F.excBase_ValueError;have T:=x.tail X;have hC:=X _ _ lk;obtain⟨h,g,d,t,os⟩:=s
 repeat (first|with_reducible refine Mh hC ?_|with_reducible refine wpAny_madeBy_exc hC ?_|wp_step)
 refine codeAny_call_builtin_code (Oc _ F.quiet) (wpAny_check_new_subU F F.hasB T hC ?_);refine codeAny_exc_new_subU F F.hasB F T hC ?_ hrest;show wpAny _ _ _ _ _ _;have kp:∀b o,h.get? b=some o->((h.push {cls:=.type "tuple",data:=.seq rest.toArray}).push {cls:=.ref C,data:=.fields #[.ref h.objs.size,.none,.none,.none,.bool false,.none]}).get? b=some o:=λb o e=>Kk _ (Kk _ e);have X₁:=W.Frag.In.keeps X kp;have hC₁:=X₁ _ _ lk;have hget:((h.push {cls:=.type "tuple",data:=.seq rest.toArray}).push
   {cls:=.ref C,data:=.fields #[.ref h.objs.size,.none,.none,.none,.bool false,.none]}).get? (h.objs.size+1)=some
   {cls:=.ref C,data:=.fields #[.ref h.objs.size,.none,.none,.none,.bool false,.none]}:=by heap_get
 have hcC:(Value.ref C::.ref S::uC).contains (.ref C)=true:=by simp
 unfold isInstance
 repeat (first|with_reducible refine Mh hget ?_ | (with_reducible refine Nq hC₁ ?_;rw[hcC])|wp_step)
 show wpAny _ _ (typeLookup (.ref C) _) _ _ _;refine (NY (M:=model prog w) X₁ x.hi).at ?_;refine Lu (Kh ((W.bind_fn (M:=model prog w) X₁ (.ref (h.objs.size+1)) x.hf).at ?_));refine Kh (Lh (hq _ (h.objs.size+1) ⟨kp,MX (LY _),h.objs.size,hget,MX (Kp _),?_⟩) (λr s' hr=>?_) λ_ _ x=>x)
 ·exact Kk _ (Heap.get?_push_at rfl rfl)
 ·obtain⟨rfl,hQ⟩:=hr
  wp_walk
  exact hQ
def vD{rest:List Value}(x:fB K C S f name)(X:K.In s.heap)(hrest:rest.length<=sizeLine)
  (hq:∀h' e,Heap.MadeExcOf s.heap h' e (.ref C) rest->wpAny (model prog w) (A.under (.builtin "type.__call__" ⟨.ref C::rest,[]⟩)) (call (.ref f) (.ref e::rest)) (λr s'=>r=.none/\Q (.ref e) s') E {s with heap:=h'}) :
  wpAny (model prog w) A (call (.ref C) rest) Q E s:=by
 obtain⟨nm,qn,N,bs,sn,sub,ab,col,dd,k0,k1,k2,k3,k5,lk⟩:=x.lk;have hC:=X _ _ lk;obtain⟨h,g,d,t,os⟩:=s;have f1:=tc_lookup;have f2:=tc_bind (.ref C);have hT:(⟨h,g,d,t,os⟩:Shared).TypeIs (.ref C) "type":=⟨_,hC,rfl⟩;refine MZ (codeAny_of_tree ?_);show wpAny _ _ (callAny (.ref C) _) _ _ _
 repeat (any_goals (first|assumption|with_reducible refine Mh hC ?_|wp_step))
 refine⟨rfl,?_⟩;refine codeAny_call_builtin_at (Oc _ (by decide +kernel)) entry_typeCall (wpAny_check_type_call_sub hC (kY x X hrest λh' e hm=>?_))
 exact hq h' e hm
end
def lg(e:Addr)(cls:Value)(d:Option Addr)(h:Heap):Prop:=∃(oe:Obj) (vs:Array Value) (a0:Addr),h.get? e=some oe/\oe.cls=cls/\oe.dict=d/\oe.data=.fields vs/\vs[0]?=some (.ref a0)/\vs[1]?=some Value.none
def lg.ok(x:lg e cls d h):aN P w H h e (.ext (lg e cls d)):=
 ⟨x,let ⟨o,_,_,h1,_⟩:=x;⟨o,h1⟩,λh1 h2 ⟨o,vs,a0,a,r⟩ k=>⟨o,vs,a0,k o a,r⟩⟩
def lg.fl(x:lg e cls d h):Fl h e cls d none:=by
 obtain⟨oe,vs,a0,h1,h2,h3,h4,_,h5⟩:=x;exact⟨oe,vs,h1,h2,h3,h4,h5⟩
section
variable {fs ex:List Addr} {H:Hp} {h h':Heap} {e d:Addr} {φ ψ:Heap->Prop}
def Un.zk(he:H e=some (.ext φ))(k:∀b u,b≠e->h.get? b=some u->h'.get? b=some u)(te:∃o,h'.get? e=some o):Un fs ex H (upd H e (.ext ψ)) h h' where
 keep:=λb u q n _ _=>k b u (λz=>by rw[z,he] at n;cases n) q
 slot:=λb u q n _ _=>⟨u.slots,k b u (λz=>by rw[z,he] at n;cases n) q⟩
 free:=λb u q n _=>by rw[ae (λz=>by rw[z,he] at n;cases n)];exact n
 there:=λb u q _=>by
  by_cases z:b=e
  ·subst z;exact te
  ·exact⟨u,k b u z q⟩
 jc:=λb xs q=>by rw[ae (λz=>by rw[z,he] at q;cases q)];exact q
 i4:=λb u xs q=>by rw[ae (λz=>by rw[z,he] at q;cases q)];exact q
 gZ:=λb ps q=>⟨#[],by rw[ae (λz=>by rw[z,he] at q;cases q),q];simp⟩
def Un.Fc(he:H e=some (.ext φ))(k:∀b u,b≠e->h.get? b=some u->h'.get? b=some u)(te:∃o,h'.get? e=some o)(hd:h.get? d=none)(hn:H d=none):Un fs ex H (upd (upd H e (.ext ψ)) d o) h h' where
 keep:=λb u q n _ _=>k b u (λz=>by rw[z,he] at n;cases n) q
 slot:=λb u q n _ _=>⟨u.slots,k b u (λz=>by rw[z,he] at n;cases n) q⟩
 free:=λb u q n _=>by rw[ae (λz=>by rw[z,hd] at q;cases q),ae (λz=>by rw[z,he] at n;cases n)];exact n
 there:=λb u q _=>by
  by_cases z:b=e
  ·subst z;exact te
  ·exact⟨u,k b u z q⟩
 jc:=λb xs q=>by rw[ae (λz=>by rw[z,hn] at q;cases q),ae (λz=>by rw[z,he] at q;cases q)];exact q
 i4:=λb u xs q=>by rw[ae (λz=>by rw[z,hn] at q;cases q),ae (λz=>by rw[z,he] at q;cases q)];exact q
 gZ:=λb ps q=>⟨#[],by rw[ae (λz=>by rw[z,hn] at q;cases q),ae (λz=>by rw[z,he] at q;cases q),q];simp⟩
def dB.zk(x:dB P w H h)(he:H e=some (.ext φ))(k:∀b u,b≠e->h.get? b=some u->h'.get? b=some u)(new:aN P w (upd H e (.ext ψ)) h' e (.ext ψ)):dB P w (upd H e (.ext ψ)) h':=λb u q=>by
 by_cases z:b=e
 ·subst z;rw[aa] at q;cases q;exact new
 ·rw[ae z] at q;refine (x b u q).iC (λc v hc r=>k c v (λz2=>?_) r) (λc q2=>by rw[ae (λz2=>by rw[z2,he] at q2;cases q2)];exact q2) (λc xs q2=>by rw[ae (λz2=>by rw[z2,he] at q2;cases q2)];exact q2) λc _ _ q2=>by rw[ae (λz2=>by rw[z2,he] at q2;cases q2)];exact q2
  rcases hc with rfl|hc
  ·exact z z2
  ·rw[z2,he] at hc;cases hc
def dB.Fc(x:dB P w H h)(he:H e=some (.ext φ))(k:∀b u,b≠e->h.get? b=some u->h'.get? b=some u)(hn:H d=none)(new:aN P w (upd (upd H e (.ext ψ)) d o) h' e (.ext ψ))(newD:aN P w (upd (upd H e (.ext ψ)) d o) h' d o):dB P w (upd (upd H e (.ext ψ)) d o) h':=λb u q=>by
 by_cases z0:b=d
 ·subst z0;rw[aa] at q;cases q;exact newD
 ·rw[ae z0] at q;by_cases z:b=e
  ·subst z;rw[aa] at q;cases q;exact new
  ·rw[ae z] at q;refine (x b u q).iC (λc v hc r=>k c v (λz2=>?_) r) (λc q2=>by rw[ae (λz2=>by rw[z2,hn] at q2;cases q2),ae (λz2=>by rw[z2,he] at q2;cases q2)];exact q2) (λc xs q2=>by rw[ae (λz2=>by rw[z2,hn] at q2;cases q2),ae (λz2=>by rw[z2,he] at q2;cases q2)];exact q2) λc _ _ q2=>by rw[ae (λz2=>by rw[z2,hn] at q2;cases q2),ae (λz2=>by rw[z2,he] at q2;cases q2)];exact q2
   rcases hc with rfl|hc
   ·exact z z2
   ·rw[z2,he] at hc;cases hc
def xi(he:H e=some o):upd H e o=H:=by
 funext b
 by_cases z:b=e
 ·subst z;rw[aa,he]
 ·rw[ae z]
end
def Gb(C:Addr)(name:Str):Sp:=λvs H Q _=>∃(e:Addr) (i:Int),vs=[.ref e,.int i]/\i.natAbs<2^1900/\H e=some (.ext (lg e (.ref C) none))/\∀(H':Hp) (d:Addr),(∀b o,H b=some o->b≠e->H' b=some o)->H' e=some (.ext (lg e (.ref C) (some d)))->H' d=some (.xd [(name,.int i)])->H d=none->Q .aI H'
def J5(C:Addr):TE:=λσ H Q=>∃(e:Addr) (i:Int),σ=[some (.ref e),some (.int i)]/\i.natAbs<2^1900/\H e=some (.ext (lg e (.ref C) none))/\∀H':Hp,kM H H'->Q .aI H'
section
variable {X:Cx} {C S f:Addr} {name:Str}
def IU(C:Addr)(name:Str):TS:=λD σ H=>∃(e:Addr) (i:Int),σ=[some (.ref e),some (.int i)]/\H e=some (.ext (lg e (.ref C) none))/\∀(H':Hp) (d:Addr),(∀b o,H b=some o->b≠e->H' b=some o)->H' e=some (.ext (lg e (.ref C) (some d)))->H' d=some (.xd [(name,.int i)])->H d=none->D.nx σ H'
def EW{o value:Expr}{pos pos':Pos}(x:fB X.K C S f name)(ho:QE X o (jQ 0))(hv:QE X value (jQ 1))(hs:autoParam (swapsWith value (some (.Attribute o name pos')) pos.line X.env=pure false) ℜ0):PS X (.Assign [.Attribute o name pos'] value pos) (IU C name):=by
 intro pins s σ H D I h;obtain⟨e,i,rfl,he,q⟩:=h;refine plainObj_wpAny_Assign_Attribute (bH (hv.h pins s _ H (λy H1=>y=.int i/\H1=H) I ⟨.int i,rfl,rfl,rfl⟩) λu s1 ⟨y,H1,I1,ry,ey,eH⟩=>bH (ho.h pins s1 _ H1 (λy H2=>y=.ref e/\H2=H1) I1 ⟨.ref e,rfl,rfl,rfl⟩) λov s2 hq3=>?_) hs;obtain⟨z,H2,I2,rz,ez,eH2⟩:=hq3;subst ey eH ez eH2;obtain rfl:ov=Value.ref e:=rz;obtain⟨oe,ws,a0,g1,g2,g3,g4,g5,g6⟩:=(show lg e (.ref C) none s2.heap from (I2.aL _ _ he).1);obtain⟨nm,qn,N,bs,sn,sub,ab,col,dd,k0,k1,k2,k3,k5,lk⟩:=x.lk;obtain⟨cd,hc,hmr,hhd⟩:∃cd,W.clsIn X.K C=some cd/\cd.mro=[.ref C,.ref S,.type "ValueError",.type "Exception",.type "BaseException",.type "object"]/\cd.hasDict=true:=by
  unfold W.clsIn;rw[lk];exact⟨_,rfl,rfl,rfl⟩
 refine Ah (S:=S) x.jz I2.fi g1 g2 g3 g4 hc hmr hhd x.hs x.ha λh' tk' j1 j2 j3=>?_;have hd:s2.heap.get? s2.heap.objs.size=none:=MX (Kp _);have hn:=I2.aL.none_of hd;have ne:e≠s2.heap.objs.size:=KH (Kz g1);have hN':lg e (.ref C) (some s2.heap.objs.size) h':=⟨_,_,a0,j1,g2,rfl,g4,g5,g6⟩;have I3:Inv X pins _ (upd (upd H2 e (.ext (lg e (.ref C) (some s2.heap.objs.size)))) s2.heap.objs.size (.xd [(name,.int i)])) {s2 with heap:=h',toks:=tk'}:=
  I2.un (t':=tk') (Un.Fc he j3 ⟨_,j1⟩ hd hn) (I2.aL.Fc he j3 hn hN'.ok ⟨_,j2,λy=>?_⟩)
 ·refine⟨_,_,I3,q _ s2.heap.objs.size (λb o z n=>?_) ?_ aa hn⟩
  ·rw[ae (λz2=>by rw[z2,hn] at z;cases z),ae n];exact z
  ·rw[ae ne,aa]
 ·show jo (match y == name with|true=>some (V.int i)|false=>List.lookup y []) (if y=name then some u else none)
  by_cases z:y=name
  ·subst z;rw[L3,Ku rfl];exact ry
  ·rw[Lb.mpr z,Ko z];exact True.intro
end
section
variable {X:Cx} {pins:List (Addr×Obj)} {σ:St} {H:Hp} {s:Shared} {C S f:Addr} {name:Str}
def B8{k:Nat}{ps:List Str}{i:Int}{u:Value}(x:fB X.K C S f name)(F:dP X.prog X.w X.K X.mg X.base (oB X.prog X.w) k f fd ps (Gb C name))(hb:Binds X.K fd ps [])(hr:bt (k+1) X.A)(hex:X.ex=[])(I:Inv X pins σ H s)(ru:RelV (.int i) u)(hi:i.natAbs<2^1900)
  (h:∀(e d:Addr) (H':Hp) (s':Shared),H e=none->H d=none->kM H H'->H' e=some (.ext (gy e (.ref C) (some d)))->H' d=some (.xd [(name,.int i)])->Inv X pins σ H' s'->Fl s'.heap e (.ref C) (some d) none->Nw X pins H' e (.ref C) (some d) none->Q (.ref e) s') :
  wpAny (model X.prog X.w) X.A (call (.ref C) [u]) Q X.xe s:=by
 refine vD x I.fi (by simp[L7]) λh' e hm=>?_
 have hne:=I.aL.none_of hm.new;obtain⟨tt,g1,g2,g3⟩:=hm.there;have nN:lg e (.ref C) none h':=⟨_,_,tt,g1,rfl,rfl,rfl,rfl,rfl⟩;have I2:Inv X pins σ (upd H e (.ext (lg e (.ref C) none))) {s with heap:=h'}:=I.un (t':=s.toks) (Un.zU hm.keeps hm.new hne) (I.aL.zU hm.keeps hne nN.ok)
 have r2:Vals [V.ref e,.int i] [Value.ref e,u]:=.cons rfl (.cons ru .nil);have jr:Gb C name [V.ref e,.int i] (upd H e (.ext (lg e (.ref C) none))) (λv H'=>v=.aI/\∃d,(∀b o,H b=some o->b≠e->H' b=some o)/\H' e=some (.ext (lg e (.ref C) (some d)))/\H' d=some (.xd [(name,.int i)])/\(upd H e (.ext (lg e (.ref C) none))) d=none) (λ_ _ _=>False):=
  ⟨e,i,rfl,hi,aa,λH' d a b c dd=>⟨rfl,d,λb' o q n=>a b' o (by rw[ae n];exact q) n,b,c,dd⟩⟩
 have hl:([Value.ref e,u]++[]).length=ps.length:=by rw[Le,<- r2.length];exact F.len _ _ _ _ jr
 have hb2:=hb {s with heap:=h'} [Value.ref e,u] I2.fi hl
 rw[Le] at hb2;refine MZ (NL (F.run _ X.stack _ _ ⟨[Value.ref e,u],[]⟩ [Value.ref e,u] [V.ref e,.int i] _ _ (hr.make C [u] []) (I2.Bm.make C [u] []) hb2 r2 jr) λr s' hq'=>?_)
 cases r with
 |error y =>
  obtain⟨_,_,_,_,_,_,_,_,_,_,_,_,_,_,_,_,z⟩:=hq';exact z.elim
 |ok fl =>
  cases fl with
  |ret u' =>
   obtain⟨v,H',os,bare,un,aL,rv,ev,d,a1,a2,a3,a4⟩:=hq';subst ev;obtain rfl:u'=Value.none:=rv;obtain⟨hh,g',d',t',os'⟩:=s';obtain rfl:os'=s.os:=os;have I3:Inv X pins σ H' ⟨hh,g',d',t',s.os⟩:=Inv.call (s:={s with heap:=h'}) (h':=hh) (g':=g') (d':=d') (t':=t') (ch:=[]) I2 un aL bare (λb z=>absurd z (by simp))
   have hde:d≠e:=λz=>by rw[z,aa] at a4;cases a4
   have hHd:H d=none:=by rw[ae hde] at a4;exact a4
   have hd0:h'.get? d=none:=by
    cases q:h'.get? d with
    |none=>rfl
    |some o =>
     have:=un.free d o q a4 (by simp)
     rw[a3] at this;cases this
   have hN':lg e (.ref C) (some d) hh:=(aL _ _ a2).1;have I4:Inv X pins σ (upd H' e (.ext (gy e (.ref C) (some d)))) ⟨hh,g',d',t',s.os⟩:=I3.un (s:=⟨hh,g',d',t',s.os⟩) (t':=t') (Un.zk a2 (λb u _ q=>q) (let ⟨o,_,_,q,_⟩:=hN';⟨o,q⟩)) (aL.zk a2 (λb u _ q=>q) hN'.fl.is.ok)
   have n0:∀b,h'.get? b=none->X.s₀.heap.get? b=none:=λb z=>by
    cases q2:X.s₀.heap.get? b with
    |none=>rfl
    |some o =>
     obtain⟨o',q3⟩:=I2.base.there b o q2 (by rw[hex];simp)
     have q3':h'.get? b=some o':=q3;rw[z] at q3';cases q3'
   have e0:X.s₀.heap.get? e=none:=by
    cases q2:X.s₀.heap.get? e with
    |none=>rfl
    |some o =>
     obtain⟨o',q3⟩:=I.base.there e o q2 (by rw[hex];simp)
     rw[hm.new] at q3;cases q3
   refine⟨rfl,h e d _ _ hne hHd (λb o q=>?_) aa (by rw[ae hde];exact a3) I4 hN'.fl ⟨aa,e0,λa z=>by cases z;exact n0 d hd0,λT z=>by cases z⟩⟩
   have nbe:b≠e:=λz=>by rw[z,hne] at q;cases q
   rw[ae nbe];exact a1 b o q nbe
  |next=>exact False.elim hq'
  |brk=>exact False.elim hq'
  |cont=>exact False.elim hq'
end
section
variable {X:Cx} {C S f:Addr} {name:Str}
def uE{s:Shared}{e:Expr}{pos:Pos}(hc:X.calm=true)(I:Inv X pins σ H s)(x:fB X.K C S f name)
  (h:wpAny (model X.prog X.w) X.A (eval e X.env) (λv s₁=>∃(ea:Addr) (oe:Obj),v=.ref ea/\X.K.In s₁.heap/\s₁.heap.get? ea=some oe/\oe.cls=.ref C/\(∃vs,oe.data=.fields vs/\vs[1]?=some Value.none)/\X.xe (.ref ea) s₁) X.xe s) :
  wpAny (model X.prog X.w) X.A (exec (.Raise (some e) none pos) X.env) (SP X pins D) X.xe s:=by
 have hh:=I.ok.hd hc;obtain⟨nm,qn,N,bs,sn,sub,ab,col,dd,k0,k1,k2,k3,k5,lk⟩:=x.lk;rw[arm_exec_Raise];refine Kh (Nk ?_);unfold raiseStmt;refine Kh (Kh (Lh h (λv s₃ h₃=>Kh (Nk (Kt ?_))) λ_ _ x=>x));obtain⟨ea,⟨oc,od,oda,osl⟩,rfl,jz,he,hcl,⟨vs,hdt,hv1⟩,hE⟩:=h₃;obtain rfl:oc=.ref C:=hcl;obtain rfl:oda=.fields vs:=hdt;have hC:=jz _ _ lk;have hcB:(Value.ref C::.ref S::uC).contains (.type "BaseException")=true:=by rw[List.contains_cons,(x.tail jz).hasType PySem.F.excBase_ValueError.hasBase,Bool.or_true]
 obtain⟨hp,g,d,tk,os⟩:=s₃
 repeat (first|with_reducible refine Mh he ?_|with_reducible refine Mh hC ?_ | (with_reducible refine Nq hC ?_;rw[hcB])|wp_step)
 rw[hv1]
 repeat wp_step
 exact wpAny_raiseNew_none hh hE
end
structure Fv (K:W.Frag) (C:Addr):Prop where
 lk:∃nm qn N bs bm hd sn sub ab col dd k0 k1 k2 k3 k5 nw,K.lookup C=some (excClassObj nm qn C N bs bm hd sn sub ab col dd k0 k1 k2 k3 k5 nw)
def fB.toAny(x:fB K C S f name):Fv K C:=by
 obtain⟨nm,qn,N,bs,sn,sub,ab,col,dd,k0,k1,k2,k3,k5,lk⟩:=x.lk;exact⟨nm,qn,N,bs,_,true,sn,sub,ab,col,dd,k0,k1,k2,k3,k5,_,lk⟩
structure Ii (K:W.Frag) (C:Addr):Prop where
 lk:∃nm qn N bs bm hd sn sub ab col dd k0 k1 k2 k3 k5 nw,K.lookup C=some (excClassObj nm qn C N bs bm hd sn sub ab col dd k0 k1 k2 k3 k5 nw)/\∀h:Heap,K.In h->bm.contains (.type "BaseException")=true
def vq.wc(x:vq K C):Ii K C:=by
 obtain⟨bm,N,nm,qn,bs,hd,sn,sub,ab,col,dd,k0,k1,k2,k3,k5,lk,tl,_⟩:=x.obj;exact⟨nm,qn,N,bs,bm,hd,sn,sub,ab,col,dd,k0,k1,k2,k3,k5,_,lk,λh jz=>(tl _ jz).hasType PySem.F.excBase_ValueError.hasBase⟩
def fB.wc(x:fB K C S f name):Ii K C:=by
 obtain⟨nm,qn,N,bs,sn,sub,ab,col,dd,k0,k1,k2,k3,k5,lk⟩:=x.lk;exact⟨nm,qn,N,bs,_,true,sn,sub,ab,col,dd,k0,k1,k2,k3,k5,_,lk,λh jz=>(x.tail jz).hasType PySem.F.excBase_ValueError.hasBase⟩
def sP{A:Around}{g:Array GenState}{d:Drawn}{t:Nat}{os:OsState}{D:Addr}{d0:Option Addr}{Q:Bool->Shared->Prop}(jz:K.In h)(hC:Fv K C)(hD:Ii K D)(he:gy e (.ref C) d0 h)(hs:W.mroIn K C (.ref D)=some true)
  (hq:Q true ⟨h,g,d,t,os⟩):wpAny M A (excMatches (.ref e) (.ref D)) Q E ⟨h,g,d,t,os⟩:=by
 obtain⟨nm,qn,N,bs,bm,hd,sn,sub,ab,col,dd,k0,k1,k2,k3,k5,nw,lk⟩:=hC.lk;obtain⟨nm',qn',N',bs',bm',hd',sn',sub',ab',col',dd',k0',k1',k2',k3',k5',nw',lk',tl'⟩:=hD.lk;have gC:=jz _ _ lk;have gD:=jz _ _ lk';obtain⟨oe,vs,h1,h2,_,_⟩:=he;have c1:(Value.ref D::bm').contains (.type "BaseException")=true:=by rw[List.contains_cons,tl' _ jz,Bool.or_true]
 have c2:(Value.ref C::bm).contains (.ref D)=true:=by
  unfold W.mroIn W.clsIn at hs;rw[lk] at hs;simp only[excClassObj,M_] at hs
  split at hs
  ·cases hs
  ·exact Option.some.inj hs
 have f:=tc_notTuple;unfold excMatches
 repeat (first | (with_reducible refine Mh h1 ?_;rw[h2])|with_reducible refine Mh gD ?_ | (with_reducible refine Nq gD ?_;rw[c1]) | (with_reducible refine Nq gC ?_;rw[c2])|wp_step)
 exact hq
def BA(a:Addr)(c:Value)(od:Option Addr)(h:Heap):Prop:=gy a c od h/\∀d,od=some d->∃o,h.get? d=some o
def BA.inst{x:Addr}(p:BA x (.ref C) d h):∃ox od,W.InstAt h x ox C od:=by
 obtain⟨⟨o,vs,h1,h2,h3,h4⟩,hd⟩:=p
 cases d with
 |none=>exact⟨o,none,h1,h2,by unfold W.notCls;rw[h4],by rw[h3];trivial⟩
 |some d =>
  obtain⟨od,q⟩:=hd d rfl;exact⟨o,some od,h1,h2,by unfold W.notCls;rw[h4],by rw[h3];exact q⟩
def m7{x:Addr}(KX:jY K C):W.KitX K (.ref x) (.ref C) (BA x (.ref C) d) where
 ty:=λM h _ p=>by
  obtain⟨o,od,I⟩:=p.inst;exact I.type
 it:=λM h X _=>by
  obtain⟨c,d,cd,sl,q⟩:=kR KX.mo;intro A' Q' E' s' k z;unfold isType loadHead;exact Kh (wpAny_loadPart (k _ _ (X _ _ q)) (Kt z))
 ne:=λh tp dd its n sl X htp=>by
  obtain⟨c,d,cd,sl',q⟩:=kR KX.mo;refine Bool.eq_false_iff.mpr λz=>?_;have e:C=tp:=Value.ref.inj (Pq.mp z);subst e;have:=(X _ _ q).symm.trans htp;cases this
 ca:=λX p k=>by
  obtain⟨o,od,I⟩:=p.inst;exact rO KX X I k
def Jb(K:W.Frag)(H:Hp)(x:V)(t:Value):Prop:=(x=.aI/\t=.type "NoneType")\/∃(a C:Addr) (od:Option Addr),x=.ref a/\t=.ref C/\H a=some (.ext (gy a (.ref C) od))/\(∀d,od=some d->∃fs,H d=some (.xd fs))/\jY K C
def xF(K:W.Frag)(y:V)(c:Value):List V->Hp->VK->Prop:=λxs H Q=>∃x t b,xs=[x,y]/\Jb K H x t/\W.kitOne K t c=some b/\Q (.bl b) H
def xx(K:W.Frag)(ds:List Addr):List V->Hp->VK->Prop:=λxs H Q=>∃x t b p,xs=[x,.ref p]/\H p=some (.tup (ds.map V.ref))/\Jb K H x t/\W.kitAny K t (ds.map Value.ref)=some b/\Q (.bl b) H
section
variable {X:Cx}
def s_{c:Value}(k:dB P w H h)(ha:H a=some (.ext (gy a c od)))(hd:∀d,od=some d->∃fs,H d=some (.xd fs)):BA a c od h:=by
 refine⟨(k _ _ ha).1,λd z=>?_⟩;obtain⟨fs,q⟩:=hd d z;obtain⟨mA,⟨o,es,ep,z2,_⟩,_⟩:=(show aN P w H h d (.xd fs) from k _ _ q);exact⟨o,z2⟩
def rH{y:V}{c:Value}(hy:∀u,RelV y u->u=c):aX X (.builtin "isinstance") (xF X.K y c):=by
 rintro pins s σ H xs us Q I r ⟨x,t,b,rfl,ty,e,q⟩;obtain⟨u,w',rfl,r1,r2⟩:=vals2 r
 cases hy _ r2
 rcases ty with ⟨rfl,rfl⟩|⟨a,C,od,rfl,rfl,ha,hd,KX⟩
 ·cases (show u=Value.none from r1)
  exact Mk W.kitx_none I.fi True.intro e (λz=>nomatch z) λtk=>⟨.bl b,H,I.tok _,rfl,q⟩
 ·cases (show u=Value.ref a from r1)
  exact Mk (m7 KX) I.fi (s_ I.aL ha hd) e (λz=>nomatch z) λtk=>⟨.bl b,H,I.tok _,rfl,q⟩
def rb{ds:List Addr}:aX X (.builtin "isinstance") (xx X.K ds):=by
 rintro pins s σ H xs us Q I r ⟨x,t,b,p,rfl,hp,ty,e,q⟩;obtain⟨u,w',rfl,r1,r2⟩:=vals2 r
 cases (show w'=Value.ref p from r2)
 obtain⟨_,its,hv,⟨⟨oc,od,oda,osl⟩,h1,h2,n,h3,_⟩⟩:=(show aN X.prog X.w H s.heap p (.tup (ds.map V.ref)) from I.aL _ _ hp);cases h2;cases h3
 cases mK hv
 rcases ty with ⟨rfl,rfl⟩|⟨a,C,od,rfl,rfl,ha,hd,KX⟩
 ·cases (show u=Value.none from r1)
  exact W.kia_tup W.kitx_none I.fi True.intro h1 e (λz=>nomatch z) λtk=>⟨.bl b,H,I.tok _,rfl,q⟩
 ·cases (show u=Value.ref a from r1)
  exact W.kia_tup (m7 KX) I.fi (s_ I.aL ha hd) h1 e (λz=>nomatch z) λtk=>⟨.bl b,H,I.tok _,rfl,q⟩
end
def p_:∀{ws:List Str} {its:List Value},Vals (ws.map V.str) its->∀(m:Nat) (y:Str),ws[m]?=some y->∃t,its[m]?=some (.str y t):=λr m y e=>by
 obtain⟨u,h1,h2⟩:=r.get (i:=m) (x:=V.str y) (by rw[Kn,e];rfl)
 obtain⟨t,rfl⟩:=(show RelV (.str y) u from h2);exact⟨t,h1⟩
open Builtin Builtin.Str
def Gd(z:Str):It:=⟨λi _=>i<z.cps.size,λi H x H'=>H'=H/\∃c,z.cps[i]?=some c/\x=.str ⟨#[c]⟩,λi _=>z.cps.size<=i⟩
def uY(z:Str)(t:Tok)(it:Addr):Turn P w K tg (Gd z) [it] it (λi h=>h.IsStrIter it "str_ascii_iterator" z t i) where
 mem:=by simp
 obj:=λi h st b hb=>by
  have e:b=it:=by simpa using hb
  subst e;obtain⟨o,e,c,d⟩:=st;exact⟨o,e,λv z=>by rw[d] at z;cases z⟩
 keep:=λi h h' st k=>let ⟨o,e,r⟩:=st;⟨o,k it (by simp) o e,r⟩
 item:=by
  intro X hP hw hK hc i pins s σ H E I hf st hg;subst hP hw hK;obtain⟨f0,f1,f2,f3,f4,f5⟩:=hf it (by simp)
  have hi:i<z.cps.size:=hg;refine wpAny_pyNext_ascii_item st (c:=z.cps[i]) (by simp[hi]) λh' st' sb=>?_
  have I1:Inv X pins σ H {s with heap:=h',toks:=s.toks+1}:=I.turned (t':=s.toks+1) (λb o hb e=>(sb.2 b hb).trans e) f0 f1 f3 f4 f5
  obtain⟨o,e,c,d⟩:=id st';exact⟨_,rfl,qG (s:={s with heap:=h',toks:=s.toks+1}) e c d (by decide) ⟨.str ⟨#[z.cps[i]]⟩,H,I1,⟨_,rfl⟩,⟨rfl,_,by simp[hi],rfl⟩,st',λb hb=>(hf b hb).1⟩⟩
 done:=by
  intro X hP hw hK hc i pins s σ H E I hf st hg;subst hP hw hK;obtain⟨f0,f1,f2,f3,f4,f5⟩:=hf it (by simp)
  have hi:z.cps.size<=i:=hg;exact wpAny_pyNext_ascii_end (I.ok.hd hc) st (by simpa using hi) λh' eb=>⟨rfl,I.turned (t':=s.toks) (λb o hb e=>eb b o hb e) f0 f1 f3 f4 f5⟩
 self:=λ_ _ _ _ _ st h=>wpAny_pyIter_striter_ascii st h
def ve(z:Str)(t:Tok)(it:Addr):Turn P w K tg (Gd z) [it] it (λi h=>h.IsStrIter it "str_iterator" z t i) where
 mem:=by simp
 obj:=λi h st b hb=>by
  have e:b=it:=by simpa using hb
  subst e;obtain⟨o,e,c,d⟩:=st;exact⟨o,e,λv z=>by rw[d] at z;cases z⟩
 keep:=λi h h' st k=>let ⟨o,e,r⟩:=st;⟨o,k it (by simp) o e,r⟩
 item:=by
  intro X hP hw hK hc i pins s σ H E I hf st hg;subst hP hw hK;obtain⟨f0,f1,f2,f3,f4,f5⟩:=hf it (by simp)
  have hi:i<z.cps.size:=hg;refine wpAny_pyNext_wide_item st (c:=z.cps[i]) (by simp[hi]) λh' st' sb=>?_
  have I1:Inv X pins σ H {s with heap:=h',toks:=s.toks+1}:=I.turned (t':=s.toks+1) (λb o hb e=>(sb.2 b hb).trans e) f0 f1 f3 f4 f5
  obtain⟨o,e,c,d⟩:=id st';exact⟨_,rfl,qG (s:={s with heap:=h',toks:=s.toks+1}) e c d (by decide) ⟨.str ⟨#[z.cps[i]]⟩,H,I1,⟨_,rfl⟩,⟨rfl,_,by simp[hi],rfl⟩,st',λb hb=>(hf b hb).1⟩⟩
 done:=by
  intro X hP hw hK hc i pins s σ H E I hf st hg;subst hP hw hK;obtain⟨f0,f1,f2,f3,f4,f5⟩:=hf it (by simp)
  have hi:z.cps.size<=i:=hg;exact wpAny_pyNext_wide_end (I.ok.hd hc) st (by simpa using hi) λh' eb=>⟨rfl,I.turned (t':=s.toks) (λb o hb e=>eb b o hb e) f0 f1 f3 f4 f5⟩
 self:=λ_ _ _ _ _ st h=>wpAny_pyIter_striter_wide st h
def yS(tl:TE):TI:=λσ H R=>tl σ H λx H1=>∃z,x=V.str z/\R (Gd z) H1
def D_{l:Expr}(hl:PE X l tl):PI X tg l (yS tl):=by
 intro pins s σ H R I h;refine bH (hl pins s σ H _ I h) λv s1 hq1=>?_;obtain⟨x,H1,I1,r1,q1⟩:=hq1;obtain⟨z,rfl,q⟩:=q1;obtain⟨t,rfl⟩:=r1;have fr:∀b∈[s1.heap.objs.size],ko X pins H1 b:=λb hb=>by
  have e:b=s1.heap.objs.size:=by simpa using hb
  subst e;exact I1.nH (Kp _) (I1.aL.fresh (Kp _))
 cases ha:z.cps.all (· < 128)
 ·refine wpAny_pyIter_wide ha ?_;exact⟨s1.heap.objs.size,[s1.heap.objs.size],_,_,H1,rfl,I1.kept (t':=s1.toks) λb o e=>Kk _ e,ve z t _,⟨_,K1 _ rfl,rfl,rfl⟩,fr,q⟩
 ·refine wpAny_pyIter_ascii ha ?_;exact⟨s1.heap.objs.size,[s1.heap.objs.size],_,_,H1,rfl,I1.kept (t':=s1.toks) λb o e=>Kk _ e,uY z t _,⟨_,K1 _ rfl,rfl,rfl⟩,fr,q⟩
open PySem PySem.Spec PyProof PyProof.Rows
variable{X:Cx}
def z_(K:W.Frag)(a:Addr):It:=
 ⟨λi H=>∃x,getL K a i H x,λi H x H'=>∃p y,(∀xs,a_ K H a xs->xs[i]?=some y)/\H p=none/\x=.ref p/\H'=upd H p (.tup [.int i,y]),IK K a⟩
def rB{P:Program}{w:World}{K:W.Frag}{es:List Expr}{tk:Nat}{tp:Pos}(a it e:Addr)(hne:e≠it):Turn P w K (.Tuple es tk tp) (z_ K a) [e,it] e (λi h=>(∃old,IsEnum h e it i old)/\h.IsListIter it a i) where
 mem:=by simp
 obj:=λi h st b hb=>by
  obtain⟨⟨old,he⟩,o,eo,c,d⟩:=st;rcases Kv.mp hb with z|z
  ·subst z;exact⟨_,he,λv z=>by cases z⟩
  ·have z:b=it:=by simpa using z
   subst z;exact⟨o,eo,λv z=>by rw[d] at z;cases z⟩
 keep:=λi h h' st k=>by
  obtain⟨⟨old,he⟩,o,eo,r⟩:=st;exact⟨⟨old,k e (by simp) _ he⟩,o,k it (by simp) o eo,r⟩
 item:=by
  intro X hP hw hK hc i pins s σ H E I hf st hg;subst hP hw hK;obtain⟨x,xs,hq,hx⟩:=hg;obtain⟨⟨old,he⟩,hit⟩:=st;obtain⟨its,rv,p,hz⟩:=I.list hq;obtain⟨u,hu,ru⟩:=rv.get hx;obtain⟨g0,g1,g2,g3,g4,g5⟩:=hf e (by simp)
  obtain⟨f0,f1,f2,f3,f4,f5⟩:=hf it (by simp)
  have ht:s.heap.IsList a its.toArray:=p.isList;have ha:a≠it:=by
   rintro rfl;obtain⟨o,e1,c1,_⟩:=hit;obtain⟨o',e2,c2,_⟩:=ht;rw[e1] at e2;cases e2;rw[c1] at c2;exact absurd (Value.type.inj c2) (by decide)
  have hea:e≠a:=by
   rintro rfl;obtain⟨o',e2,c2,_⟩:=ht;have e1:s.heap.get? e=some _:=he;rw[e1] at e2;cases e2;exact absurd (Value.type.inj c2) (by decide)
  have hi:i<its.toArray.size:=by
   have:=(Kl.mp hu).1
   simpa using this
  refine OH (Draws.list (A:=X.A.in1) (I.ok.hd hc) it a ha its.toArray) he ⟨hit,ht⟩ hi hne (by simp[hne,hea]) λx' h' tk' hP ho hs' hT hsz hk=>?_
  have ex:x'=u:=by
   have hP':its.toArray[i]?=some x':=hP;rw[Lp,hu] at hP';exact (Option.some.inj hP').symm
  subst ex;refine⟨.ref s.heap.objs.size,rfl,Om ho λh2 he2 hs2=>?_⟩;have fr:H s.heap.objs.size=none:=I.aL.fresh (Kp _);have hle:e≠s.heap.objs.size:=KH (Kz he);have hT2:h2.get? s.heap.objs.size=some {cls:=.type "tuple",data:=.seq #[.int i tk',x']}:=(hs2.2 _ (Lk hle)).trans hT;have I2:Inv X pins σ (upd H s.heap.objs.size (.tup [.int i,x])) {s with heap:=h2,toks:=tk'+1}:=by
   refine I.oh (fp:=[e,it]) hf (Kp _) (λb o hb eb=>?_) ⟨by show 2<=sizeLine;decide,[.int i tk',x'],.cons ⟨_,rfl⟩ (.cons ru .nil),⟨_,hT2,rfl,_,rfl,rfl⟩⟩
   have n1:b≠e:=λz=>hb (by simp[z])
   have n2:b≠it:=λz=>hb (by simp[z])
   exact (hs2.2 b n1).trans (hk b o n1 n2 eb)
  refine⟨.ref s.heap.objs.size,_,I2,rfl,⟨s.heap.objs.size,x,λys hy=>by rw[I.jN hy hq];exact hx,fr,rfl,rfl⟩,⟨⟨x',?_⟩,?_⟩,λb hb=>?_⟩
  ·have e:(((i+1:Nat)):Int)=(i:Int)+1:=by lia
   rw[e];exact he2
  ·obtain⟨o,e1,r⟩:=hs'.1;exact⟨o,(hs2.2 it (Lk hne)).trans e1,r⟩
  ·have n:b≠s.heap.objs.size:=by
    rcases Kv.mp hb with z|z
    ·subst z;exact hle
    ·have z:b=it:=by simpa using z
     subst z;obtain⟨o,e1,_⟩:=hit;exact KH (Kz e1)
   rw[ae n];exact (hf b hb).1
 done:=by
  intro X hP hw hK hc i pins s σ H E I hf st hg;subst hP hw hK;obtain⟨xs,hq,hx⟩:=hg;obtain⟨⟨old,he⟩,hit⟩:=st;obtain⟨its,rv,p,hz⟩:=I.list hq;have ht:s.heap.IsList a its.toArray:=p.isList;have ha:a≠it:=by
   rintro rfl;obtain⟨o,e1,c1,_⟩:=hit;obtain⟨o',e2,c2,_⟩:=ht;rw[e1] at e2;cases e2;rw[c1] at c2;exact absurd (Value.type.inj c2) (by decide)
  have hl:=rv.length;have hsz:its.toArray.size=i:=by simp;lia
  refine OU (Draws.list (A:=X.A.in1) (I.ok.hd hc) it a ha its.toArray) he (by rw[hsz];exact⟨hit,ht⟩) λh' eb=>⟨rfl,?_⟩
  exact I.turns (t':=s.toks) hf λb o hb e1=>eb b o (λz=>hb (by simp[z])) e1
 self:=λA i s Q E st h=>by
  obtain⟨⟨old,he⟩,_⟩:=st;exact N7 he h
section
variable {X:Cx} {es:List Expr} {tk:Nat} {tp:Pos}
def kn(K:W.Frag)(ta:TA):TI:=λσ H R=>ta σ H λvs H1=>∃a,vs=[.ref a]/\(∃xs,a_ K H1 a xs)/\R (z_ K a) H1
def yf{e:Expr}{ta:TA}{p pos:Pos}(hg:Gl X "enumerate")(hm:X.mg "enumerate"=none)(ha:PA X [e] ta)(h1:autoParam (cW e=true) ℜ0)(hv:autoParam (bootBuiltins "enumerate"=some (.type "enumerate")) ℜ6):
  PI X (.Tuple es tk tp) (.Call (.Name "enumerate" p) [e] [] pos) (kn X.K ta):=by
 intro pins s σ H R I h;refine Call_ (eF I hg hm hv (Lw (bH (ha pos pins s σ H _ I h) λus s1 hq1=>?_) (bN h1) rfl));obtain⟨vs,H1,I1,r1,q1⟩:=hq1;obtain⟨a,e,⟨xs,hq⟩,q⟩:=q1;subst e;obtain⟨u,rfl,ru⟩:=vals1 r1;cases ru;obtain⟨its,rv,pt,hz⟩:=I1.list hq;refine call_enumerate_list pt.isList λh' he hit hsz hk=>?_;refine N7 he ?_;have I2:Inv X pins σ H1 {s1 with heap:=h'}:=I1.kept (t':=s1.toks) hk
 refine⟨s1.heap.objs.size+1,[s1.heap.objs.size+1,s1.heap.objs.size],_,_,H1,rfl,I2,rB a s1.heap.objs.size (s1.heap.objs.size+1) (LX (Nat.lt_succ_self _)),⟨⟨_,he⟩,hit⟩,λb hb=>?_,q⟩;have hb':s1.heap.objs.size<=b:=by
  rcases Kv.mp hb with z|z
  ·rw[z];exact LY _
  ·have z:b=s1.heap.objs.size:=by simpa using z
   rw[z];exact Kp _
 exact I1.nH hb' (I1.aL.fresh hb')
end
def y_(K:W.Frag)(ws:List Str)(v:Value):Prop:=∃p,v=.ref p/\GP K p (ws.map V.str)
structure lG (K:W.Frag) (a:Addr) (D:List (Str×List Str)):Prop where
 low:(a == sysModules)=false
 ex:∃o es ep,K.lookup a=some o/\o.ExactDict/\o.data=.dict es ep/\KTD.Rows (y_ K) es.toList D
section
variable {prog:Program} {w:World} {A:Around} {E:Value->Shared->Prop} {s:Shared} {K:W.Frag} {a:Addr} {D:List (Str×List Str)} {k:Str} {tk:Tok}
def lG.typeIs(T:lG K a D)(X:K.In s.heap):s.TypeIs (.ref a) "dict":=let ⟨o,_,_,ho,hc,_⟩:=T.ex;⟨o,X _ _ ho,hc.1⟩
def zy{Q:Option Value->Shared->Prop}(T:lG K a D)(X:K.In s.heap)(h1:∀d v,KTD.datumAt k D=some d->y_ K d v->Q (some v) {s with toks:=s.toks+1})(h2:KTD.datumAt k D=none->Q none {s with toks:=s.toks+1}):
  wpAny (model prog w) A (dictGet a (.str k tk)) Q E s:=by
 obtain⟨o,es,ep,ho,hc,hd,hr⟩:=T.ex;have ho:=X _ _ ho;unfold dictGet
 try with_reducible refine Lu ?_
 refine Kh (wpAny_pyHash_str (Kh (KTD.kt_dictFind_strs (s:={s with toks:=s.toks+1}) ho hd (by obtain⟨l⟩:=es;simpa using hr.exact) ?_)))
 have hq:Q (findBy (λk v=>v.isStr k) es k) {s with toks:=s.toks+1}:=by
  have hf:findBy (λk v=>v.isStr k) es k=(es.toList.find? λe=>e.key.isStr k).map (·.val):=by
   obtain⟨l⟩:=es;simp[findBy]
  rw[hf]
  cases hat:KTD.datumAt k D with
  |some d=>obtain⟨v,hv,hfl⟩:=hr.find_some hat;rw[hv];exact h1 d v hat hfl
  |none=>rw[hr.find_none hat];exact h2 hat
 rw[findBy_of_findIdx?] at hq
 cases hi:es.findIdx? λe=>e.key.isStr k with
 |none=>rw[hi] at hq;exact Kt hq
 |some i=>rw[hi] at hq;exact Kh (N9 (s:={s with toks:=s.toks+1}) ho hd (Kt hq))
end
namespace Y
def C1(neg:Bool):R2:=λx y H Q=>∃a o,y=.ref a/\gw H a x o/\Q (.bl (if neg then !o.isSome else o.isSome)) H
def Ba(hu:X.A.units+1<cLine):cI X (compareOp .In) (C1 false):=by
 intro pins s σ H x y v u Q I rx ry h;obtain⟨a,o,rfl,g,q⟩:=h;obtain rfl:u=Value.ref a:=ry;exact Jq hu I g rx λs' I'=>⟨.bl o.isSome,H,I',rfl,q⟩
def yd(hu:X.A.units+1<cLine):cI X (compareOp .NotIn) (C1 true):=by
 intro pins s σ H x y v u Q I rx ry h;obtain⟨a,o,rfl,g,q⟩:=h;obtain rfl:u=Value.ref a:=ry;exact B6 hu I g rx λs' I'=>⟨.bl (!o.isSome),H,I',rfl,q⟩
theorem mM:∀(more kvs:List (Key×V)),((kvs++more).map (·.1)).Nodup->fV kvs more=kvs++more
 |[],kvs,_=>by rw[Le];rfl
 |p::r,kvs,h=>by
  have hn:b_ kvs p.1=none:=by
   cases hv:b_ kvs p.1 with
   |none=>rfl
   |some v =>
    have hm:=Aw hv;rw[K7,KA] at h;have:=List.nodup_append.mp h;exact absurd rfl (this.2.2 _ hm _ Kw)
  show fV (putK kvs p.1 p.2) r=_;rw[pJ p.2 hn,mM r _ (by rw[KN];exact h),KN]
  rfl
end Y
def iU{α:Type}(xs:List α)(i:Nat)(y:α):List α:=xs.take i++y::xs.drop i
def Cp:V->List V->Hp->VK->Prop:=λx vs H Q=>∃l xs i y,x=.ref l/\vs=[.int i,y]/\H l=some (.lst xs)/\0<=i/\i<2^63/\xs.length<sizeLine/\Q .aI (upd H l (.lst (iU xs (min i.toNat xs.length) y)))
def mh:Hk X "list.insert" Cp:=by
 intro pins s σ H x vs v us Q I rx rv h;obtain⟨l,xs,i,y,rfl,rfl,hH,h0,h1,hz,q⟩:=h;cases rx;obtain⟨u,w',rfl,⟨t,rfl⟩,rw'⟩:=vals2 rv;obtain⟨z,its,n,r,hl,e⟩:=I.pe hH;have hfit:¬ (!Builtin.List.listFitsIndex i)=true:=by
  have:=Pa (k:=i) (by lia) h1
  rw[this];exact Ky
 refine MI F.slot_list_insert ⟨_,e,rfl⟩ F.entry_list_insert (F.args_list_insert_3 _ _ _) (AutoSeq1.list_insert_list_int_val_1 l its.toArray n i t w' hfit (by rw[Kq];lia)) ⟨e,?_⟩
 have el:its.length=xs.length:=hl.symm;refine⟨.aI,_,I.E2 (its':=iU its (min i.toNat its.length) w') hH e ?_ ?_ ?_,rfl,q⟩
 ·show (have k:=if i<0 then _ else min i.toNat its.toArray.size;(its.toArray.extract 0 k).push w'++its.toArray.extract k)=_
  rw[Ko (by lia)]
  apply O8.mp;unfold iU;simp[O0,Lj]
 ·rw[el];unfold iU;exact (r.take _).append (.cons rw' (r.drop _))
 ·unfold iU;rw[Kj,K2,KD,KQ];lia
open Builtin Builtin.Str
open PySem PySem.Spec PyProof PyProof.Rows
open Builtin Builtin.Str
section
variable {prog:Program} {w:World} {A:Around} {E:Value->Shared->Prop} {h:Heap} {g:Array GenState} {d:Drawn} {t:Nat} {os:OsState} {a:Addr} {items:Array Value} {cn:Nat}
def Bo:typeLookup (.type "list") "keys"=pure none:=am_miss_of_fast (by kernel_rfl)
def rD:typeLookup (.type "list") "__getattr__"=pure none:=by rw[typeLookup_type,builtinLookup_eq_fast];kernel_rfl
def wD{name:Str}{tk:Tok}{Q:Fin->Shared->Prop}(hx:h.get? a=some {cls:=.type "list",dict:=none,data:=.seq items cn,slots:=#[]})(hmiss:typeLookup (.type "list") name=pure none)(hnc:(["__module__","__name__","__qualname__","__doc__","__annotations__"]:List Str).contains name=false)(hh:A.handled=none)
  (hq:∀h' tk' e,Heap.NewAttrErr h h' e (.ref a) name->E (.ref e) ⟨h',g,d,tk',os⟩) (hsz:name.length+100<=sizeLine:=by size_fits) :
  wpAny (model prog w) A (Builtin.«object.__getattribute__» ⟨[.ref a,.str name tk],[]⟩) Q E ⟨h,g,d,t,os⟩:=by
 have hT:(⟨h,g,d,t,os⟩:Shared).TypeIs (.ref a) "list":=⟨_,hx,rfl⟩;unfold Builtin.«object.__getattribute__»
 repeat (any_goals (first|assumption|wp_step))
 rw[Ko (by rw[hnc];decide)]
 repeat (any_goals (first|assumption|wp_step))
 exact wpAny_raiseAttrError hh hq (attrMsg_fits (by decide +kernel) hsz)
def Bv{name:Str}{tk:Tok}{R:Result->Shared->Prop}(hx:h.get? a=some {cls:=.type "list",dict:=none,data:=.seq items cn,slots:=#[]})(hmiss:typeLookup (.type "list") name=pure none)(hnc:(["__module__","__name__","__qualname__","__doc__","__annotations__"]:List Str).contains name=false)(hh:A.handled=none)
  (hq:∀h' tk' e,Heap.NewAttrErr h h' e (.ref a) name->R (.error (.ref e)) ⟨h',g,d,tk',os⟩) (hsz:name.length+100<=sizeLine:=by size_fits) :
  codeAny (model prog w) A (.call (.builtin "list.__getattribute__") ⟨[.ref a,.str name tk],[]⟩) R ⟨h,g,d,t,os⟩:=
 Na M5.plain F.entry_list_ga (M5.check _ _ _ _ _ _ _ _ (show (⟨h,g,d,t,os⟩:Shared).TypeIs (.ref a) "list" from⟨_,hx,rfl⟩) (F.args_list_getattribute_2 _ _) (wD hx hmiss hnc hh hq hsz))
def HF{name:Str}{tk:Tok}{Q:Value->Shared->Prop}(hx:h.get? a=some {cls:=.type "list",dict:=none,data:=.seq items cn,slots:=#[]})(hmiss:typeLookup (.type "list") name=pure none)(hnc:(["__module__","__name__","__qualname__","__doc__","__annotations__"]:List Str).contains name=false)(hh:A.handled=none)
  (hq:∀h' tk' e,Heap.NewAttrErr h h' e (.ref a) name->E (.ref e) ⟨h',g,d,tk',os⟩) (hsz:name.length+100<=sizeLine:=by size_fits) :
  wpAny (model prog w) A (getAttrBy (.ref a) (.str name tk) false) Q E ⟨h,g,d,t,os⟩:=by
 have hT:(⟨h,g,d,t,os⟩:Shared).TypeIs (.ref a) "list":=⟨_,hx,rfl⟩;have f1:=sub_AttributeError;have f2:=M5.lookup;have f3:=M5.bind (.ref a);have f5:=rD
 repeat (any_goals (first|assumption|wp_step))
 refine Bv hx hmiss hnc hh (λh' tk' e x=>?_) hsz;obtain⟨t',u',he⟩:=x.there;show wpAny _ _ (getattributeRaised _ _ _ _ _ _ _) _ _ _;unfold getattributeRaised
 repeat (any_goals (first|assumption|wp_step))
 exact hq _ _ _ x
def AF{name:Str}{Q:Option Value->Shared->Prop}(hx:h.get? a=some {cls:=.type "list",dict:=none,data:=.seq items cn,slots:=#[]})(hmiss:typeLookup (.type "list") name=pure none)(hnc:(["__module__","__name__","__qualname__","__doc__","__annotations__"]:List Str).contains name=false)(hh:A.handled=none)
  (hq:∀h' tk',(∀b o,h.get? b=some o->h'.get? b=some o)->Q none ⟨h',g,d,tk',os⟩) (hsz:name.length+100<=sizeLine:=by size_fits) :
  wpAny (model prog w) A (getAttr? (.ref a) name) Q E ⟨h,g,d,t,os⟩:=by
 have f1:=sub_AttributeError;unfold getAttr? getAttrBy?;refine Kh (P6 (Kh (MG (HF hx hmiss hnc hh (λh' tk' e x=>?_) hsz))));obtain⟨t',u',he⟩:=x.there;have k:=x.keeps
 repeat (any_goals (first|assumption|wp_step))
 exact hq _ _ x.keeps
end
section
variable {prog:Program} {w:World} {K:Type} [DecidableEq K] {knd:KeyKind prog w K} {A:Around} {R:Result->Shared->Prop}
def iu:plainId "dict.update.loop"=true:=by decide +kernel
def gH:entryFor table "dict.update.loop"=some Builtin.«dict.update.loop»:=entryFor_of_fast (by kernel_rfl)
def sI(kvs:List (K×Value))(k:K)(v:Value):(stored kvs k v).length<=kvs.length+1:=by
 unfold stored;split
 ·rw[Ki];lia
 ·rw[Kj];simp
theorem jZ:∀(more kvs:List (K×Value)),(merged kvs more).length<=kvs.length+more.length
 |[],kvs=>by unfold merged;simp
 |p::more,kvs=>by
  have h1:=jZ more (stored kvs p.1 p.2);have h2:=sI kvs p.1 p.2;have e:merged kvs (p::more)=merged (stored kvs p.1 p.2) more:=rfl;rw[e,K2];lia
def Bz{it l dd:Addr}{items:Array Value}{more:List (K×Value)}(hh:A.handled=none)(hn:more.length=items.size)(h1:dd≠it)(h2:dd≠l)(h3:it≠l)(ps:Nat->Addr)(hps:∀i,i<items.size->items[i]?=some (.ref (ps i))/\ps i≠it/\ps i≠dd)(hsz:more.length<=20000):
  ∀(k i:Nat) (s:Shared),items.size-i=k->i<=items.size->s.heap.IsListIter it l i->s.heap.IsList l items->s.heap.DictOf knd dd (merged [] (more.take i)) ->
  (∀j,j<items.size->∃key v,s.heap.IsTuple (ps j) #[key,v]/\∃kk,more[j]?=some (kk,v)/\knd.is kk key=true) ->
  (∀h' tk,h'.DictOf knd dd (merged [] more)->(∀b o,b≠it->b≠dd->s.heap.get? b=some o->h'.get? b=some o)->R (.ok (.ret .none)) {s with heap:=h',toks:=tk}) ->
  codeAny (model prog w) A (.builtin "dict.update.loop" ⟨[.ref dd,.ref it,rawInt i,.none],[]⟩) R s:=by
 intro k
 induction k with
 |zero =>
  intro i s hk hi hit hl hd hp hR;have hin:i=items.size:=by lia
  subst hin;refine ML gH ?_;rw[Nb iu _];show wpAny _ A.in1 (pyNext (.ref it) >>= _) _ _ s;refine Kh (wpAny_pyNext_list_end hh hit hl (by simp) λh' he=>?_)
  refine Kh (Kt (Kt ?_));refine hR h' s.toks ?_ λb o b1 b2 e=>he b o b1 e;rw[Lj (by lia)] at hd
  exact hd.extBut he h1
 |succ k ih =>
  intro i s hk hi hit hl hd hp hR;have hlt:i<items.size:=by lia
  refine ML gH ?_;rw[Nb iu _];show wpAny _ A.in1 (pyNext (.ref it) >>= _) _ _ s;obtain⟨e1,e2,e3⟩:=hps i hlt;refine Kh (OS hit hl e1 λh' hit' hs'=>?_);obtain⟨key,v,ht,kk,em,hkk⟩:=hp i hlt;have ht':h'.IsTuple (ps i) #[key,v]:=by obtain⟨o,ho,r⟩:=ht;exact⟨o,(hs'.2 _ e2).trans ho,r⟩
  have hd':h'.DictOf knd dd (merged [] (more.take i)):=by obtain⟨o,es,ep,ho,r⟩:=hd;exact⟨o,es,ep,(hs'.2 _ h1).trans ho,r⟩
  refine Kh (Lu (Kh (wpAny_tryCatch ?_)));unfold Dict.pairItems;refine Kh (P1 ht'.typeIs ?_);rw[Ku (by decide)]
  obtain⟨o,ho,hoc,nn,hod⟩:=id ht';refine Kh (MU ho hod (Kt ?_));show wpAny _ A.in1 (holding [key,v] (dictSet dd key v)) _ _ _;refine Lu (wpAny_dictSet_pairs hkk hd' (λh2' hd2 hs2=>?_) ?_)
  rotate_left
  ·exact Km (jZ _ _) (Km (by rw[Lo,N2,KD];exact Km (Nat.min_le_right _ _) hsz) (by decide))
  have et:merged [] (more.take (i+1))=stored (merged [] (more.take i)) kk v:=by
   have hlt':i<more.length:=by lia
   have:more[i]=(kk,v):=by rw[Kg hlt'] at em;exact Option.some.inj em
   rw[List.take_succ_eq_append_getElem hlt',this];unfold merged;rw[List.foldl_append];rfl
  refine Kt ⟨Pu iu _,?_⟩;have:=ih (i+1) {s with heap:=h2',toks:=s.toks+1} (by lia) hlt (by obtain⟨o,ho,r⟩:=hit';exact⟨o,(hs2.2 _ (Lk h1)).trans ho,r⟩) (by obtain⟨o,ho,r⟩:=hl;exact⟨o,(hs2.2 _ (Lk h2)).trans ((hs'.2 _ (Lk h3)).trans ho),r⟩) (by rw[et];exact hd2) (λj hj=>by
   obtain⟨key,v,⟨o,ho,r⟩,rr⟩:=hp j hj;obtain⟨f1,f2,f3⟩:=hps j hj;exact⟨key,v,⟨o,(hs2.2 _ f3).trans ((hs'.2 _ f2).trans ho),r⟩,rr⟩) (λh3' tk hd3 hk3=>hR h3' tk hd3 λb o b1 b2 e=>hk3 b o b1 b2 ((hs2.2 _ b2).trans ((hs'.2 _ b1).trans e)))
  exact this
def rV{E:Value->Shared->Prop}{s:Shared}{l:Addr}{items:Array Value}{cn:Nat}{more:List (K×Value)}{Q:Value->Shared->Prop}(hl:s.heap.get? l=some {cls:=.type "list",dict:=none,data:=.seq items cn,slots:=#[]})(hh:A.handled=none)(hn:more.length=items.size)(hsz:more.length<=20000)
  (ps:Nat->Addr) (hps:∀i,i<items.size->items[i]?=some (.ref (ps i))) (hp:∀j,j<items.size->∃key v,s.heap.IsTuple (ps j) #[key,v]/\∃kk,more[j]?=some (kk,v)/\knd.is kk key=true)
  (h:∀h' tk,h'.DictOf knd s.heap.objs.size (merged [] more)->(∀b o,s.heap.get? b=some o->h'.get? b=some o)->Q (.ref s.heap.objs.size) {s with heap:=h',toks:=tk}) :
  wpAny (model prog w) A (call (.type "dict") [.ref l]) Q E s:=by
 refine callType_codes (Q₁:=λobj s₁=>obj=.ref s.heap.objs.size/\s₁={s with heap:=s.heap.push {cls:=.type "dict",data:=.dict #[]}}) F.kt_called_dict (F.kt_typeCall_dict_1 _) F.entry_dict_init (kt_code_dict_new _ ⟨rfl,rfl⟩) ?_
 rintro obj s₁ ⟨rfl,rfl⟩;have hnew:(s.heap.push {cls:=.type "dict",data:=.dict #[]}).DictOf knd s.heap.objs.size []:=Heap.DictOf.new s.heap;refine⟨hnew.typeIs,F.args_dict_init_2 _ _,?_⟩;unfold Builtin.«dict.__init__»;refine Kh ?_;unfold Builtin.Dict.selfAndRest;refine Kh (wpAny_notOrdered_dict hnew.typeIs ?_);show wpAny _ _ (pure (s.heap.objs.size,[Value.ref l])) _ _ _;refine Kt ?_;show wpAny _ _ (Builtin.Dict.updateFrom "dict.__init__" s.heap.objs.size (.ref l) [] .none) _ _ _;unfold Builtin.Dict.updateFrom;have hl1:(s.heap.push {cls:=.type "dict",data:=.dict #[]}).get? l=some {cls:=.type "list",dict:=none,data:=.seq items cn,slots:=#[]}:=Kk _ hl;have hT:({s with heap:=s.heap.push {cls:=.type "dict",data:=.dict #[]}}:Shared).TypeIs (.ref l) "list":=⟨_,hl1,rfl⟩
 refine Kh (P1 hT ?_);rw[Ku (by decide)]
 refine Kh ?_;refine AF hl1 Bo (by decide +kernel) hh (λh1 tk1 k1=>?_)
 rw[Ku (show (none:Option Value).isNone=true from rfl)];have hl2:h1.IsList l items:=⟨_,k1 _ _ hl1,rfl,cn,rfl⟩;have up:∀b o,s.heap.get? b=some o->h1.get? b=some o:=λb o e=>k1 b o (Kk _ e);obtain⟨od,es,ep,hod,hor⟩:=hnew;have hdl:s.heap.objs.size<h1.objs.size:=Kz (k1 _ _ hod);have hll:l<s.heap.objs.size:=Kz hl;have hpl:∀j,j<items.size->ps j<s.heap.objs.size:=λj hj=>by obtain⟨key,v,⟨o,ho,_⟩,_⟩:=hp j hj;exact Kz ho
 refine Kh (Pp (Kh (N8 hl2 (Kt ⟨Pu iu _,?_⟩))));refine Bz (knd:=knd) (it:=h1.objs.size) (l:=l) (items:=items) (more:=more) (A:=A.in1) hh hn (KH hdl) (LX hll) (LX (Nz hll hdl)) ps (λi hi=>⟨hps i hi,KH (Nz (hpl i hi) hdl),KH (hpl i hi)⟩) hsz _ 0 _ rfl (K4 _) ⟨_,K1 _ rfl,rfl,rfl⟩ ?_ ⟨od,es,ep,Kk _ (k1 _ _ hod),hor⟩ (λj hj=>?_) (λh' tk hd hk=>⟨rfl,h h' tk hd λb o e=>hk b o ?_ ?_ (Kk _ (up b o e))⟩)
 ·obtain⟨o,ho,r⟩:=hl2;exact⟨o,Kk _ ho,r⟩
 ·obtain⟨key,v,⟨o,ho,r⟩,rr⟩:=hp j hj;exact⟨key,v,⟨o,Kk _ (up _ _ ho),r⟩,rr⟩
 ·exact KH (Nz (Kz e) hdl)
 ·exact KH (Kz e)
end
theorem mB{α β:Type}{F:α->β->Prop}:∀{l₁:List α} {l₂:List β},l₁.length=l₂.length->(∀(j:Nat) a b,l₁[j]?=some a->l₂[j]?=some b->F a b)->Paired F l₁ l₂
 |[],[],_,_=>.nil
 |[],_::_,h,_=>by cases h
 |_::_,[],h,_=>by cases h
 |a::l₁,b::l₂,h,f=>.cons (f 0 a b rfl rfl) (mB (Nat.succ.inj h) λj x y hx hy=>f (j+1) x y (by simpa using hx) (by simpa using hy))
def BP(K:W.Frag)(H:Hp)(vs:List V)(kvs:List (Key×V)):Prop:=vs.length=kvs.length/\∀(j:Nat) (k:Key) (x:V),kvs[j]?=some (k,x)->∃p,vs[j]?=some (.ref p)/\H p=some (.tup [kV k,x])
def Fe(K:W.Frag):List V->Hp->VK->Prop:=λxs H Q=>∃l vs kvs,xs=[.ref l]/\H l=some (.lst vs)/\BP K H vs kvs/\kvs.length<=20000/\∀p,H p=none->Q (.ref p) (upd H p (.dK (fV [] kvs)))
def pN{X:Cx}(K:W.Frag)(hc:X.calm=true):aX X (.type "dict") (Fe K):=by
 intro pins s σ H xs us Q I r h;obtain⟨l,vs,kvs,rfl,hl,hp,hk,q⟩:=h;obtain⟨u,rfl,e0⟩:=vals1 r;have e1:u=.ref l:=e0;subst e1;obtain⟨hlen,its,n,hv,hget⟩:=(show aN X.prog X.w H s.heap l (.lst vs) from I.aL l _ hl);have hsz:its.toArray.size=kvs.length:=by rw[<- hp.1,Kq,<- Paired.length hv]
 have key:∀j,j<kvs.length->∃p k x,kvs[j]?=some (k,x)/\its[j]?=some (.ref p)/\∃ku xu,s.heap.IsTuple p #[ku,xu]/\i5 k ku=true/\RelV x xu:=λj hj=>by
  obtain⟨p,e1,e2⟩:=hp.2 j kvs[j].1 kvs[j].2 (Kg hj);obtain⟨u,e3,e4⟩:=Vals.get hv e1;have e5:u=.ref p:=e4;subst e5;obtain⟨_,ts,tv,hT⟩:=(show aN X.prog X.w H s.heap p (.tup [kV kvs[j].1,kvs[j].2]) from I.aL p _ e2);obtain⟨ku,xu,rfl,r1,r2⟩:=vals2 tv;exact⟨p,_,_,Kg hj,e3,ku,xu,hT.to,lP (P:=X.prog) (w:=X.w) r1,r2⟩
 obtain⟨f,hf⟩:=Classical.axiomOfChoice (r:=λ(j:Nat) (y:Addr×Value×Value)=>∀hj:j<kvs.length,s.heap.IsTuple y.1 #[y.2.1,y.2.2]/\i5 kvs[j].1 y.2.1=true/\RelV kvs[j].2 y.2.2/\its[j]?=some (.ref y.1)) (λj=>by
  by_cases hj:j<kvs.length
  ·obtain⟨p,k,x,e1,e2,ku,xu,hT,h1,h2⟩:=key j hj;rw[Kg hj] at e1;have e1':kvs[j]=(k,x):=Option.some.inj e1;exact⟨(p,ku,xu),λ_=>⟨hT,by rw[e1'];exact h1,by rw[e1'];exact h2,e2⟩⟩
  ·exact⟨(0,.none,.none),λh=>absurd h hj⟩)
 let mv:List (Key×Value):=(List.range kvs.length).map λj=>((kvs[j]?.getD (.inl 0,.aI)).1,(f j).2.2)
 have hmv:mv.length=kvs.length:=by simp[mv]
 have hmj:∀j (hj:j<kvs.length),mv[j]?=some (kvs[j].1,(f j).2.2):=λj hj=>by
  simp only[mv,Kn,M8 hj,Nt,Kg hj,Option.getD_some]
 have at':∀j (hj:j<kvs.length),∃ku xu,s.heap.IsTuple (f j).1 #[ku,xu]/\i5 kvs[j].1 ku=true/\RelV kvs[j].2 xu/\its[j]?=some (.ref (f j).1)/\mv[j]?=some (kvs[j].1,xu):=λj hj=>by
  obtain⟨h1,h2,h3,h4⟩:=hf j hj;exact⟨_,_,h1,h2,h3,h4,hmj j hj⟩
 have hKV:KV kvs mv:=by
  refine mB (by rw[hmv]) λj a b ha hb=>?_
  have hj:j<kvs.length:=by
   rcases Lm j kvs.length with c|c
   ·exact c
   ·rw[L4.mpr c] at ha;cases ha
  obtain⟨ku,xu,_,_,h2,_,h3⟩:=at' j hj;rw[Kg hj] at ha;cases ha;rw[h3] at hb;cases hb;exact⟨rfl,h2⟩
 refine rV (knd:=bQ X.prog X.w) hget (I.ok.hd hc) (by rw[hmv,hsz]) (by rw[hmv];exact hk) (λj=>(f j).1) (λi hi=>?_) (λj hj=>?_) (λh' tk hd hkp=>?_)
 ·rw[hsz] at hi;obtain⟨_,_,_,_,_,e,_⟩:=at' i hi;rw[Lp];exact e
 ·rw[hsz] at hj;obtain⟨ku,xu,hT,h1,_,_,h3⟩:=at' j hj;exact⟨ku,xu,hT,_,h3,h1⟩
 ·have hz:(fV [] kvs).length<=sizeLine:=by
   have h1:=gB kvs [];rw[Lo] at h1;exact Km (show _<=20000 by lia) (by decide)
  exact⟨.ref s.heap.objs.size,_,I.laid (t':=tk) hkp (Kp _) (xc hz (Lb.mpr (Lk (KH I.big))) (hKV.merge .nil) hd),rfl,q _ (I.aL.fresh (Kp _))⟩
open PySem PySem.Spec PyProof PyProof.Rows
namespace Z
section
variable {X:Cx} {CX:oC} {k:Nat} {f C:Addr} {fd:FuncData} {ps:List Str} {sp:Sp} {E:XK} {x m nm:Str} {p pos pos' apos:Pos} {e o i value:Expr} {es:List Expr} {ta tv td ty:TE} {t:TA}
def HB(hu:X.A.units+1<cLine)(ho:QE X o td)(hi:QE X i ty)(hs:zI i:=by exactλ_ _=>rfl):QE X (.Subscript o i pos) (qB td ty):=⟨BK hu ho.h hi.h hs⟩
def dput(hu:X.A.units+1<cLine)(ho:QE X o td)(hi:QE X i ty)(hv:QE X value tv)(hs:autoParam (swapsWith value (some (.Subscript o i pos')) pos.line X.env=pure false) ℜ0):QS X (.Assign [.Subscript o i pos'] value pos) (pT td ty tv):=⟨Au hu ho.h hi.h hv.h hs⟩
end
end Z
namespace Ap
def qB(td ty:TE)(σ:St)(H:Hp)(Q:VK):L2.qB td ty σ H Q=td σ H λx H1=>ty σ H1 λy H2=>∃a v,x=.ref a/\gw H2 a y (some v)/\Q v H2:=rfl
def pT(td ty tv:TE)(D:Ends)(σ:St)(H:Hp):L2.pT td ty tv D σ H=tv σ H λv H1=>td σ H1 λx H2=>ty σ H2 λy H3=>∃a H4,x=.ref a/\vW H3 a y v H4/\D.nx σ H4:=rfl
end Ap
section
variable {prog:Program} {w:World} {A:Around} {E:Value->Shared->Prop} {s:Shared} {K:W.Frag} {a:Addr} {D:List (Str×List Str)} {k:Str} {tk:Tok}
def vG{ws:List Str}{Q:Value->Shared->Prop}(T:lG K a D)(X:K.In s.heap)(hk:KTD.datumAt k D=some ws)(h:∀v,y_ K ws v->Q v {s with toks:=s.toks+1}):wpAny (model prog w) A (getItem (.ref a) (.str k tk)) Q E s:=by
 have hT:=T.typeIs X;unfold getItem
 try with_reducible refine Lu ?_
 refine Kh (wpAny_sequenceKey hT (by decide) ?_)
 refine Kh (LA (name:=Str.ofString "__getitem__") hT PySem.F.slot_dict_getitem
  (LF PySem.F.slot_dict_getitem hT PySem.F.entry_dict_getitem ?_ (args_dict_getitem _ _)))
 show wpAny _ _ (dictGet a (.str k tk) >>= _) _ _ s;refine Kh (zy T X (λd v e r=>?_) λe=>?_)
 ·rw[hk] at e;cases e;exact Kt ⟨v,rfl,Kt (h v r)⟩
 ·rw[hk] at e;cases e
end
variable{Q:Value->Shared->Prop}{X:Cx}{body e:Expr}{c' d f kS:Addr}{D:List (Str×List Str)}{a b:List Nat}{q x:Str}{e1 ep i:Nat}{α:Type}{p:Array Nat}{N:List Str}{σf:List (Option V)}{scope:Scope}{cl:List (Str×Addr)}{params:Arguments}{ctv pm:Value}{H H1:Hp}{h h':Heap}{P:PySem.Fin->Shared->Prop}{us:List Value}{kz:List Int}{xs:List V}{K:W.Frag}{es:Array DictEntry}{prog:Program}{w:World}{prs:List (Int×Int)}
def wx(K:W.Frag)(D:List (Str×List Str))(te:TE):TE:=λσ H Q=>te σ H λy H1=>∃k ws,y=.str k/\KTD.datumAt k D=some ws/\∀p,GP K p (ws.map V.str)->Q (.ref p) H1
def Dj{o:Expr}{te:TE}{pos:Pos}(ho:PE X o (tC (.ref d)))(hD:lG X.K d D)(he:PE X e te)(hs:zI e):PE X (.Subscript o e pos) (wx X.K D te):=by
 intro pins s σ H Q I h;refine t_ PySem.F.slot_dict_getitem.lookup hs (bH (ho pins s σ H (λv H'=>v=.ref d/\H'=H) I ⟨rfl,rfl⟩) λu s1 hq1=>?_);obtain⟨x,H1,I1,rx,ex,eh⟩:=hq1;subst ex eh;obtain rfl:u=Value.ref d:=rx;refine bH (he pins s1 σ H1 _ I1 h) λiv s2 hq2=>?_;obtain⟨y,H2,I2,ry,k,ws,ek,e1,q⟩:=hq2;subst ek;obtain⟨t,rfl⟩:=ry;refine⟨hD.typeIs I2.fi,vG hD I2.fi e1 λv r=>?_⟩;obtain⟨p,rfl,r⟩:=r;exact⟨.ref p,H2,I2.tok _,rfl,q p r⟩
def Z.seq{tg l:Expr}{tl:TE}(K:W.Frag)(hK:X.K=K)(hl:QE X l tl):QI X tg l (yO K tl):=by subst hK;exact⟨Ee hl.h⟩
def Ap.yO(K:W.Frag)(tl:TE)(σ:St)(H:Hp)(R:It->Hp->Prop):L2.yO K tl σ H R=tl σ H λx H1=>∃a,x=V.ref a/\(((∃xs,a_ K H1 a xs)/\R (Ab K a) H1)\/((∃xs,bu K H1 a xs)/\R (uT K a) H1)):=rfl
namespace Y
def EY:V->List V->Hp->VK->Prop:=λx vs H Q=>∃(z y:Str) (i:Nat) (rest:List Nat),x=.str z/\vs=[.str y]/\Builtin.Str.occurrences z y 0 z.length 1=i::rest/\Q (.int (i:Nat)) H
def jB:uK X "str.index" EY:=by
 intro pins s σ H x xs v us Q I rx rs h;obtain⟨z,y,i,rest,rfl,rfl,ho,q⟩:=h;obtain⟨t,rfl⟩:=rx;obtain⟨u,rfl,k,rfl⟩:=vals1 rs;exact SC.index ho ⟨.int _,H,I.tok _,⟨_,rfl⟩,q⟩
def HY:V->List V->Hp->VK->Prop:=λx vs H Q=>∃(a:Addr) (ws:List Str) (k:Str) (j:Nat),x=.ref a/\H a=some (.lst (ws.map V.str))/\vs=[.str k]/\ws[j]?=some k/\(∀m,m<j->ws[m]?≠some k)/\Q (.int (j:Nat)) H
def Bi:Hk X "list.index" HY:=by
 intro pins s σ H x xs v us Q I rx rs h;obtain⟨a,ws,k,j,rfl,hH,rfl,hj,hno,q⟩:=h;cases rx;obtain⟨u,rfl,t,rfl⟩:=vals1 rs;obtain⟨z,its,n,r,hl,e⟩:=I.pe hH;obtain⟨t',hit⟩:=p_ r j k hj;have hjl:j<ws.length:=(Kl.mp hj).1;rw[Ki] at z hl;have hji:j<its.toArray.size:=by rw[Kq];lia
 have sz:(sizeLine:Int)<2^63-1:=by decide
 have hje:its.toArray[j]=.str k t':=by
  have:its.toArray[j]?=some (.str k t'):=by rw[Lp];exact hit
  exact (KC.mp this).2
 have hall:∀(m:Nat) (hm:m<its.toArray.size),∃y ty,its.toArray[m]=.str y ty/\ws[m]?=some y:=λm hm=>by
  have hm':m<ws.length:=by rw[Kq] at hm;lia
  have e1:=Kg hm';obtain⟨ty,hy⟩:=p_ r m _ e1;have:its.toArray[m]?=some (.str ws[m] ty):=by rw[Lp];exact hy
  exact⟨_,ty,(KC.mp this).2,e1⟩
 refine MI PySem.F.slot_list_index ⟨_,e,rfl⟩ PySem.F.entry_list_index (PySem.F.args_list_index_2 _ _) (SeqAt.list_indexAt a its.toArray n none _ (.str k t) (λy=>match y with|.str y _=>y == k|_=>false) j hji (by lia) (by rw[hje];exact L3 k) λm hm hmj=>?_) ⟨e,λy hy=>?_,⟨.int (j:Nat),H,I.tok _,⟨_,rfl⟩,q⟩⟩
 ·obtain⟨y,ty,ey,ew⟩:=hall m hm;rw[ey];exact Lb.mpr λz=>hno m hmj (by rw[ew,z])
 ·obtain⟨m,hm,rfl⟩:=Pe.mp hy;obtain⟨y,ty,ey,ew⟩:=hall m hm;rw[ey];exact SeqAt.EqAt.str_str _ _ _ _
end Y
open PySem PySem.Spec PyProof PyProof.Rows PySem.W
namespace SP
section
variable (k:Nat->Int)
def R(i j:Nat):Prop:=k i<k j\/(k i=k j/\i<j)
variable {k}
theorem R.le{a b:Nat}(h:R k a b):k a<=k b:=by unfold R at h;lia
end
structure PI (n m:Nat) (p:Array Nat) (a:List Nat):Prop where
 eq:p.toList=a++List.range' m (n-m)
 perm:a.Perm (List.range m)
 le:m<=n
section
variable {n m:Nat} {p:Array Nat} {a:List Nat}
def PI.len(h:PI n m p a):a.length=m:=by rw[h.perm.length_eq,KZ]
def PI.lt(h:PI n m p a){x:Nat}(hx:x∈a):x<m:=Ln.mp (h.perm.mem_iff.mp hx)
def PI.size(h:PI n m p a):p.size=n:=by
 have:=h.len;have:=h.le;rw[<- La,h.eq,Kj,List.length_range',h.len];lia
def PI.at(h:PI n m p a){x:Nat}(hi:a[i]?=some x):p.getD i 0=x:=by
 have:p[i]?=some x:=by
  rw[<- KW,h.eq,KR (Kl.mp hi).1];exact hi
 rw[Oe,this];rfl
theorem PI.nx(h:PI n m p a)(hm:m<n):p.getD m 0=m:=by
 have:p[m]?=some m:=by
  rw[<- KW,h.eq,KL (by rw[h.len];exact Kp m),h.len,LH,List.getElem?_range' (by lia)];simp
 rw[Oe,this];rfl
theorem PI.step(h:PI n m p a)(hm:m<n):PI n (m+1) p (a++[m]):=by
 refine⟨?_,?_,hm⟩
 ·rw[h.eq,KN,show n-m=(n-(m+1))+1 by lia,M1];rfl
 ·rw[NO];exact h.perm.append_right [m]
def PI.last(h:PI n m p a){y:Nat}(e:a=b++[y]):p.getD (m-1) 0=y:=by
 refine h.at ?_;have:=h.len;rw[e,Kj] at this;simp only[K2,Lo] at this;rw[e,KL (by lia),show m-1-b.length=0 by lia];rfl
end
def yu{xs:Array α}{k l:Nat}{y:α}(hy:xs[k]?=some y)(hl:l<=k):(bubble xs k (k-l)).toList=xs.toList.take l++y::(xs.toList.drop l).take (k-l)++xs.toList.drop (k+1):=by
 have hk:k<xs.size:=(KC.mp hy).1;have hL:xs.toList.length=xs.size:=by simp
 apply My;intro i;rw[KW,getElem?_bubble hk _ (by lia),show k-(k-l)=l by lia]
 rw[KN,Nc];have ht:(xs.toList.take l).length=l:=by rw[KD];lia
 rw[ht];by_cases h1:i<l
 ·rw[Ku h1,Ko (by lia),Ko (by lia),MM,Ku h1,KW]
 ·rw[Ko h1];by_cases h2:i=l
  ·subst h2;rw[Ku rfl,LH,hy];rfl
  ·rw[Ko h2,show i-l=(i-l-1)+1 by lia,LP,OI,Nc]
   have hm:((xs.toList.drop l).take (k-l)).length=k-l:=by rw[KD,KQ];lia
   rw[hm];by_cases h3:i-l-1<k-l
   ·rw[Ku h3,Ku (by lia),MM,Ku h3,LR,KW]
    congr 1;lia
   ·rw[Ko h3,Ko (by lia),LR,KW]
    congr 1;lia
def xC{xs:Array α}{j:Nat}(hi:i<=j)(hj:j<=xs.size):(mirror xs i j ((j-i) / 2)).toList=xs.toList.take i++((xs.toList.drop i).take (j-i)).reverse++xs.toList.drop j:=by
 have hL:xs.toList.length=xs.size:=by simp
 apply My;intro k;rw[KW,getElem?_mirror_all hj,KN,Nc];have ht:(xs.toList.take i).length=i:=by rw[KD];lia
 have hm:((xs.toList.drop i).take (j-i)).length=j-i:=by rw[KD,KQ];lia
 rw[ht];by_cases h1:k<i
 ·rw[Ku h1,Ko (by lia),MM,Ku h1,KW]
 ·rw[Ko h1,Nc,M9,hm];by_cases h2:k<j
  ·rw[Ku (by lia),Ku (by lia),List.getElem?_reverse (by lia),hm,MM,Ku (by lia),LR,KW]
   congr 1;lia
  ·rw[Ko (by lia),Ko (by lia),LR,KW]
   congr 1;lia
theorem PI.rev{n m:Nat}{c:List Nat}(h:PI n m p (b++c)):PI n m (kas_rev p b.length m) (b++c.reverse):=by
 have hl:b.length+c.length=m:=by rw[<- h.len,Kj]
 refine⟨?_,((List.reverse_perm c).append_left b).trans h.perm,h.le⟩;unfold kas_rev;rw[xC (by lia) (by rw[h.size];exact h.le),h.eq,KN b c,Pg,List.drop_left,show m-b.length=c.length by lia,Pg,<- KN b c,List.drop_left' (by rw[Kj];exact hl)]
def oq{m:Nat}(h:a.length=m)(hm:1<=m):∃b y,a=b++[y]:=by
 rcases Ph a with rfl|⟨b,y,rfl⟩
 ·cases h;exact absurd hm (by decide)
 ·exact⟨b,y,by simp⟩
section
variable {k:Nat->Int} {n:Nat} {cmp:Nat->Nat->(Bool->Shared->Prop)->Shared->Prop} {I:Shared->Prop}
def qh(k:Nat->Int)(n:Nat)(cmp:Nat->Nat->(Bool->Shared->Prop)->Shared->Prop)(I:Shared->Prop):Prop:=∀i j C s,i<n->j<n->I s->(∀s',I s'->C (decide (k i<k j)) s')->cmp i j C s
theorem sh(hc:qh k n cmp I){G:Nat->Shared->Prop}:∀(f m:Nat) (a:List Nat) (s:Shared),PI n m p a->1<=m->f=n-m->a.Pairwise (R k)->I s ->
  (∀m' a' s',PI n m' p a'->m<=m'->a'.Pairwise (R k)->I s'->(∀b y,a'=b++[y]->m'<n->k m'<k y)->G m' s')->(kas_asc p f m).kasWp cmp G s
 |0,m,a,s,h,h1,hf,hp,hI,g=>g m a s h (Kp m) hp hI λ_ _ _ hl=>by have:=h.le;lia
 |f+1,m,a,s,h,h1,hf,hp,hI,g=>by
  have hm:m<n:=by lia
  obtain⟨b,y,e⟩:=oq h.len h1;show cmp (p.getD m 0) (p.getD (m-1) 0) _ s;rw[h.nx hm,h.last e];have hy:y<m:=h.lt (by rw[e];simp)
  refine hc m y _ s hm (by lia) hI λs' hI'=>?_
  by_cases c:k m<k y
  ·rw[KY c];exact g m a s' h (Kp m) hp hI' λb' y' e' _=>by
    rw[e] at e';have:[y]=[y']:=(List.append_inj' e' rfl).2
    cases this;exact c
  ·rw[KJ c];refine sh hc f (m+1) (a++[m]) s' (h.step hm) (by lia) (by lia) ?_ hI' λm' a' s2 h' hm' hp' hI2 gl=>g m' a' s2 h' (by lia) hp' hI2 gl
   refine LG.mpr ⟨hp,by simp,λx hx z hz=>?_⟩
   rw[K0.mp hz];have hxm:=h.lt hx;have:k x<=k y:=by
    rw[e] at hx hp;rcases Ld.mp hx with hx|hx
    ·exact ((LG.mp hp).2.2 x hx y (by simp)).le
    ·rw[K0.mp hx];exact OV _
   unfold R;lia
structure DI (k:Nat->Int) (b c:List Nat):Prop where
 E_:b.Pairwise λx y=>R k y x
 less:∀y∈b,∀x∈c,k x<k y
 one:∀x∈c,∀y∈c,k x=k y
 up:c.Pairwise (· < ·)
def DI.rise{c:List Nat}(h:DI k b c):(b++c.reverse).reverse.Pairwise (R k):=by
 rw[NV,Nd];refine LG.mpr ⟨?_,NG.mpr h.E_,λx hx y hy=>.inl (h.less y (Mm.mp hy) x hx)⟩;exact N3 (λ{x y} hx hy hl=>.inr ⟨h.one x hx y hy,hl⟩) h.up
def DI.next{c:List Nat}{x:Nat}(h:DI k b c)(hc:c≠[])(hx:∀y∈c,k x<k y):DI k (b++c.reverse) [x]:=by
 refine⟨LG.mpr ⟨h.E_,NG.mpr (N3 (λ{x y} hx hy hl=>.inr ⟨h.one x hx y hy,hl⟩) h.up),λy hy z hz=>.inl (h.less y hy z (Mm.mp hz))⟩,λy hy z hz=>?_,λy hy z hz=>?_,by simp⟩
 ·rw[K0.mp hz];rcases Ld.mp hy with hy|hy
  ·obtain⟨w,hw⟩:=O1 c hc;exact Int.lt_trans (hx w hw) (h.less y hy w hw)
  ·exact hx y (Mm.mp hy)
 ·rw[K0.mp hy,K0.mp hz]
def DI.more{c:List Nat}{x:Nat}(h:DI k b c)(he:∀y∈c,k x=k y)(hc:c≠[])(hl:∀y∈c,y<x):DI k b (c++[x]):=by
 refine⟨h.E_,λy hy z hz=>?_,λy hy z hz=>?_,LG.mpr ⟨h.up,by simp,λy hy z hz=>by rw[K0.mp hz];exact hl y hy⟩⟩
 ·rcases Ld.mp hz with hz|hz
  ·exact h.less y hy z hz
  ·rw[K0.mp hz];obtain⟨w,hw⟩:=O1 c hc;rw[he w hw];exact h.less y hy w hw
 ·rcases Ld.mp hy with hy|hy<;>rcases Ld.mp hz with hz|hz
  ·exact h.one y hy z hz
  ·rw[K0.mp hz];exact (he y hy).symm
  ·rw[K0.mp hy];exact he z hz
  ·rw[K0.mp hy,K0.mp hz]
theorem j6(hc:qh k n cmp I){G:Array Nat×Nat×Nat->Shared->Prop}:∀(f:Nat) (p:Array Nat) (m q:Nat) (b c:List Nat) (s:Shared),PI n m p (b++c)->c.length=q+1->DI k b c->f=n-m->I s ->
  (∀p' m' q' b' c' s',PI n m' p' (b'++c')->c'.length=q'+1->DI k b' c'->I s'->G (p',m',q') s')->(kas_desc f p m q).kasWp cmp G s
 |0,p,m,q,b,c,s,h,hl,hd,hf,hI,g=>g p m q b c s h hl hd hI
 |f+1,p,m,q,b,c,s,h,hl,hd,hf,hI,g=>by
  have hm:m<n:=by lia
  obtain⟨c0,y,e⟩:=oq hl (by lia)
  have hbl:b.length+(q+1)=m:=by rw[<- hl,<- Kj,h.len]
  have ne:c≠[]:=by rw[e];simp
  have hy:y∈c:=by rw[e];simp
  have hya:y<m:=h.lt (KG _ hy);have e1:p.getD m 0=m:=h.nx hm;have e2:p.getD (m-1) 0=y:=h.last (b:=b++c0) (by rw[e,KN])
  show cmp (p.getD m 0) (p.getD (m-1) 0) _ s;rw[e1,e2];refine hc m y _ s hm (by lia) hI λs' hI'=>?_
  by_cases c1:k m<k y
  ·rw[KY c1];have hx:∀z∈c,k m<k z:=λz hz=>by rw[hd.one z hz y hy];exact c1
   show KasT.kasWp cmp (if q > 0 then _ else _) G s'
   by_cases hq:q > 0
   ·rw[Ku hq,show m-(q+1)=b.length by lia]
    exact j6 hc f _ (m+1) 0 (b++c.reverse) [m] s' (h.rev.step hm) rfl (hd.next ne hx) (by lia) hI' g
   ·rw[Ko hq];have e3:c.reverse=c:=by
     have:c.length=1:=by lia
     obtain⟨z,rfl⟩:=OW.mp this;rfl
    exact j6 hc f p (m+1) 0 (b++c.reverse) [m] s' (by rw[e3];exact h.step hm) rfl (hd.next ne hx) (by lia) hI' g
  ·rw[KJ c1];show cmp y m _ s';refine hc y m _ s' (by lia) hm hI' λs2 hI2=>?_
   by_cases c2:k y<k m
   ·rw[KY c2];exact g p m q b c s2 h hl hd hI2
   ·rw[KJ c2];refine j6 hc f p (m+1) (q+1) b (c++[m]) s2 (by rw[<- KN];exact h.step hm) (by rw[Kj,hl];rfl) (hd.more (λz hz=>?_) ne λz hz=>h.lt (KG _ hz)) (by lia) hI2 g
    rw[hd.one z hz y hy];lia
theorem tB(hc:qh k n cmp I){G:Nat×Array Nat->Shared->Prop}{m:Nat}{s:Shared}(h:PI n m p a)(h1:1<=m)(hr:a.reverse.Pairwise (R k))(hI:I s)
  (g:∀m' p' a' s',PI n m' p' a'->1<=m'->a'.Pairwise (R k)->I s'->G (m',p') s'):(kas_tail3 m n p).kasWp cmp G s:=by
 unfold kas_tail3;rw[Nv];have hv:=PI.rev (b:=[]) (c:=a) h;exact sh hc (n-m) m a.reverse s hv h1 rfl hr hI λm' a' s' h' hm' hp' hI' _=>g m' _ a' s' h' (by lia) hp' hI'
theorem sY(hc:qh k n cmp I){G:Nat×Array Nat->Shared->Prop}{m:Nat}{s:Shared}(h:PI n m p a)(hm:m<n)(hd:DI k a [m])(hI:I s)
  (g:∀m' p' a' s',PI n m' p' a'->1<=m'->a'.Pairwise (R k)->I s'->G (m',p') s'):(kas_descPart m n p).kasWp cmp G s:=by
 unfold kas_descPart;rw[Nv];refine j6 hc (n-(m+1)) p (m+1) 0 a [m] s (h.step hm) rfl hd rfl hI λp' m' q' b' c' s' h' hl' hd' hI'=>?_;have hbl:b'.length+(q'+1)=m':=by rw[<- hl',<- Kj,h'.len]
 show KasT.kasWp cmp (if q' > 0 then _ else _) G s'
 by_cases hq:q' > 0
 ·rw[Ku hq];show (kas_tail3 m' n (kas_rev p' (m'-(q'+1)) m')).kasWp cmp G s';rw[show m'-(q'+1)=b'.length by lia]
  exact tB hc h'.rev (by lia) hd'.rise hI' g
 ·rw[Ko hq];have e3:c'.reverse=c':=by
   have:c'.length=1:=by lia
   obtain⟨z,rfl⟩:=OW.mp this;rfl
  exact tB hc h' (by lia) (by rw[<- e3];exact hd'.rise) hI' g
theorem yo(hc:qh k n cmp I){G:Nat×Array Nat->Shared->Prop}{s:Shared}(hn:1<=n)(hI:I s)
  (g:∀m' p' a' s',PI n m' p' a'->1<=m'->a'.Pairwise (R k)->I s'->G (m',p') s'):(kas_count n (List.toArray (List.range n))).kasWp cmp G s:=by
 unfold kas_count;rw[Nv];have h0:PI n 1 (List.toArray (List.range n)) [0]:=by
  refine⟨?_,List.Perm.refl _,hn⟩;show List.range n=[0]++List.range' 1 (n-1);rw[Nf,show n=(n-1)+1 by lia,M1];rfl
 refine sh hc (n-1) 1 [0] s h0 (Kp 1) rfl (by simp) hI λm a s' h hm hp hI' gl=>?_
 show KasT.kasWp cmp (if (m == n)=true then _ else _) G s'
 by_cases e:m=n
 ·subst e;rw[Ku (L3 m)];exact g m _ a s' h hm hp hI'
 ·rw[Ko (by simpa using e)]
  have hmn:m<n:=by have:=h.le;lia
  obtain⟨b,y,ea⟩:=oq h.len hm;have ky:=gl b y ea hmn;have hya:y<m:=h.lt (by rw[ea];simp)
  by_cases h2:m > 1
  ·rw[Ku h2];obtain⟨x,r,ex⟩:∃x r,a=x::r:=by
    cases a with
    |nil=>have:=h.len;rw[Lo] at this;lia
    |cons x r=>exact⟨x,r,rfl⟩
   have hxa:x<m:=h.lt (by rw[ex];simp)
   show cmp ((List.toArray (List.range n)).getD 0 0) ((List.toArray (List.range n)).getD (m-1) 0) _ s';rw[h.at (i:=0) (x:=x) (by rw[ex];rfl),h.last ea]
   refine hc x y _ s' (by lia) (by lia) hI' λs2 hI2=>?_
   by_cases c:k x<k y
   ·rw[KY c];exact g m _ a s2 h hm hp hI2
   ·rw[KJ c];have hv:=PI.rev (b:=[]) (c:=a) h;refine sY hc hv hmn ⟨NG.mpr hp,λz hz w hw=>?_,λz hz w hw=>by rw[K0.mp hz,K0.mp hw],by simp⟩ hI2 g
    rw[K0.mp hw];have hz':=Mm.mp hz;have hxz:k x<=k z:=by
     rw[ex] at hz' hp;rcases Kv.mp hz' with rfl|hz'
     ·exact OV _
     ·exact ((K_.mp hp).1 z hz').le
    lia
  ·rw[Ko h2];have hm1:m=1:=by lia
   have hb:b=[]:=by
    have:=h.len;rw[ea,Kj,hm1] at this;simp only[K2,Lo] at this;exact ME.mp (by lia)
   subst hb;refine sY hc h hmn ⟨by rw[ea];simp,λz hz w hw=>?_,λz hz w hw=>by rw[K0.mp hz,K0.mp hw],by simp⟩ hI' g
   rw[K0.mp hw];rw[ea] at hz;rw[K0.mp hz];exact ky
theorem jV(hc:qh k n cmp I){G:Nat->Shared->Prop}{t:Nat}(h:PI n t p a)(ht:t<n)(hp:a.Pairwise (R k)):∀(f l r:Nat) (s:Shared),l<=r->r<=t->r-l<=f->(∀i x,i<l->a[i]?=some x->k x<=k t)->(∀i x,r<=i->a[i]?=some x->k t<k x)->I s ->
  (∀l' s',l'<=t->(∀i x,i<l'->a[i]?=some x->k x<=k t)->(∀i x,l'<=i->a[i]?=some x->k t<k x)->I s'->G l' s')->(kas_place p t f l r).kasWp cmp G s
 |0,l,r,s,h1,h2,h3,hlo,hhi,hI,g=>g l s (by lia) hlo (λi x hi e=>hhi i x (by lia) e) hI
 |f+1,l,r,s,h1,h2,h3,hlo,hhi,hI,g=>by
  show KasT.kasWp cmp (if l >= r then _ else _) G s
  by_cases hlr:l >= r
  ·rw[Ku hlr];exact g l s (by lia) hlo (λi x hi e=>hhi i x (by lia) e) hI
  ·rw[Ko hlr];have hmid:(l+r) / 2<a.length:=by rw[h.len];lia
   have em:a[(l+r) / 2]?=some a[(l+r) / 2]:=Kg hmid;have hma:a[(l+r) / 2]<t:=h.lt (K9 hmid);have mono:∀i j x y,i<=j->a[i]?=some x->a[j]?=some y->k x<=k y:=λi j x y hij ex ey=>by
    rcases Lm i j with c|c
    ·obtain⟨hi,rfl⟩:=Kl.mp ex;obtain⟨hj,rfl⟩:=Kl.mp ey;exact (Md.mp hp i j hi hj c).le
    ·have:i=j:=Nat.le_antisymm hij c;subst this;rw[ex] at ey;cases ey;exact OV _
   show cmp (p.getD t 0) (p.getD ((l+r) / 2) 0) _ s;rw[h.nx ht,h.at em];refine hc t _ _ s ht (by lia) hI λs' hI'=>?_
   by_cases c:k t<k a[(l+r) / 2]
   ·rw[KY c];exact jV hc h ht hp f l ((l+r) / 2) s' (by lia) (by lia) (by lia) hlo (λi x hi e=>Int.lt_of_lt_of_le c (mono _ i _ x hi em e)) hI' g
   ·rw[KJ c];exact jV hc h ht hp f ((l+r) / 2+1) r s' (by lia) h2 (by lia) (λi x hi e=>Int.le_trans (mono i _ x _ (by lia) e em) (by lia)) hhi hI' g
theorem yI(hc:qh k n cmp I){G:Array Nat->Shared->Prop}:∀(f:Nat) (p:Array Nat) (t:Nat) (a:List Nat) (s:Shared),PI n t p a->a.Pairwise (R k)->f=n-t->I s ->
  (∀p' a' s',PI n n p' a'->a'.Pairwise (R k)->I s'->G p' s')->(kas_bin f p t).kasWp cmp G s
 |0,p,t,a,s,h,hp,hf,hI,g=>by
  have:t=n:=by have:=h.le;lia
  subst this;exact g p a s h hp hI
 |f+1,p,t,a,s,h,hp,hf,hI,g=>by
  have ht:t<n:=by lia
  show KasT.kasWp cmp ((kas_place p t t 0 t).bind _) G s;rw[Nv];refine jV hc h ht hp t 0 t s (K4 _) (Kp _) (by lia) (λi x hi _=>absurd hi (NR i)) (λi x hi e=>?_) hI λl s' hl hlo hhi hI'=>?_
  ·have:=(Kl.mp e).1;rw[h.len] at this;lia
  ·have et:p[t]?=some t:=by
    rw[<- KW,h.eq,KL (by rw[h.len];exact Kp t),h.len,LH,List.getElem?_range' (by lia)];simp
   have hla:l<=a.length:=by rw[h.len];exact hl
   have e1:(bubble p t (t-l)).toList=(a.take l++t::a.drop l)++List.range' (t+1) (n-(t+1)):=by
    rw[yu et hl,h.eq,List.take_append_of_le_length hla,List.drop_append_of_le_length hla,show n-t=(n-(t+1))+1 by lia,M1]
    have e2:(a.drop l).length=t-l:=by rw[KQ,h.len]
    have e3:∀r:List Nat,(a++t::r).drop (t+1)=r:=λr=>by
     rw[show a++t::r=(a++[t])++r by simp]
     exact List.drop_left' (by rw[Kj,h.len];rfl)
    rw[List.take_left' e2,e3]
   have hP:PI n (t+1) (bubble p t (t-l)) (a.take l++t::a.drop l):=by
    refine⟨e1,?_,ht⟩;have:(a.take l++t::a.drop l).Perm (a++[t]):=by
     have h1:(a.take l++t::a.drop l).Perm (t::(a.take l++a.drop l)):=O9;rw[MV] at h1;exact h1.trans (List.perm_append_singleton t a).symm
    rw[NO];exact this.trans (h.perm.append_right [t])
   refine yI hc f _ (t+1) _ s' hP ?_ (by lia) hI' g
   have hp1:=(MV l a) ▸ hp;obtain⟨q1,q2,q3⟩:=LG.mp hp1;refine LG.mpr ⟨q1,K_.mpr ⟨λx hx=>?_,q2⟩,λx hx y hy=>?_⟩
   ·obtain⟨i,hi⟩:=NH.mp hx;rw[LR] at hi;exact .inl (hhi (l+i) x (by lia) hi)
   ·rcases Kv.mp hy with rfl|hy
    ·obtain⟨i,hi⟩:=NH.mp hx;rw[MM] at hi
     split at hi
     ·rename_i hil;have:=hlo i x hil hi;have hxt:=h.lt (Ng hx);unfold R;lia
     ·cases hi
    ·exact q3 x hx y hy
theorem tH(hc:qh k n cmp I){G:Array Nat->Shared->Prop}{s:Shared}(hn:1<=n)(hI:I s)(g:∀p s',p.toList.Perm (List.range n)->p.toList.Pairwise (R k)->I s'->G p s'):(kas_sort n).kasWp cmp G s:=by
 unfold kas_sort;rw[Nv];have fin:∀p a s',PI n n p a->a.Pairwise (R k)->I s'->G p s':=λp a s' h hp hI'=>by
  have e:p.toList=a:=by rw[h.eq,LH,List.range'_zero,Le]
  refine g p s' ?_ ?_ hI'<;>rw[e]
  ·exact h.perm
  ·exact hp
 refine yo hc hn hI λm p a s' h h1 hp hI'=>?_;show KasT.kasWp cmp (if m<n then _ else _) G s'
 by_cases hm:m<n
 ·rw[Ku hm];show (kas_bin (n-max m 1) p (max m 1)).kasWp cmp G s';rw[show max m 1=m by lia]
  exact yI hc (n-m) p m a s' h hp rfl hI' fin
 ·rw[Ko hm];have:m=n:=by have:=h.le;lia
  subst this;exact fin p a s' h hp hI'
end
end SP
abbrev EI(qual:Str)(scope:Scope)(L f:Addr)(cd:Value)(cl:List (Str×Addr)):Env:=W.envX qual scope L f cd cl
def tG(X:Cx)(A:Around)(N:List Str)(qual:Str)(scope:Scope)(f:Addr)(cd:Value)(cl:List (Str×Addr))(s:Shared)(H:Hp):Cx where
 prog:=X.prog
 w:=X.w
 K:=X.K
 mg:=X.mg
 base:=X.base
 A:=A.deeper (EI qual scope s.heap.objs.size f cd cl)
 N:=N
 s₀:=s
 H₀:=H
 env:=EI qual scope s.heap.objs.size f cd cl
 outer:=X.stack
 stack:=EI qual scope s.heap.objs.size f cd cl::X.stack
 ex:=[]
 calm:=true
 fn:=λ_=>false
 pn:=[]
 xe:=λ_ _=>False
section
variable {X:Cx} {pins:List (Addr×Obj)} {σ:St} {H:Hp} {s:Shared}
def Ai(I:Inv X pins σ H s){A:Around}(hA:A.frames=some X.stack)(hd:A.handled=none){qual:Str}{v:V}{u:Value}{cd:Value}{h₁:Heap}{tk:Nat}
  (hk:scope.kind=.function) (rv:RelV v u) (hloc:scope.names.lookup x=some .local) (hns:h₁.Ns s.heap.objs.size (λy=>[(x,u)].reverse.lookup y)) (old:∀b o,s.heap.get? b=some o->h₁.get? b=some o)
  (hlen:σf.length=N.length) (hcl:∀y c,cl.lookup y=some c->X.env.cells.lookup y=some c) (hhas:∀y,(scope.names.lookup y=some .cell\/scope.names.lookup y=some .free)->∃c,cl.lookup y=some c)
  (hf:∀(i:Nat) (y:Str) (v:V),N[i]?=some y->σf[i]?=some (some v)->scope.names.lookup y=some .free/\∃c u,cl.lookup y=some c/\s.heap.IsCell c (some u)/\RelV v u) :
  Inv (tG X A (x::N) qual scope f cd cl s H) [] (some v::σf) H {s with heap:=h₁,toks:=tk}:=by
 have noA:∀b:Addr,b∉(tG X A (x::N) qual scope f cd cl s H).ex:=λb z=>absurd (show b∈([]:List Addr) from z) (by simp)
 refine⟨⟨I.ok.mod,hk,rfl,rfl,Kp _,λy z c e1 e2=>I.ok.inj y z c (hcl y c e1) (hcl z c e2),hhas,λy c z _=>(by cases z),λ_=>hd,Around.frames_deeper hA,.inr ⟨rfl,rfl⟩,λb z=>absurd z (noA b),I.bs,Km I.ok.qN I.sz,λb _ _=>noA b,λb z=>absurd z (noA b),I.stack,I.ju,I.ok.tabs.un I.base⟩,
  rfl,I.bare,Un.kept old,⟨_,hns,λi y w e1 e2 e3=>?_⟩,λy c e=>?_,I.aL.fresh (Kp _),λy c e=>I.cw y c (hcl y c e),λp hp=>absurd (show p∈([]:List (Addr×Obj)) from hp) (by simp),I.aL.kept old,?_⟩
 ·cases i with
  |zero =>
   have e1':some x=some y:=e1;have e2':some (some v)=some (some w):=e2
   cases e1';cases e2'
   exact⟨u,rv,.inl ⟨hloc,by simp⟩⟩
  |succ i =>
   obtain⟨h1,c,u',h2,h3,h4⟩:=hf i y w e1 e2;obtain⟨o,ho,hd'⟩:=h3;exact⟨u',h4,.inr ⟨.inr h1,c,h2,o,old _ _ ho,hd'⟩⟩
 ·obtain⟨v',o,ho,hd'⟩:=I.cell y c (hcl y c e);exact⟨v',o,old _ _ ho,hd'⟩
 ·show (some v::σf).length=(x::N).length;rw[K2,K2,hlen]
def xG(I:Inv X pins σ H s){A:Around}{k:Nat}(hr:bt (k+1) A)(hA:A.frames=some X.stack){qual:Str}{v:V}{u:Value}{f:Addr}{t:TE}{Q:VK}
  (hk:scope.kind=.function) (hco:scope.isCoroutine=false) (hgen:scope.isGenerator=false) (hcell:∀y∈scope.names,y.2≠.cell) (rv:RelV v u) (hloc:scope.names.lookup x=some .local)
  (ho:s.heap.get? f=some (W.kla_obj "<lambda>" qual params body scope cl pm c' ctv)) (fJ:s.heap.CodeRec (.ref c') qual)
  (hbind:∀u,bindArgs (W.kla_fn "<lambda>" qual params body scope cl pm (.ref c') ctv) ⟨[u],[]⟩=pure [(x,u)])
  (hlen:σf.length=N.length) (hcl:∀y c,cl.lookup y=some c->X.env.cells.lookup y=some c) (hhas:∀y,(scope.names.lookup y=some .cell\/scope.names.lookup y=some .free)->∃c,cl.lookup y=some c)
  (hf:∀(i:Nat) (y:Str) (v:V),N[i]?=some y->σf[i]?=some (some v)->scope.names.lookup y=some .free/\∃c u,cl.lookup y=some c/\s.heap.IsCell c (some u)/\RelV v u)
  (hb:PE (tG X A (x::N) qual scope f (.ref c') cl s H) body t) (hq:t (some v::σf) H Q) :
  wpAny (model X.prog X.w) A (call (.ref f) [u]) (EP X pins σ Q) (λ_ _=>False) s:=by
 refine MZ (W.kla_callFunE hr.depth ho rfl hco hgen rfl fJ ?_);rw[hbind];refine Kt (wpAny_newFunctionEnv hcell (λy hy=>by rw[K0.mp hy];exact hloc) (λh₁ hns hsb=>⟨I.nolimit.fresh _ hsb,?_⟩) hk)
 have old:∀b o,s.heap.get? b=some o->h₁.get? b=some o:=λb o e=>hsb.extBut b o (KH (Kz e)) (Kk _ e);have J:=Ai (tk:=s.toks+1) (qual:=qual) (f:=f) (cd:=.ref c') I hA hr.hd hk rv hloc hns old hlen hcl hhas hf;refine W.kla_codeExpr (Lh (hb [] _ _ H Q J hq) (λw s' h=>?_) λ_ _ h=>h.elim);obtain⟨v',H',J',r',q'⟩:=h;exact I.after ⟨v',H',J'.os,J'.bare,J'.base,J'.aL,r',q'⟩
end
inductive dN:Hp->Hp->Prop
 |refl {H:Hp}:dN H H
 |more {H H1:Hp} {p:Addr} {o:HO}:dN H H1->H1 p=none->dN H (upd H1 p o)
def dN.same(g:dN H H1):kM H H1:=by
 induction g with
 |refl=>exact kM.refl _
 |more g n ih=>exactλb o e=>by rw[ae (aq (ih b o e) n)];exact ih b o e
def dN.trans{H2:Hp}(a:dN H H1)(b:dN H1 H2):dN H H2:=by
 induction b with
 |refl=>exact a
 |more _ n ih=>exact .more ih n
theorem jk{i j:Int}{ti tj:Tok}{c:Value}:∀l:List Value,TriplesOk l->TriplesOk (l++[.int i ti,.int j tj,c])
 |[],_=>trivial
 |.int _ _::.int _ _::_::r,h=>jk r (show TriplesOk r from h)
theorem mP{p:Pos}{i j:Int}{ti tj:Tok}{c cv:Value}:∀l:List Value,TriplesOk l->codeAmong p (l++[.int i ti,.int j tj,c])=some cv->codeAmong p l=some cv\/cv=c
 |[],_,e=>by
  have e':(if (i == p.line && j == p.col)=true then some c else codeAmong p [])=some cv:=e
  by_cases z:(i == p.line && j == p.col)=true
  ·rw[Ku z] at e';cases e';exact .inr rfl
  ·rw[Ko z] at e';cases e'
 |.int a ta::.int b tb::d::r,h,e=>by
  have e':(if (a == p.line && b == p.col)=true then some d else codeAmong p (r++[.int i ti,.int j tj,c]))=some cv:=e
  show (if (a == p.line && b == p.col)=true then some d else codeAmong p r)=some cv\/_
  by_cases z:(a == p.line && b == p.col)=true
  ·rw[Ku z] at e' ⊢;exact .inl e'
  ·rw[Ko z] at e' ⊢;exact mP r (show TriplesOk r from h) e'
def t4(q:Str)(more:Array Value):xR (#[.str q 0]++more)=q:=by
 unfold xR;rw[MB];rfl
structure jh (H:Hp) (f:Addr) (q:Str) (params:Arguments) (body:Expr) (scope:Scope) (cl:List (Str×Addr)) (c':Addr) (pm ctv:Value):Prop where
 fn:H f=some (.iH (W.kla_obj "<lambda>" q params body scope cl pm c' ctv) (.own f))
 cd:C4 H q (.ref c')
section
variable {X:Cx} {pins:List (Addr×Obj)} {σ:St} {H:Hp} {s:Shared} {E:Value->Shared->Prop}
def jh.up(x:jh H f q params body scope cl c' pm ctv)(g:∀b o u,H b=some (.iH o u)->H1 b=some (.iH o u)):jh H1 f q params body scope cl c' pm ctv:=
 ⟨g _ _ _ x.fn,let ⟨c,oc,vs,t,e1,e2,e3⟩:=x.cd;⟨c,oc,vs,t,e1,g _ _ _ e2,e3⟩⟩
def jh.get(x:jh H f q params body scope cl c' pm ctv)(I:Inv X pins σ H s):
  s.heap.get? f=some (W.kla_obj "<lambda>" q params body scope cl pm c' ctv)/\s.heap.CodeRec (.ref c') q:=by
 obtain⟨c,oc,vs,t,e1,e2,e3,e4⟩:=x.cd;exact⟨(I.aL f _ x.fn).1,c,oc,vs,t,e1,(I.aL c _ e2).1,e3,e4⟩
def Inv.zZ{o:Obj}{t':Nat}(I:Inv X pins σ H s)(k:∀b u,s.heap.get? b=some u->h'.get? b=some u)(hp:s.heap.objs.size<=f)(e:h'.get? f=some o):Inv X pins σ (upd H f (.iH o (.own f))) {s with heap:=h',toks:=t'}:=
 I.laid k hp ⟨e,o,e⟩
def yk(I:Inv X pins σ H s){c P:Addr}(hx:x∈dC)(ht:W.tabIn X.K x=some (c,P))(hcode:X.env.code=.ref c)(hq:X.env.qual=x++".<locals>."){pos:Pos}
  (hdef:defaultsOf params X.env=([],[])) (hcl:closureFor scope X.env=pure cl)
  (h:∀f c' pm ctv H1 s1,dN H H1->Inv X pins σ H1 s1->jh H1 f ((x++".<locals>.")++"<lambda>") params body scope cl c' pm ctv->Q (.ref f) s1) :
  wpAny (model X.prog X.w) X.A (eval (.Lambda params body scope pos) X.env) Q E s:=by
 have hm:(c,P,(x++".<locals>.")++"<lambda>")∈bO X.K:=Nx.mpr ⟨x,hx,by rw[ht];rfl⟩
 obtain⟨more,hP⟩:=(I.ok.tabs.un I.base) _ hm;have C:W.CodeHd s.heap c P:=(I.ok.mod.codes _ hm).keeps I.bk;obtain⟨qs,eP,tr,fa⟩:=I.aL P _ hP;have hns:=I.ok.mod.glob.keeps I.bk;have hgP:mainGlobals≠P:=λz=>by
  obtain⟨o,es,ep,e,_⟩:=I.ok.mod.glob;have:=(I.bs _ _ e).2;rw[z,hP] at this;cases this
 have hb:s.heap.BuiltinsAt X.mg P:=by
  obtain⟨bm,ob,b1,b2,b3,b4,b5⟩:=I.ok.mod.bm;refine⟨bm,ob,b1,b2,λz=>?_,λz=>?_,I.bk _ _ b3,b4,b5⟩
  ·obtain⟨o,es,ep,e,hd,_⟩:=I.ok.mod.glob;rw[z,e] at b3;cases b3;rw[hd] at b5;cases b5.2
  ·have:=(I.bs _ _ b3).2;rw[z,hP] at this;cases this
 refine W.kla_eval hdef ?_;rw[hq]
 cases ca:codeAmong pos qs.toList with
 |some cv =>
  have il:=fa pos cv ca;rw[t4] at il;obtain⟨c',oc,vs,t,rfl,e2,e3⟩:=il;refine W.kla_makeFunctionHit hcl I.ok.glob hns hcode C eP tr ca hb λctv h' tk hk hsz=>?_;have n0:H h'.objs.size=none:=I.aL.fresh hsz;have J:=I.zZ (f:=h'.objs.size) (t':=tk) (h':=h'.push {cls:=.type "function",data:=.func (W.kla_fn "<lambda>" ((x++".<locals>.")++"<lambda>") params body scope cl ((X.mg "__name__").getD .none) (.ref c') ctv)}) (λb u e=>Kk _ (hk b u e)) hsz (K1 _ rfl);exact h _ c' _ ctv _ _ (.more .refl n0) J ⟨aa,c',oc,vs,t,rfl,by rw[ae (aq e2 n0)];exact e2,e3⟩
 |none =>
  refine W.kla_makeFunction hcl I.ok.glob hns hcode C eP tr ca hgP hb λc' ctv h' tk hx2 hge hlt hrec htb=>?_;obtain⟨c2,oc,vs,t,e2,hoc,hd,hv⟩:=hrec;cases e2;have nP:P≠c':=λz=>absurd (Kz eP) (by rw[z];exact O2.mpr hge)
  have n1:H c'=none:=I.aL.fresh hge;have keep:∀b u,b≠P->s.heap.get? b=some u->h'.get? b=some u:=λb u hb' e=>hx2 b u hb' e;have H1ne:∀b u,H b=some u->upd H c' (.iH oc (.own c')) b=some u:=λb u e=>by rw[ae (aq e n1)];exact e
  have hoP:∀y,H P≠some (.own y):=λy z=>by rw[hP] at z;cases z
  have J1:Inv X pins σ (upd H c' (.iH oc (.own c'))) {s with heap:=h',toks:=tk}:=by
   refine I.un ⟨λb o e n _ _=>keep b o (λz=>by rw[z,hP] at n;cases n) e,λb o e n _ _=>⟨o.slots,keep b o (λz=>by rw[z,hP] at n;cases n) e⟩,λb o e n _=>?_,λb o e _=>?_,λb xs e=>H1ne b _ e,λb o u e=>H1ne b _ e,λb ps e=>⟨#[],by rw[H1ne b _ e,Oa]⟩⟩ λb u e=>?_
   ·rw[ae (λz=>absurd (Kz e) (by rw[z];exact O2.mpr hge))];exact n
   ·by_cases z:b=P
    ·rw[z];exact⟨_,htb⟩
    ·exact⟨o,keep b o z e⟩
   ·by_cases z:b=c'
    ·subst z;rw[aa] at e;cases e;exact⟨hoc,oc,hoc⟩
    ·rw[ae z] at e;by_cases z2:b=P
     ·subst z2;rw[hP] at e;cases e;refine⟨_,htb,by rw[MB];exact jk _ tr,λp cv hc=>?_⟩
      rw[MB] at hc;rcases mP _ tr hc with q|q
      ·obtain⟨c2,oc2,vs2,t2,g1,g2,g3⟩:=fa p cv q;exact⟨c2,oc2,vs2,t2,g1,H1ne _ _ g2,g3⟩
      ·rw[t4];exact⟨c',oc,vs,t,q,aa,hd,hv⟩
     ·refine (I.aL b u e).iC (λc v hc q=>keep c v ?_ q) (λc q=>H1ne c _ q) (λc xs q=>H1ne c _ q) λc _ _ q=>H1ne c _ q;rcases hc with rfl|hc
      ·exact z2
      ·exactλz3=>hoP b (by rw[<- z3];exact hc)
  have n2:upd H c' (.iH oc (.own c')) h'.objs.size=none:=J1.aL.fresh (Kp _);have J:=J1.zZ (f:=h'.objs.size) (t':=tk) (h':=h'.push (W.kla_obj "<lambda>" ((x++".<locals>.")++"<lambda>") params body scope cl ((X.mg "__name__").getD .none) c' ctv)) (λb u e=>Kk _ e) (Kp _) (K1 _ rfl);exact h _ c' _ ctv _ _ (.more (.more .refl n1) n2) J ⟨aa,c',oc,vs,t,rfl,by rw[ae (aq aa n2)];exact aa,hd,hv⟩
end
section
variable {α β:Type}
def hZ(p:Int×α):List (Int×α)->List (Int×α)
 |[]=>[p]
 |q::r=>if p.1<=q.1 then p::q::r else q::hZ p r
def dW:List (Int×α)->List (Int×α)
 |[]=>[]
 |p::r=>hZ p (dW r)
abbrev FW(l:List (Int×α)):Prop:=l.Pairwise λp q=>p.1<=q.1
def atK(a:Int)(l:List (Int×α)):List (Int×α):=l.filter λp=>decide (p.1=a)
theorem fY(p:Int×α):∀l,(hZ p l).Perm (p::l)
 |[]=>.refl _
 |q::r=>by
  unfold hZ;split
  ·exact .refl _
  ·exact ((fY p r).cons q).trans (List.Perm.swap p q r)
theorem dE:∀l:List (Int×α),(dW l).Perm l
 |[]=>.refl _
 |p::r=>(fY p _).trans ((dE r).cons p)
theorem t8{p:Int×α}:∀{l:List (Int×α)},FW l->FW (hZ p l)
 |[],_=>OJ _ _
 |q::r,h=>by
  obtain⟨h1,h2⟩:=K_.mp h;unfold hZ;split
  ·rename_i c;exact K_.mpr ⟨λz hz=>by
    rcases Kv.mp hz with rfl|hz
    ·exact c
    ·exact Int.le_trans c (h1 z hz),h⟩
  ·rename_i c;refine K_.mpr ⟨λz hz=>?_,t8 h2⟩;rcases Kv.mp ((fY p r).mem_iff.mp hz) with rfl|hz
   ·lia
   ·exact h1 z hz
theorem p7:∀l:List (Int×α),FW (dW l)
 |[]=>List.Pairwise.nil
 |_::r=>t8 (p7 r)
def bp(a:Int)(p:Int×α)(l:List (Int×α)):atK a (p::l)=if p.1=a then p::atK a l else atK a l:=by
 unfold atK;rw[List.filter_cons];by_cases z:p.1=a
 ·rw[Ku z,Ku (KY z)]
 ·rw[Ko z,Ko (by simp[z])]
theorem tY{a:Int}{p:Int×α}:∀{l:List (Int×α)},atK a (hZ p l)=atK a (p::l)
 |[]=>rfl
 |q::r=>by
  unfold hZ;split
  ·rfl
  ·rename_i c;rw[bp,tY,bp,bp,bp];by_cases z:p.1=a
   ·have z2:¬ q.1=a:=by lia
    simp only[z,z2,MT,Mz]
   ·simp only[z,Mz]
theorem qc{a:Int}:∀l:List (Int×α),atK a (dW l)=atK a l
 |[]=>rfl
 |p::r=>by
  show atK a (hZ p (dW r))=_;rw[tY,bp,bp,qc r]
theorem ka{a:Int}:∀{l:List (Int×α)},(∀p∈l,a<p.1)->atK a l=[]
 |[],_=>rfl
 |p::r,h=>by
  have:=h p (Kw ..);rw[bp,Ko (by lia),ka λq hq=>h q (Kx _ hq)]
theorem mF:∀{l m:List (Int×α)},FW l->FW m->(∀a,atK a l=atK a m)->l=m
 |[],[],_,_,_=>rfl
 |[],q::m,_,_,h=>by
  have:=h q.1;rw[bp,Ku rfl] at this;cases this
 |p::l,[],_,_,h=>by
  have:=h p.1;rw[bp,Ku rfl] at this;cases this
 |p::l,q::m,hl,hm,h=>by
  obtain⟨l1,l2⟩:=K_.mp hl;obtain⟨m1,m2⟩:=K_.mp hm;have e:p.1=q.1:=by
   rcases Int.lt_trichotomy p.1 q.1 with z|z|z
   ·have q1:=h p.1;rw[bp,Ku rfl,bp,Ko (by lia),ka (l:=m) λr hr=>by have:=m1 r hr;lia] at q1
    cases q1
   ·exact z
   ·have q1:=h q.1;rw[bp,Ko (by lia),bp,Ku rfl,ka (l:=l) λr hr=>by have:=l1 r hr;lia] at q1
    cases q1
  have q1:=h p.1;rw[bp,Ku rfl,bp,Ku e.symm] at q1;obtain⟨q2,q3⟩:=List.cons.inj q1;subst q2;congr 1;refine mF l2 m2 λa=>?_;have q4:=h a;rw[bp,bp] at q4;by_cases z:p.1=a
  ·rw[Ku z,Ku z] at q4;exact (List.cons.inj q4).2
  ·rw[Ko z,Ko z] at q4;exact q4
def oV{l m:List (Int×α)}(hm:FW m)(h:∀a,atK a m=atK a l):m=dW l:=mF hm (p7 l) λa=>by rw[h a,qc]
abbrev FV(R:α->β->Prop):List (Int×α)->List (Int×β)->Prop:=Paired λp q=>p.1=q.1/\R p.2 q.2
def yt{R:α->β->Prop}{p:Int×α}{q:Int×β}(h:p.1=q.1/\R p.2 q.2){l:List (Int×α)}{m:List (Int×β)}(k:FV R l m):FV R (hZ p l) (hZ q m):=by
 induction k with
 |nil=>exact .cons h .nil
 |cons r t ih =>
  unfold hZ;split
  ·rename_i z;rw[Ku (by rw[<- h.1,<- r.1];exact z)]
   exact .cons h (.cons r t)
  ·rename_i z;rw[Ko (by rw[<- h.1,<- r.1];exact z)]
   exact .cons r ih
def vt{R:α->β->Prop}{l:List (Int×α)}{m:List (Int×β)}(k:FV R l m):FV R (dW l) (dW m):=by
 induction k with
 |nil=>exact .nil
 |cons r t ih=>exact yt r ih
def xN{R:α->β->Prop}{ks:List Int}{l:List α}{m:List β}(k:Paired R l m):FV R (ks.zip l) (ks.zip m):=by
 induction k generalizing ks with
 |nil=>rw[List.zip_nil_right,List.zip_nil_right];exact .nil
 |cons r t ih =>
  cases ks with
  |nil=>exact .nil
  |cons k ks=>exact .cons ⟨rfl,r⟩ ih
def zA{R:α->β->Prop}{l:List (Int×α)}{m:List (Int×β)}(k:FV R l m):Paired R (l.map (·.2)) (m.map (·.2)):=by
 induction k with
 |nil=>exact .nil
 |cons r t ih=>exact .cons r.2 ih
def js(ks:List Int)(l:List α):List α:=(dW (ks.zip l)).map (·.2)
def tu{R:α->β->Prop}{ks:List Int}{l:List α}{m:List β}(h:Paired R l m):Paired R (js ks l) (js ks m):=zA (vt (xN h))
def tI{ks:List Int}{l:List α}(h:ks.length=l.length):(js ks l).length=l.length:=by
 unfold js;rw[Ki,(dE _).length_eq,OP,h,M4]
def kE{ks:List Int}{l:List α}(h:ks.length=l.length):(js ks l).Perm l:=by
 have h2:((ks.zip l).map (·.2))=l:=OA (by lia)
 have h3:=(dE (ks.zip l)).map (·.2);rw[h2] at h3;exact h3
end
theorem ji:∀{xs:List V} {us:List Value},Vals xs us->Paired RelV xs us
 |_,_,.nil=>.nil
 |_,_,.cons r t=>.cons r (ji t)
theorem jm:∀{xs:List V} {us:List Value},Paired RelV xs us->Vals xs us
 |_,_,.nil=>.nil
 |_,_,.cons r t=>.cons r (jm t)
theorem tN:∀{us:List Value} {ns:List Int},IntsAre us ns->∀{i:Nat},i<ns.length->∃t,us.getD i Value.none=.int (ns.getD i 0) t
 |_,_,.cons n t h,0,_=>⟨t,rfl⟩
 |_,_,.cons n t h,i+1,hi=>tN h (i:=i) (by simpa using hi)
theorem yz{p:List Nat}(hl:kz.length=us.length)(hp:p.Perm (List.range us.length))(hr:p.Pairwise (SP.R λi=>kz.getD i 0)):p.map (λi=>us.getD i Value.none)=js kz us:=by
 have ez:(List.range us.length).map (λi=>(kz.getD i 0,us.getD i Value.none))=kz.zip us:=by
  apply M6
  ·rw[Ki,KZ,OP,hl,M4]
  ·intro i h1 h2;rw[Ki,KZ] at h1;rw[OB,Of,List.getElem_zip];simp[h1,hl]
 have e1:p.map (λi=>(kz.getD i 0,us.getD i Value.none))=dW (kz.zip us):=by
  refine oV ?_ λa=>?_
  ·exact Mi.mpr (hr.imp λh=>h.le)
  ·have fl:∀l:List Nat,atK a (l.map λi=>(kz.getD i 0,us.getD i Value.none))=(l.filter λi=>decide (kz.getD i 0=a)).map λi=>(kz.getD i 0,us.getD i Value.none):=λl=>by
    unfold atK;rw[List.filter_map];rfl
   rw[<- ez,fl,fl];congr 1;refine OC (le:=(· < ·)) (λa b _ _ h g=>absurd h (Nat.lt_asymm g)) ?_ (NB.filter _) (hp.filter _);rw[List.pairwise_filter];refine hr.imp λ{i j} h hi hj=>?_;have hi:=Lr hi;have hj:=Lr hj;rcases h with h|h
   ·exfalso;have h':kz.getD i 0<kz.getD j 0:=h;lia
   ·exact h.2
 unfold js;rw[<- e1,Mr];rfl
section
variable {X:Cx} {pins:List (Addr×Obj)} {σ:St} {H:Hp} {s:Shared} {E:Value->Shared->Prop}
def Inv.take{D:Addr}{ob:Obj}{o:HO}{t':Nat}(I:Inv X ((D,ob)::pins) σ H s)(hs0:X.s₀.heap.objs.size<=D)(hnp:∀p∈X.pn++pins,p.1≠D)(k:∀b u,b≠D->s.heap.get? b=some u->h'.get? b=some u)(new:aN X.prog X.w (upd H D o) h' D o):
  Inv X pins σ (upd H D o) {s with heap:=h',toks:=t'}:=by
 obtain⟨g1,g2,g3,g4,g5⟩:=I.pin (D,ob) (KG _ (Kw ..));have I0:Inv X pins σ H s:=⟨I.ok,I.os,I.bare,I.base,I.loc,I.cell,I.free,I.cw,λp hp=>I.pin p ((Ld.mp hp).elim (λz=>LD _ z) λz=>KG _ (Kx _ z)),I.aL,I.len⟩;have ne:∀b u,H b=some u->b≠D:=λb u e=>aq e g2;refine I0.step (g':=s.gens) (d':=s.drawn) (ch:=[D]) (λb hb=>?_) (λb o' _ _ hc e _=>k b o' (λz=>hc (by rw[z];exact K0.mpr rfl)) e) (λb o' _ _ hc e _=>⟨o'.slots,k b o' (λz=>hc (by rw[z];exact K0.mpr rfl)) e⟩) (λb o' hc e n=>by rw[ae (λz=>hc (by rw[z];exact K0.mpr rfl))];exact n)
  (λb o' hc e=>⟨o',k b o' (λz=>hc (by rw[z];exact K0.mpr rfl)) e⟩) (λb xs e=>by rw[ae (ne b _ e)];exact e) (λb o' u e=>by rw[ae (ne b _ e)];exact e) (λb ps e=>⟨#[],by rw[ae (ne b _ e),e,Oa]⟩) (λm hm=>?_) (λb u e=>?_) I.bare
 ·rw[K0.mp hb];refine⟨.inr hs0,g3,λx c e z=>?_,hnp⟩;obtain⟨v,o',ho',hd⟩:=I.cell x c e;rw[z,g1] at ho';cases ho';exact g5 v hd
 ·obtain⟨o',es,ep,ho',r⟩:=hm;exact⟨o',es,ep,k _ _ (Lk g3) ho',r⟩
 ·by_cases z:b=D
  ·subst z;rw[aa] at e;cases e;exact new
  ·rw[ae z] at e;refine (I.aL b u e).iC (λc v hc q=>k c v ?_ q) (λc q=>by rw[ae (ne c _ q)];exact q) (λc xs q=>by rw[ae (ne c _ q)];exact q) λc _ _ q=>by rw[ae (ne c _ q)];exact q
   rcases hc with rfl|hc
   ·exact z
   ·exact ne c _ hc
def uj{A:Around}{D:Nat}{st:SortSt}
  (I:Inv X ((D,seqObj "list" #[] e1)::pins) σ (upd H kS (.lst (kz.map V.int))) s) (hkS:H kS=none) (hD:H D=none) (hkD:kS≠D) (hs0:X.s₀.heap.objs.size<=D) (hnp:∀p∈X.pn++pins,p.1≠D)
  (hv:Vals xs us) (hlen:kz.length=us.length) (h64:us.length<64) (ho:((arrOf st).map (·.2)).toList=js kz us) (hfl:failedOf st=none)
  (h:∀s',Inv X pins σ (upd (upd H kS (.lst [])) D (.lst (js kz xs))) s'->P (.done (.ret .none)) s') :
  wpAny (model X.prog X.w) A (ksk_tail D false e1 (.ref kS) st) P E s:=by
 obtain⟨_,its,n,vr,ek⟩:=I.aL kS _ aa;have hz:its.toArray.size<=sizeLine:=by
  rw[Kq,<- vr.length,Ki,hlen,L7];lia
 have pD:=I.pin _ (KG _ (Kw ..));have hout:((arrOf st).map (·.2)).size=us.length:=by
  rw[<- La,ho,tI hlen]
 have s1:=LK s.heap kS (Obj.mapSeq λ_=>(#[]:Array Value));obtain⟨c1,hc1⟩:∃c,(s.heap.update kS (Obj.mapSeq λ_=>(#[]:Array Value))).get? kS=some (seqObj "list" #[] c):=⟨_,Nu ek λ_=>#[]⟩;have J1:Inv X ((D,seqObj "list" #[] e1)::pins) σ (upd H kS (.lst [])) {s with heap:=s.heap.update kS (Obj.mapSeq λ_=>(#[]:Array Value))}:=by
  have J:=I.write (x:=kS) (e:=kS) (o:=.lst []) (t':=s.toks) (h':=s.heap.update kS (Obj.mapSeq λ_=>(#[]:Array Value))) (by rw[aa];trivial) (.inl rfl) (λb u hb q=>(s1.2 b hb).trans q) ⟨_,hc1⟩ ⟨K4 _,[],c1,.nil,hc1⟩
  rw[sR] at J;exact J
 have pD1:=J1.pin _ (List.mem_append_right _ (List.mem_cons_self ..));have s2:=Heap.SameBut.update (s.heap.update kS (Obj.mapSeq λ_=>(#[]:Array Value))) D (Obj.mapSeq λ_=>(arrOf st).map (·.2));obtain⟨c2,hc2⟩:∃c,((s.heap.update kS (Obj.mapSeq λ_=>(#[]:Array Value))).update D (Obj.mapSeq λ_=>(arrOf st).map (·.2))).get? D=some (seqObj "list" ((arrOf st).map (·.2)) c):=⟨_,get?_update_seq pD1.1 λ_=>(arrOf st).map (·.2)⟩;have vB:Vals (js kz xs) (js kz us):=jm (tu (ji hv));unfold ksk_tail;dsimp only;refine wpAny_bind (listUpdate_at ek rfl ?_ hz (Nat.zero_le _));refine wpAny_bind (wpAny_letGo ?_);refine wpAny_bind (seqEpoch_at pD1.1 rfl ?_);refine wpAny_bind (listUpdate_at pD1.1 rfl ?_ (Nat.zero_le _) (by show ((arrOf st).map (·.2)).size<=_;rw[hout,sizeLine_eq];lia))
 rw[hfl];simp only[Ov,Mq,Mz];refine Kt (h _ (J1.take hs0 hnp (λb u hb q=>(s2.2 b hb).trans q) ⟨?_,js kz us,c2,vB,?_⟩))
 ·rw[vB.length,tI hlen,L7];lia
 ·rw[<- ho,Nh];exact hc2
def EG{A:Around}{D:Nat}{us:List Value}{kz:List Int}{keys:Array Value}
  (I:Inv X ((D,seqObj "list" #[] e1)::pins) σ (upd H kS (.lst (kz.map V.int))) s) (hkS:H kS=none) (hD:H D=none) (hkD:kS≠D) (hs0:X.s₀.heap.objs.size<=D) (hnp:∀p∈X.pn++pins,p.1≠D)
  (hv:Vals xs us) (hlen:kz.length=us.length) (h64:us.length<64) (hk:IntsAre keys.toList kz)
  (h:∀s',Inv X pins σ (upd (upd H kS (.lst [])) D (.lst (js kz xs))) s'->P (.done (.ret .none)) s') :
  wpAny (model X.prog X.w) A (ksk_end D false us.toArray e1 (.ref kS) keys) P E s:=by
 have hsz:keys.size=us.length:=by
  have z:=hk.length;rw[La] at z;exact z.trans hlen
 have hzs:(keys.zip us.toArray).size=us.length:=by
  rw[Array.size_zip,hsz,Kq,M4]
 unfold ksk_end;dsimp only;rw[if_neg Bool.false_ne_true,if_neg Bool.false_ne_true];by_cases h2:us.toArray.size<2
 ·rw[if_pos h2,if_pos h2];refine wpAny_bind (wpAny_pure ?_);rw[StateT.run_pure];refine wpAny_bind (wpAny_pure ?_);dsimp only;refine uj I hkS hD hkD hs0 hnp hv hlen h64 ?_ rfl h;rw[List.size_toArray] at h2;have:=yz (us:=us) (kz:=kz) (p:=List.range us.length) hlen (List.Perm.refl _) (by
   rcases us with _|⟨x,_|⟨y,r⟩⟩
   ·exact .nil
   ·simp
   ·exfalso;simp only[K2] at h2;lia)
  rw[<- this];show ((keys.zip us.toArray).map (·.2)).toList=_;rw[Array.toList_map,Array.toList_zip,OA (by simp only[La,Kq];lia)]
  apply M6
  ·simp
  ·intro i h1 h2;have h1':i<us.length:=h1;simp[h1']
 ·rw[Ko h2,Ko h2];rw[Kq] at h2;rw[ksk_kind hk (by lia)]
  refine Kh (Kt ?_);have ek:keys=keys.toList.toArray:=(Nh).symm;have hkl:keys.toList.length=us.length:=by rw[La,hsz]
  have hat:∀i,i<us.length->∃t,keys.toList.getD i Value.none=.int (kz.getD i 0) t:=λi hi=>tN hk (by rw[hlen];exact hi)
  generalize keys.toList=ks at *;subst ek;refine Kh (Lh (W.kat_run (ks:=ks) (vs:=us) (κ:=oneType') (Q:=λst' s'=>s'=s/\failedOf st'=none/\((arrOf st').map (·.2)).toList=js kz us)
   (G:=λp s'=>s'=s/\p.toList.Perm (List.range us.length)/\p.toList.Pairwise (SP.R λi=>kz.getD i 0)) hkl (by lia) h64 (λp st' s' a1 a2 a3 a4=>⟨a4.1,a3,by rw[W.kat_snds hkl a2];exact yz hlen a4.2.1 a4.2.2⟩) ?_) ?_ λ_ _ e=>e)
  ·refine SP.tH (k:=λi=>kz.getD i 0) (I:=λs'=>s'=s) (λi j C s' hi hj hI hC=>?_) (by lia) rfl λp s' hp hr hI=>⟨hI,hp,hr⟩
   subst hI;obtain⟨t1,e1⟩:=hat i hi;obtain⟨t2,e2⟩:=hat j hj;unfold W.kas_ask;rw[e1,e2];exact W.kat_lt_int (hC _ rfl)
  rintro⟨⟨⟩,st'⟩ s' ⟨rfl,hf,ho⟩;dsimp only;exact uj I hkS hD hkD hs0 hnp hv hlen h64 ho hf h
theorem kB:∀{us:List Value} {ns:List Int},Vals (ns.map V.int) us->IntsAre us ns
 |_,[],.nil=>.nil
 |_,n::ns,.cons ⟨t,e⟩ r=>by subst e;exact .cons n t (kB r)
theorem Cq{A:Around}{D:Nat}{f:Value}
  (I:Inv X ((D,seqObj "list" #[] e1)::pins) σ (upd H kS (.lst [])) s) (hkS:H kS=none) (hD:H D=none) (hkD:kS≠D) (hs0:X.s₀.heap.objs.size<=D) (hnp:∀p∈X.pn++pins,p.1≠D)
  (hv:Vals xs us) (hlen:kz.length=us.length) (h64:us.length<64)
  (turn:∀(i:Nat) (u:Value) (k:Int),us[i]?=some u->kz[i]?=some k->∀pins' H' s',dN H H'->Inv X pins' σ H' s'->wpAny (model X.prog X.w) A (call f [u]) (λr s2=>(∃t,r=.int k t)/\Inv X pins' σ H' s2) (λ_ _=>False) s')
  (h:∀s',Inv X pins σ (upd (upd H kS (.lst [])) D (.lst (js kz xs))) s'->P (.done (.ret .none)) s') :
  wpAny (model X.prog X.w) A (ksk_rest D f false us.toArray e1 (.ref kS)) P E s:=by
 unfold ksk_rest;refine Kh (Pp ?_)
 first
  |rw[List.forIn_toArray]
  | (rw[<- Array.forIn_toList];simp only[NW])
 refine Kh (ksk_fold (λi s'=>Inv X ((D,seqObj "list" #[] e1)::pins) σ (upd H kS (.lst ((kz.take i).map V.int))) s') us 0 s I ?one ?all)
 case one =>
  intro j u s' hu J;rw[N2] at J ⊢;have hj:j<us.length:=(Kl.mp hu).1;obtain⟨k,hkj⟩:∃k,kz[j]?=some k:=⟨_,Kg (by lia)⟩
  refine wpAny_bind (wpAny_attempt (wpAny_mono (turn j u k hu hkj _ _ s' (.more .refl hkS) J) (λr s2 hr=>?_) λ_ _ z=>z.elim));obtain⟨⟨t,rfl⟩,J2⟩:=hr;dsimp only;obtain⟨_,its,n,vr,ek⟩:=J2.aL kS _ aa;have lenI:its.length<=us.length:=by
   rw[<- vr.length,Ki,KD];lia
  have s1:=LK s2.heap kS (Obj.mapSeq (·.push (.int k t)));obtain⟨c1,hc1⟩:∃c,(s2.heap.update kS (Obj.mapSeq (·.push (.int k t)))).get? kS=some (seqObj "list" (its.toArray.push (.int k t)) c):=⟨_,Nu ek (·.push (.int k t))⟩;have et:kz.take (j+1)=kz.take j++[k]:=by
   rw[List.take_add_one,hkj];rfl
  have vr2:Vals ((kz.take (j+1)).map V.int) (its++[.int k t]):=by
   rw[et,K7];exact vr.append (.cons ⟨t,rfl⟩ .nil)
  refine Kh (ND ek rfl ?_ (by rw[Kq,L7];lia) (by show (its.toArray.push (.int k t)).size<=_;rw[Array.size_push,Kq,L7];lia))
  refine Kt ⟨rfl,?_⟩;have J3:=J2.write (x:=kS) (e:=kS) (o:=.lst ((kz.take (j+1)).map V.int)) (t':=s2.toks) (h':=s2.heap.update kS (Obj.mapSeq (·.push (.int k t)))) (by rw[aa];trivial) (.inl rfl) (λb u hb q=>(s1.2 b hb).trans q) ⟨_,hc1⟩
   ⟨by rw[Ki,KD,L7];lia,its++[.int k t],c1,vr2,by rw[hc1,List.push_toArray]⟩
  rw[sR] at J3;exact J3
 case all =>
  intro s' J;have ez:kz.take (0+us.length)=kz:=Lj (by lia)
  have J':Inv X ((D,seqObj "list" #[] e1)::pins) σ (upd H kS (.lst (kz.map V.int))) s':=by
   rw[<- ez];rw[ez];simpa only[ez] using J
  obtain⟨_,its,n,vr,ek⟩:=J'.aL kS _ aa;refine Kh (NN ek rfl ?_);exact EG J' hkS hD hkD hs0 hnp hv hlen h64 (by rw[NW];exact kB vr) h
theorem AI{A:Around}{D:Addr}{n0:Nat}{h0:Heap}{f:Value}
  (I:Inv X pins σ H s) (k0:∀b o,s.heap.get? b=some o->h0.get? b=some o) (hDs:s.heap.objs.size<=D) (ho:h0.get? D=some (seqObj "list" us.toArray n0)) (hv:Vals xs us) (hlen:kz.length=us.length) (h64:us.length<64)
  (turn:∀(i:Nat) (u:Value) (k:Int),us[i]?=some u->kz[i]?=some k->∀pins' H' s',dN H H'->Inv X pins' σ H' s'->wpAny (model X.prog X.w) A (call f [u]) (λr s2=>(∃t,r=.int k t)/\Inv X pins' σ H' s2) (λ_ _=>False) s')
  (h:∀H' s',dN H H'->H' D=none->Inv X pins σ (upd H' D (.lst (js kz xs))) s'->P (.done (.ret .none)) s') :
  wpAny (model X.prog X.w) A (ksk_tree D f false) P E {s with heap:=h0}:=by
 have hsz0:D<h0.objs.size:=Kz ho;have s1:=LK h0 D (Obj.mapSeq λ_=>(#[]:Array Value));obtain⟨e1,ho1⟩:∃e,(h0.update D (Obj.mapSeq λ_=>(#[]:Array Value))).get? D=some (seqObj "list" #[] e):=⟨_,Nu ho λ_=>#[]⟩;have hkz:((h0.update D (Obj.mapSeq λ_=>(#[]:Array Value))).push (seqObj "tuple" us.toArray 0)).objs.size=h0.objs.size+1:=by
  rw[size_push',O7]
 have nD:∀b o,s.heap.get? b=some o->b≠D:=λb o e=>KH (KI (Kz e) hDs);have keep:∀b o,s.heap.get? b=some o->(((h0.update D (Obj.mapSeq λ_=>(#[]:Array Value))).push (seqObj "tuple" us.toArray 0)).push (seqObj "list" #[] 0)).get? b=some o:=λb o e =>
  Kk _ (Kk _ ((s1.2 b (nD b o e)).trans (k0 b o e)))
 have hle:s.heap.objs.size<=h0.objs.size+1:=Km hDs (Nat.le_succ_of_le (Me hsz0));have hkD:h0.objs.size+1≠D:=LX (MP hsz0);have hkS:H (h0.objs.size+1)=none:=I.aL.fresh hle;have hD:H D=none:=I.aL.fresh hDs;have hnp:∀p∈X.pn++pins,p.1≠D:=λp hp=>nD _ _ (I.pin p hp).1;have J0:Inv X pins σ (upd H (h0.objs.size+1) (.lst [])) {s with heap:=((h0.update D (Obj.mapSeq λ_=>(#[]:Array Value))).push (seqObj "tuple" us.toArray 0)).push (seqObj "list" #[] 0)}:=
  I.laid (t':=s.toks) keep hle ⟨K4 _,[],0,.nil,by rw[<- hkz];exact K1 _ rfl⟩
 have J:Inv X ((D,seqObj "list" #[] e1)::pins) σ (upd H (h0.objs.size+1) (.lst [])) {s with heap:=((h0.update D (Obj.mapSeq λ_=>(#[]:Array Value))).push (seqObj "tuple" us.toArray 0)).push (seqObj "list" #[] 0)}:=by
  refine J0.nJ λp hp=>?_;rcases Kv.mp hp with rfl|hp
  ·exact⟨Kk _ (Kk _ ho1),by rw[ae (Lk hkD)];exact hD,λz=>absurd I.lt (by rw[<- z];exact O2.mpr hDs),I.HH hDs,λv z=>by cases z⟩
  ·exact J0.pin p (KG _ hp)
 unfold ksk_tree;refine Kh (NN ho rfl ?_);refine Kh (ND ho rfl ?_ (by rw[Kq,L7];lia) (K4 _))
 refine Kh (seqEpoch_at ho1 rfl ?_);refine Kh (Pj ?_ (by show us.length<=_;rw[L7];lia))
 refine Kh (Nm ?_ (K4 _));refine Lu ?_;show wpAny _ _ (ksk_rest D f false us.toArray e1 (.ref ((h0.update D (Obj.mapSeq λ_=>(#[]:Array Value))).push (seqObj "tuple" us.toArray 0)).objs.size)) _ _ _;rw[hkz];exact Cq J hkS hD hkD (Km I.sz hDs) hnp hv hlen h64 turn λs' K=>h _ s' (.more .refl hkS) (by rw[ae (Lk hkD)];exact hD) K
end
def By(q:Str)(params:Arguments)(body:Expr)(scope:Scope)(cl:List (Str×Addr)):TE:=λ_ H Q=>∀f c' pm ctv H1,dN H H1->jh H1 f q params body scope cl c' pm ctv->Q (.ref f) H1
def Dy{c P:Addr}(hx:x∈dC)(ht:W.tabIn X.K x=some (c,P))(hcode:X.env.code=.ref c)(hq:X.env.qual=x++".<locals>."){pos:Pos}
  (hdef:defaultsOf params X.env=([],[])) (hcl:closureFor scope X.env=pure cl):PE X (.Lambda params body scope pos) (By ((x++".<locals>.")++"<lambda>") params body scope cl):=λpins s σ H Q I h =>
 yk I hx ht hcode hq hdef hcl λf c' pm ctv H1 s1 g J l=>⟨.ref f,H1,J,rfl,h f c' pm ctv H1 g l⟩
section
variable {X:Cx} {pins:List (Addr×Obj)} {σ:St} {H:Hp} {s:Shared} {E:Value->Shared->Prop}
def yN(X:Cx)(A:Around)(s:Shared)(l:Addr)(xs:List V):Prop:=∀(Q:List Value->Shared->Prop) (E:Value->Shared->Prop),(∀h0 tk us,(∀b o,s.heap.get? b=some o->h0.get? b=some o)->s.heap.objs.size<=h0.objs.size->Vals xs us->Q us {s with heap:=h0,toks:=tk})->wpAny (model X.prog X.w) A (collect (.ref l)) Q E s
def vw{A:Around}{l:Addr}{Q:VK}(I:Inv X pins σ H s)(hcol:yN X A.in1 s l xs)(hlen:kz.length=xs.length)(h64:xs.length<64)
  (turn:∀(i:Nat) (v:V) (u:Value) (k:Int),xs[i]?=some v->RelV v u->kz[i]?=some k->∀pins' H' s',dN H H'->Inv X pins' σ H' s'->wpAny (model X.prog X.w) A.in1.in1 (call (.ref f) [u]) (λr s2=>(∃t,r=.int k t)/\Inv X pins' σ H' s2) (λ_ _=>False) s')
  (h:∀H' D,dN H H'->H' D=none->Q (.ref D) (upd H' D (.lst (js kz xs)))) :
  wpAny (model X.prog X.w) A (call (.builtin "sorted") [.ref l] [(Str.ofString "key",.ref f)]) (EP X pins σ Q) E s:=by
 refine call_function_entry_kw kind_sorted plain_sorted entry_sorted (ksk_s1 _ _) ?_;unfold Builtin.«sorted»;refine Kh (m:=checkCount "sorted" 1 1 _) (Kt (Kh (hcol _ _ λh0 tk us k0 hz hv=>?_)));have ul:us.length=xs.length:=hv.length.symm;refine Kh (Nm ?_ (by rw[ul,L7];lia))
 have hoL:(h0.push (seqObj "list" us.toArray 0)).get? h0.objs.size=some (seqObj "list" us.toArray 0):=K1 _ rfl;refine Kh (Lu (wpAny_call_entry_kw slot_list_sort ⟨_,hoL,rfl⟩ entry_list_sort ?srt (ksk_l1 _ _)))
 case srt =>
  show wpAny _ A.in1.in1 (Builtin.«list.sort» ⟨[.ref h0.objs.size],[(Str.ofString "key",.ref f)]⟩) _ _ _;rw[ksk_t1];refine AI (s:={s with toks:=tk}) (h0:=h0.push (seqObj "list" us.toArray 0)) (I.tok tk) (λb o e=>Kk _ (k0 b o e)) hz hoL hv (by rw[ul];exact hlen) (by rw[ul];exact h64)
   (λi u k hu hk pins' H' s' g J=>?_) λH' s' g n J=>⟨_,rfl,?_⟩
  ·have hi:i<xs.length:=by rw[<- ul];exact (Kl.mp hu).1
   obtain⟨u',hu',rv⟩:=hv.get (Kg hi);rw[hu] at hu';cases hu';exact turn i _ u k (Kg hi) rv hk pins' H' s' g J
  ·exact Kt ⟨_,rfl,.ref h0.objs.size,_,J,rfl,h H' _ g n⟩
def yC(src:Hp->Addr->List V->Prop)(pre:V->Int->Hp->St->Prop)(fr:St->St)(t:TA):TE:=λσ H Q=>t σ H λvs H1=>∃l xs kz,vs=[.ref l]/\src H1 l xs/\kz.length=xs.length/\xs.length<64 /\
 (∀(i:Nat) (v:V) (k:Int),xs[i]?=some v->kz[i]?=some k->∀H',dN H1 H'->pre v k H' (fr σ))/\∀H2 D,dN H1 H2->H2 D=none->Q (.ref D) (upd H2 D (.lst (js kz xs)))
def zB{t:TA}{p pos kpos lpos:Pos}{k:Nat}{src:Hp->Addr->List V->Prop}{pre:V->Int->Hp->St->Prop}{fr:St->St}
  (hg:Gl X "sorted") (hm:X.mg "sorted"=none) (ha:PA X [e] t) (h1:cW e=true) (hr:bt (k+3) X.A) (hL:PE X (.Lambda params body scope lpos) (By q params body scope cl))
  (hsrc:∀pins σ H s H1 l xs A,Inv X pins σ H s->src H1 l xs->dN H1 H->A.handled=none->xs.length<64->yN X A s l xs)
  (hk:scope.kind=.function) (hco:scope.isCoroutine=false) (hgen:scope.isGenerator=false) (hcell:∀y∈scope.names,y.2≠.cell) (hloc:scope.names.lookup x=some .local)
  (hbind:∀c' pm ctv u,bindArgs (W.kla_fn "<lambda>" q params body scope cl pm (.ref c') ctv) ⟨[u],[]⟩=pure [(x,u)])
  (hlen:∀σ:St,(fr σ).length=N.length) (hcl:∀y c,cl.lookup y=some c->X.env.cells.lookup y=some c) (hhas:∀y,(scope.names.lookup y=some .cell\/scope.names.lookup y=some .free)->∃c,cl.lookup y=some c)
  (hf:∀pins σ H s,Inv X pins σ H s->∀(i:Nat) (y:Str) (v:V),N[i]?=some y->(fr σ)[i]?=some (some v)->scope.names.lookup y=some .free/\∃c u,cl.lookup y=some c/\s.heap.IsCell c (some u)/\RelV v u)
  (hbody:∀A f c' s' H' σf v i,pre v i H' σf->∃t,PE (tG X A (x::N) q scope f (.ref c') cl s' H') body t/\t (some v::σf) H' (λw H2=>w=.int i/\H2=H')) :
  PE X (.Call (.Name "sorted" p) [e] [⟨some "key",.Lambda params body scope lpos,kpos⟩] pos) (yC src pre fr t):=by
 intro pins s σ H Q I h;refine LO (eF I hg hm (u:=.builtin "sorted") (by decide +kernel) ?_ (by decide) (by decide))
 have hkw:PK X [⟨some "key",.Lambda params body scope lpos,kpos⟩] (iy (By q params body scope cl) kh):=Cf hL EN;refine callWith_kw ?_ (by rw[bN h1];rfl) (by rw[bN h1];rfl) rfl rfl
 refine bH (ha pos pins s σ H _ I h) λus s1 hq1=>?_;obtain⟨vs,H1,I1,r1,q1⟩:=hq1;obtain⟨l,xs,kz,rfl,hs,hle,h64,hpre,qq⟩:=q1;obtain⟨u,rfl,ru⟩:=vals1 r1;cases ru;refine bH (hkw pos pins s1 σ H1 (λzs H2=>∃f c' pm ctv,zs=[.ref f]/\dN H1 H2/\jh H2 f ((q)) params body scope cl c' pm ctv) I1 λf c' pm ctv H2 g lm=>⟨f,c',pm,ctv,rfl,g,lm⟩) λws s2 hq2=>?_;obtain⟨zs,H2,I2,rz,f,c',pm,ctv,e1,g,lm⟩:=hq2;subst e1;obtain⟨wv,rfl,rw1⟩:=vals1 rz;cases rw1;have hr1:bt (k+2) X.A.in1:=hr.in1;refine vw I2 (hsrc _ _ _ _ _ _ _ _ I2 hs g hr1.hd h64) hle h64 (λi v u j hv rv hj pins' H' s' g' J=>?_) λH' D g' n=>qq H' D (g.trans g') n;obtain⟨ho,fJ⟩:=(lm.up λb o u e=>g'.same b _ e).get J;obtain⟨tb,hb,hq⟩:=hbody X.A.in1.in1 f c' s' H' (fr σ) v j (hpre i v j hv hj H' (g.trans g'));refine Lh (xG J hr1.in1 J.ok.frames hk hco hgen hcell rv hloc ho fJ (hbind c' pm ctv) (hlen σ) hcl hhas (hf _ _ _ _ J) hb hq) (λr s4 hr4=>?_) λ_ _ z=>z;obtain⟨w,H4,J4,rw4,e4,e5⟩:=hr4;subst e4 e5;exact⟨rw4,J4⟩
end
def n8{a:α}{l:List (Str×α)}:List.lookup x ((x,a)::l)=some a:=by rw[LQ,L3]
def jx{y:Str}{a:α}{l:List (Str×α)}(h:y≠x):List.lookup y ((x,a)::l)=List.lookup y l:=by rw[LQ,Lb.mpr h]
abbrev jW(n:Nat):List V:=(List.range n).map λk=>V.int ((k:Nat):Int)
section
variable {X:Cx} {pins:List (Addr×Obj)} {σ:St} {H:Hp} {s:Shared}
def oX{A:Around}{r:Addr}{n:Nat}(hh:A.handled=none)(I:Inv X pins σ H s)(hr:H r=some (.lJ 0 n))(h64:n<64):yN X A s r (jW n):=λQ E h=>by
 obtain⟨t,u,v,e⟩:=I.aL r _ hr;have hn2:Builtin.Range.rangeSize 0 (n:Int) 1=n:=by rw[rangeSize_one];split<;>lia
 have hsm:Builtin.Range.small 0 (n:Int) 1=true:=small_one (by lia) (by lia) (by lia) (by lia)
 have oS:(s.heap.push {cls:=.type "list",data:=.seq ([]:List Value).toArray}).get? s.heap.objs.size=some {cls:=.type "list",data:=.seq #[] 0}:=K1 _ rfl;unfold collect;refine Kh (wpAny_runValue (ML PySem.F.entry_proto_collect ?_));rw[Nb PySem.F.plain_proto_collect _];refine Kh (m:=newList []) (LJ (Kt ⟨Pu PySem.F.plain_list_iadd _,ML PySem.F.entry_list_iadd ?_⟩));rw[Nb PySem.F.plain_list_iadd _];show wpAny _ A.in1 (Builtin.List.listExtendWith _ _ _) _ _ _;refine wpAny_extend_range (R:=λr s'=>match r with|.ok (.ret v)=>wpAny (model X.prog X.w) A (match v with|.ref a=>do (match (<- load a).data with|.seq xs _=>pure xs.toList|_=>unsupported "internal:collect")|_=>unsupported "internal:collect") Q E s'|.ok _=>_|.error e=>E e s') (s:={s with heap:=s.heap.push {cls:=.type "list",data:=.seq ([]:List Value).toArray}}) hh (Kk _ e) hsm hn2 (by lia) s.heap.objs.size (.ref s.heap.objs.size) 0 oS λh' tk acc c' hk hS hI=>?_
 refine Kh (m:=load s.heap.objs.size) (wpAny_load hS (Kt (h h' tk acc.toList (λb o e=>hk b o (KH (Kz e)) (Kk _ e)) (Me (Kz hS)) ?_)));have hv:=Y.gE (lo:=0) n acc.toList 0 (by simpa using hI.1) λj v e=>by
  obtain⟨t,e2⟩:=hI.2 j v (by simpa using e)
  exact⟨t,by rw[e2];simp⟩
 show Vals ((List.range n).map λk=>V.int ((k:Nat):Int)) acc.toList;rw[Nf]
 simpa using hv
end
def bu.same{H':Hp}{a:Addr}(g:kM H H')(h:bu K H a xs):bu K H' a xs:=by
 rcases h with (h|⟨o,h⟩)|h
 ·exact .inl (.inl (g _ _ h))
 ·exact .inl (.inr ⟨o,g _ _ h⟩)
 ·exact .inr h
def JN(j:Nat)(σ:St):St:=[(σ[j]?).getD none]
def jL(K:W.Frag)(j:Nat)(t:TA):TE:=yC (λH l xs=>∃n:Nat,H l=some (.lJ 0 n)/\xs=jW n) (λv k H' σf=>∃i q ls,v=.int i/\σf=[some (.ref q)]/\bu K H' q ls/\bS ls i=some (.int k)) (JN j) t
def wY{t:TA}{p pos kpos lpos p1 p2 p3:Pos}{y:Str}{c:Addr}{j:Nat}{k:Nat}(hg:Gl X "sorted")(hm:X.mg "sorted"=none)(ha:PA X [e] t)(h1:cW e=true)(hr:bt (k+3) X.A)
  (hL:PE X (.Lambda params (.Subscript (.Name y p1) (.Name x p2) p3) scope lpos) (By q params (.Subscript (.Name y p1) (.Name x p2) p3) scope [(y,c)]))
  (hsc:scope={kind:=.function,names:=[(x,.local),(y,.free)],isGenerator:=false,isCoroutine:=false,more:=[]}) (hxy:y≠x) (hx1:(x ==("__debug__":Str))=false) (hx2:(x ==("__classdict__":Str))=false) (hy1:(y ==("__debug__":Str))=false) (hy2:(y ==("__classdict__":Str))=false)
  (hj:X.N[j]?=some y) (hyc:X.env.scope.names.lookup y=some .cell) (hyl:X.env.cells.lookup y=some c)
  (hbind:∀c' pm ctv u,bindArgs (W.kla_fn "<lambda>" q params (.Subscript (.Name y p1) (.Name x p2) p3) scope [(y,c)] pm (.ref c') ctv) ⟨[u],[]⟩=pure [(x,u)]) :
  PE X (.Call (.Name "sorted" p) [e] [⟨some "key",.Lambda params (.Subscript (.Name y p1) (.Name x p2) p3) scope lpos,kpos⟩] pos) (jL X.K j t):=by
 subst hsc;have lx:List.lookup x [(x,NameKind.local),(y,NameKind.free)]=some .local:=n8;have ly:List.lookup y [(x,NameKind.local),(y,NameKind.free)]=some .free:=by rw[jx hxy,n8]
 have lz:∀z,z≠x->z≠y->List.lookup z [(x,NameKind.local),(y,NameKind.free)]=none:=λz h1 h2=>by rw[jx h1,jx h2];rfl
 have lc:List.lookup y [(y,c)]=some c:=n8;have lcz:∀z d,List.lookup z [(y,c)]=some d->z=y/\d=c:=λz d e=>by
  by_cases h:z=y
  ·rw[h,lc] at e;cases e;exact⟨h,rfl⟩
  ·rw[jx h] at e;cases e
 refine zB (N:=[y]) hg hm ha h1 hr hL (λpins σ H s H1 l xs A I hs g hh h64=>?_) rfl rfl rfl (λz hz=>?_) lx hbind (λ_=>rfl) (λz d e=>?_) (λz hz=>?_) (λpins σ H s I i z v e1 e2=>?_) λA f c' s' H' σf v i hp=>?_
 ·obtain⟨n,hs,rfl⟩:=hs;rw[Ki,KZ] at h64;exact oX hh I (g.same _ _ hs) h64
 ·rcases Kv.mp hz with rfl|hz
  ·nofun
  ·rw[K0.mp hz];nofun
 ·obtain⟨rfl,rfl⟩:=lcz z d e;exact hyl
 ·by_cases z1:z=x
  ·have hz':List.lookup z [(x,NameKind.local),(y,NameKind.free)]=some .cell\/List.lookup z [(x,NameKind.local),(y,NameKind.free)]=some .free:=hz;rw[z1,lx] at hz';rcases hz' with h|h<;>cases h
  ·by_cases z2:z=y
   ·rw[z2];exact⟨c,lc⟩
   ·have hz':List.lookup z [(x,NameKind.local),(y,NameKind.free)]=some .cell\/List.lookup z [(x,NameKind.local),(y,NameKind.free)]=some .free:=hz;rw[lz z z1 z2] at hz';rcases hz' with h|h<;>cases h
 ·cases i with
  |succ i=>cases e1
  |zero =>
   have e1':some y=some z:=e1;cases e1';have e2':some ((σ[j]?).getD none)=some (some v):=e2;have e3:σ[j]?=some (some v):=by
    cases hσ:σ[j]? with
    |none=>rw[hσ] at e2';cases e2'
    |some o=>rw[hσ] at e2';exact e2'
   obtain⟨m,_,hl⟩:=I.loc;obtain⟨u,rv,lk⟩:=hl j y v hj e3 (.inr (.inl hyc));refine⟨ly,c,u,lc,?_,rv⟩;rcases lk with ⟨z,_⟩|⟨_,d,z1,z2⟩
   ·have z':X.env.scope.names.lookup y=some .local:=z;rw[hyc] at z';cases z'
   ·rw[hyl] at z1;cases z1;exact z2
 ·obtain⟨ix,a,ls,rfl,rfl,hq,ha'⟩:=hp;refine⟨_,C7 sJ (pv 1 rfl (.inr (.inr ly)) hy1 hy2) (pv 0 rfl (.inl lx) hx1 hx2) (Z.JQ rfl),?_⟩;exact⟨_,rfl,_,rfl,a,ls,ix,.int i,rfl,rfl,hq,ha',rfl,rfl⟩
def Cj{β:Type}{g:α->β}{ks:List Int}{l:List α}:js ks (l.map g)=(js ks l).map g:=by
 have p:∀l:List α,Paired (λa b=>b=g a) l (l.map g):=λl=>by
  induction l with
  |nil=>exact .nil
  |cons a l ih=>exact .cons rfl ih
 have q:∀{l:List α} {m:List β},Paired (λa b=>b=g a) l m->m=l.map g:=λ{l m} h=>by
  induction h with
  |nil=>rfl
  |cons r _ ih=>rw[r,ih];rfl
 exact q (tu (p l))
structure sZ (K:W.Frag) (mg:Str->Option Value) (x:Str):Prop where
 ex:∃c P,W.tabIn K x=some (c,P)/\∀f cdv,Fm K mg x f cdv->cdv=.ref c
def pK{c P:Addr}{oc oc':Value}{od od':Option Addr}{sl sl':Array (Option Value)}{fd:FuncData}{vs:Array Value}(a:W.nsIn K mainGlobals x=some (some (.ref f)))(l:K.lookup f=some ⟨oc,od,.func fd,sl⟩)(hc:fd.code=.ref c)
  (lc:K.lookup c=some ⟨oc',od',.fields vs,sl'⟩) (hv:vs[11]?=some (.ref P)):W.tabIn K x=some (c,P):=by
 unfold W.tabIn;rw[a];dsimp only;rw[l];dsimp only;rw[hc];dsimp only;rw[lc];dsimp only;rw[hv]
def jP(a:W.nsIn K mainGlobals x=some none):W.tabIn K x=none:=by
 unfold W.tabIn;rw[a]
def sZ.mk'{mg:Str->Option Value}{c P:Addr}(X:K.In h)(G:h.Ns mainGlobals mg)(ht:W.tabIn K x=some (c,P)):sZ K mg x:=
 ⟨c,P,ht,λf cdv ⟨m,o,fd,lk,hd,e⟩=>by rw[<- e];exact W.law_code X G ht m (X _ _ lk) hd⟩
def i6.of{q:Program}{o1 o2 o3:Option (Addr×Addr)}(nt:W.noTabs K=true)(t1:W.tabIn K "by_worth"=o1)(t2:W.tabIn K "by_weight"=o2)(t3:W.tabIn K "code_of"=o3)(nd:((o1.toList++(o2.toList++o3.toList)).map (·.2)).Nodup)
  (f1:o1=none\/((recsOf q).find? (λe=>e.name ==("by_worth":Str))).isSome=true) (f2:o2=none\/((recsOf q).find? (λe=>e.name ==("by_weight":Str))).isSome=true) (f3:o3=none\/((recsOf q).find? (λe=>e.name ==("code_of":Str))).isSome=true):i6 q K:=by
 refine⟨nt,?_,λx hx=>?_⟩
 ·have e:(bO K).map (·.2.1)=(o1.toList++(o2.toList++o3.toList)).map (·.2):=by
   unfold bO dC
   cases o1<;>cases o2<;>cases o3<;>simp[List.filterMap,t1,t2,t3]
  rw[e];exact nd
 ·unfold dC at hx;rcases Kv.mp hx with rfl|hx
  ·rw[t1];exact f1
  ·rcases Kv.mp hx with rfl|hx
   ·rw[t2];exact f2
   ·rw[K0.mp hx,t3];exact f3
namespace Y
def BW:V->List V->Hp->VK->Prop:=λx vs H Q=>∃z y,x=.str z/\vs=[.str y]/\z.length<=sizeLine/\Q (.str (Txt.rstripChars z y)) H
def mq:uK X "str.rstrip" BW:=by
 intro pins s σ H x xs v us Q I rx rs h;obtain⟨z,y,rfl,rfl,hz,q⟩:=h;obtain⟨t,rfl⟩:=rx;obtain⟨u,rfl,k,rfl⟩:=vals1 rs;exact SC.rstripChars (λt' k=>⟨.str _,H,I.tok _,⟨_,rfl⟩,q⟩) hz
def DR:V->List V->Hp->VK->Prop:=λx vs H Q=>∃z i y,x=.str z/\vs=[.int i,.str y]/\0<=i/\i<1000/\y.length=1/\Q (.str (Txt.ljustF z i (y.cps.getD 0 0))) H
def qp:uK X "str.ljust" DR:=by
 intro pins s σ H x xs v us Q I rx rs h;obtain⟨z,i,y,rfl,rfl,h0,h1,hy,q⟩:=h;obtain⟨t,rfl⟩:=rx;obtain⟨u1,u2,rfl,⟨t1,rfl⟩,⟨t2,rfl⟩⟩:=vals2 rs;exact ljust_fill (padOk_of (by lia) (by lia)) hy λt' k=>⟨.str _,H,I.tok _,⟨_,rfl⟩,q⟩
end Y
def qM(x y:Str):(Txt.rstripChars x y).cps.toList.reverse=x.cps.toList.reverse.dropWhile y.cps.contains:=by
 have key:∀(p:Nat->Bool) (l:List Nat),(l.take (l.length-(l.reverse.takeWhile p).length)).reverse=l.reverse.dropWhile p:=λp l=>by
  have h:(l.reverse.takeWhile p).length<=l.length:=by simpa using (List.takeWhile_sublist p (l:=l.reverse)).length_le
  rw[List.reverse_take,<- u0];congr 1;lia
 have hl:x.length=x.cps.toList.length:=by rw[La];rfl
 rw[<- key];unfold Txt.rstripChars Txt.stripBy;split
 ·rename_i h;unfold stripSame at h;rw[Lz] at h;have h2:x.length-(x.cps.toList.reverse.takeWhile y.cps.contains).length=x.length:=by simpa[stripLo,stripHi] using h.2
  rw[<- hl,h2,hl,Lq]
 ·have e:∀(a:Array Nat) (j:Nat),(a.extract 0 j).toList=a.toList.take j:=λa j=>by simp
  have e2:=e x.cps (x.length-(x.cps.toList.reverse.takeWhile y.cps.contains).length);rw[hl] at e2;exact Lg List.reverse e2
namespace Y
def Gp:R2:=λx y H Q=>∃(c:Nat) (k:Int),x=.str ⟨#[c]⟩/\y=.int k/\0<=k/\k<=1000/\Q (.str ⟨(List.replicate k.toNat c).toArray⟩) H
theorem uv:cI X (binaryOp .Mult) Gp:=by
 intro pins s σ H x y v u Q I rx ry h;obtain⟨c,k,rfl,rfl,h0,h1,q⟩:=h;obtain⟨t,rfl⟩:=rx;obtain⟨t2,rfl⟩:=ry;have e:Txt.mul ⟨#[c]⟩ k=⟨(List.replicate k.toNat c).toArray⟩:=by
  have:=mul_one_list c k
  cases hz:Txt.mul ⟨#[c]⟩ k with
  |mk a=>rw[hz] at this;rw[<- this,Nh]
 have ok:MulOk ⟨#[c]⟩ k:=by
  refine⟨by simp only[Bool.or_eq_false_iff,decide_eq_false_iff_not];lia,λz _=>?_,λz _=>?_⟩
  ·have hl:((⟨#[c]⟩:Str).length:Int)=1:=rfl;rw[hl];have:1<=(2^63-1) / k:=by
    rw[Int.le_ediv_iff_mul_le (by lia)];lia
   lia
  ·have hl:(⟨#[c]⟩:Str).length=1:=rfl;rw[hl,Nat.one_mul];exact KJ (O2.mpr (Km (show k.toNat<=1000 by lia) (by decide)))
 exact SB.mul ok λt' j=>⟨.str _,H,I.tok _,⟨t',by rw[e]⟩,q⟩
def zP(K:W.Frag):List V->Hp->VK->Prop:=λxs H Q=>C8 K xs H Q\/∃p ns,xs=[.ref p]/\a_ K H p (ns.map V.int)/\ns.length<64/\∀ns':List Int,ns'.Perm ns->ns'.Pairwise (·<=·)->∀l,H l=none->Q (.ref l) (upd H l (.lst (ns'.map V.int)))
def r_(K:W.Frag)(hK:X.K=K):aX X (.builtin "sorted") (zP K):=by
 refine (vi K hK).or ?_;subst hK;intro pins s σ H xs us Q I r h;obtain⟨p,ns,rfl,hq,h64,q⟩:=h;obtain⟨u,rfl,ru⟩:=vals1 r;cases ru;obtain⟨its,rv,pl,hz⟩:=I.list hq;have hi:=intsAre_of rv;refine sorted_ints pl.isList hi (by rw[ke hi];exact h64) λout ns' a1 a2 a3=>?_
 obtain⟨e,he⟩:=sortedAll_at s.heap its out;refine⟨.ref (s.heap.objs.size+1),_,I.laid (t':=s.toks) (λb ob q=>sortedAll_old q) (LY _) (show aN X.prog X.w _ _ _ (.lst (ns'.map V.int)) from⟨?_,out.toList,e,fz a1,by simpa using he⟩),rfl,q ns' a2 a3 _ (I.aL.fresh (LY _))⟩
 rw[Ki,a2.length_eq];exact Km (Me h64) (by decide)
def GL:V->List V->Hp->VK->Prop:=λx vs H Q=>∃a:Int,x=.int a/\vs=[]/\Q (.int (Builtin.Int.intBits a:Nat)) H
def Cg:uK X "int.bit_length" GL:=by
 intro pins s σ H x xs v us Q I rx rs h;obtain⟨a,rfl,rfl,q⟩:=h;obtain⟨t,rfl⟩:=rx;obtain rfl:=Paired.vU rs;exact call_int_bit_length ⟨.int _,H,I.tok _,⟨_,rfl⟩,q⟩
def IL(K:W.Frag):R2:=λx y H Q=>∃a b xs,x=.ref a/\y=.ref b/\a_ K H a xs/\a_ K H b []/\Q (.bl xs.isEmpty) H
def Fy(K:W.Frag)(hK:X.K=K)(hu:X.A.units<cLine):cI X (compareOp .Eq) (IL K):=by
 subst hK;intro pins s σ H x y v u Q I rx ry h;obtain⟨a,b,xs,rfl,rfl,ha,hb,q⟩:=h
 cases rx;cases ry
 obtain⟨its,r1,p1,_⟩:=I.list ha;obtain⟨its2,r2,p2,_⟩:=I.list hb;obtain rfl:=Paired.vU r2
 cases r1 with
 |nil=>exact SeqAt.eq_listAt (e:=λ_=>true) p1.isList p2.isList rfl hu (λj h1=>absurd h1 (NR _)) ⟨.bl true,H,I,rfl,q⟩
 |cons h r=>exact SeqAt.eq_list_lengthsAt p1.isList p2.isList (by simp) hu ⟨.bl false,H,I,rfl,q⟩
end Y
def iR(h:Heap)(d:Addr)(es:Array DictEntry)(ep:Nat):Prop:=∃o,h.get? d=some o/\o.ExactDict/\o.data=.dict es ep
section
variable {prog:Program} {w:World} {A:Around} {E:Value->Shared->Prop} {s:Shared}
def iR.ty(x:iR s.heap d es ep):s.TypeIs (.ref d) "dict":=let ⟨o,ho,hc,_⟩:=x;⟨o,ho,hc.1⟩
def iR.keep(x:iR h d es ep)(k:∀o,h.get? d=some o->h'.get? d=some o):iR h' d es ep:=let ⟨o,ho,r⟩:=x;⟨o,k _ ho,r⟩
def iR.lt(x:iR h d es ep):d<h.objs.size:=let ⟨_,ho,_⟩:=x;Kz ho
def AL(low:(d == sysModules)=false)(x:iR s.heap d es ep)
  (q:Q (.ref s.heap.objs.size) {s with heap:=s.heap.push {cls:=.type "dict_keyiterator",data:=.fields #[.ref d,.int 0 0,.int es.size 0,.int ep 0]}}):wpAny (model prog w) A (pyIter (.ref d)) Q E s:=by
 obtain⟨o,ho,hx,hdat⟩:=id x;refine wpAny_pyIter_slot x.ty PySem.F.slot_dict_iter (LF PySem.F.slot_dict_iter x.ty PySem.F.entry_dict_iter ?_ (PySem.F.args_dict_iter_1 _));unfold Builtin.«dict.__iter__» Builtin.Dict.dictSlotNone;refine Kh (Kh (wpAny_notOrdered_dict x.ty ?_));show wpAny _ _ (pure (Value.ref d)) _ _ s;refine Kt ?_;show wpAny _ _ (Builtin.Dict.showsAll d >>= _) _ _ s;unfold Builtin.Dict.showsAll;rw[low,Ko Ky];refine Kh (Kt (Kh (N9 ho hdat (Kh (OQ ho hdat ?_)))));exact Kh (LJ (Kt ⟨_,rfl,"dict_keyiterator",_,⟨_,K1 _ rfl,rfl⟩,PySem.F.slot_dict_keyiterator_next.lookup,q⟩))
def A5{it:Addr}{Q:Option Value->Shared->Prop}(hit:s.heap.IsKeyIter it d i es.size ep)(x:iR s.heap d es ep)(hi:i<es.size)
  (q:∀h',h'.IsKeyIter it d (i+1) es.size ep->Heap.SameBut it s.heap h'->Q (some es[i].key) {s with heap:=h'}):wpAny (model prog w) A (pyNext (.ref it)) Q E s:=by
 obtain⟨o,ho,hc,hd⟩:=id hit;obtain⟨od,hod,hx,hdd⟩:=id x;unfold pyNext;refine Kh (MG (LA (name:=Str.ofString "__next__") hit.typeIs PySem.F.slot_dict_keyiterator_next (LF PySem.F.slot_dict_keyiterator_next hit.typeIs PySem.F.entry_dict_keyiterator_next ?_ (PySem.F.args_dict_keyiterator_next_1 _))));refine Kh (Kt (Kh (Kh ?_)))
 first|refine Kh (Ml hit.typeIs (Kt (Kh (NZ ho hd ?_))))|refine Kh (M7 hit.typeIs (Kt (Kh (NZ ho hd ?_))))
 simp only[show Builtin.Dict_items.ownsTuple "dict_keyiterator"=false by decide,Mq,Mz]
 show wpAny _ _ (if (Value.ref d == Value.none)=true then _ else _) _ _ s;rw[Ko (show ¬ ((Value.ref d == Value.none)=true) from Ky)]
 refine Kh (Kt (Kh (N9 hod hdd ?_)));rw[Ko (by simp)]
 refine Kh (Kt (Kh (OQ hod hdd ?_)));rw[Ko (by simp)]
 refine Kt ?_;simp only[show ¬ ((i:Int)<0) by lia,Mz,KU,Mc hi]
 refine Kh ?_
 first|refine Kh (Ml hit.typeIs (Kt (Kh (NI hit.typeIs ?_))))|refine Kh (M7 hit.typeIs (Kt (Kh (NI hit.typeIs ?_))))
 show wpAny _ _ (setField (.ref it) 1 (rawInt ((i:Int)+1)) >>= _) _ _ s;refine Kh (N5 ho hd (by simp) ?_)
 have h2:(s.heap.update it (Obj.mapFields (·.setIfInBounds 1 (rawInt ((i:Int)+1))))).IsKeyIter it d (i+1) es.size ep:=⟨_,LM _ ho (NF (MJ hd _)),(Obj.cls_mapFields ..).trans hc,by rw[MJ hd];simp[rawInt]⟩
 refine Kh (Lu (Kh (NI (s:={s with heap:=s.heap.update it (Obj.mapFields (·.setIfInBounds 1 (rawInt ((i:Int)+1))))}) h2.typeIs ?_)))
 show wpAny _ _ (pure es[i].key) _ _ _;exact Kt (Kt ⟨_,rfl,Kt (q _ h2 (LK ..))⟩)
def Cu{it:Addr}{Q:Option Value->Shared->Prop}(hh:A.handled=none)(hit:s.heap.IsKeyIter it d es.size es.size ep)(x:iR s.heap d es ep)
  (q:∀h',Heap.ExtBut it s.heap h'->Q none {s with heap:=h'}):wpAny (model prog w) A (pyNext (.ref it)) Q E s:=by
 obtain⟨o,ho,hc,hd⟩:=id hit;obtain⟨od,hod,hx,hdd⟩:=id x;unfold pyNext;refine Kh (MG (LA (name:=Str.ofString "__next__") hit.typeIs PySem.F.slot_dict_keyiterator_next (LF PySem.F.slot_dict_keyiterator_next hit.typeIs PySem.F.entry_dict_keyiterator_next ?_ (PySem.F.args_dict_keyiterator_next_1 _))));refine Kh (Kt (Kh (Kh ?_)))
 first|refine Kh (Ml hit.typeIs (Kt (Kh (NZ ho hd ?_))))|refine Kh (M7 hit.typeIs (Kt (Kh (NZ ho hd ?_))))
 simp only[show Builtin.Dict_items.ownsTuple "dict_keyiterator"=false by decide,Mq,Mz]
 show wpAny _ _ (if (Value.ref d == Value.none)=true then _ else _) _ _ s;rw[Ko (show ¬ ((Value.ref d == Value.none)=true) from Ky)]
 refine Kh (Kt (Kh (N9 hod hdd ?_)));rw[Ko (by simp)]
 refine Kh (Kt (Kh (OQ hod hdd ?_)));rw[Ko (by simp)]
 refine Kt ?_;simp only[show ¬ ((es.size:Int)<0) by lia,Mz,KU,OX (Kp es.size)]
 refine Kh ?_
 first|refine Kh (Ml hit.typeIs (Kt ?_))|refine Kh (M7 hit.typeIs (Kt ?_))
 show wpAny _ _ (setField (.ref it) 0 .none >>= _) _ _ s;refine Kh (N5 ho hd (by simp) ?_)
 show wpAny _ _ (newExc (.type "StopIteration") [] >>= _) _ _ _;refine Kh ?_;simp only[newExc,newTuple];refine Kh (LJ ?_ (by size_fits))
 refine Kh (m:=firstArgMember _ _) (wpAny_of_eq (a:=Value.none) (by first|rfl | (simp only[firstArgMember];rfl)) (LJ ?_ (by size_fits)))
 simp only[raiseNew];refine Kh (wpAny_handled ?_);rw[show A.in1.handled=none from hh];refine Kh (Kt (wpAny_throw ?_));refine Kh (wpAny_isInstance (T:="StopIteration") (b:=true) ⟨_,K1 _ rfl,rfl⟩ isSubtype_stop ?_);exact Kt (q _ (((LK ..).extBut.push _).push _))
end
def yK{A:Around}(hh:A.handled=none)(I d:Addr)(ne:d≠I)(es:Array DictEntry)(ep:Nat):
  Walks prog w A I [I,d] [I] es.size (λi v=>∃h:i<es.size,v=es[i].key) (λi h=>h.IsKeyIter I d i es.size ep/\iR h d es ep) where
 sub:=λb hb=>by simp at hb;simp[hb]
 frame:=λ_ _ _ st hk=>⟨st.1.at λo e=>hk I (by simp) o e,st.2.keep λo e=>hk d (by simp) o e⟩
 item:=λi s Q E hi st hQ=>A5 st.1 st.2 hi λh' a b=>hQ _ h' s.toks ⟨hi,rfl⟩ ⟨a,st.2.keep λo e=>b.extBut _ _ ne e⟩ λc o hc e=>b.extBut c o (λh=>hc (by simp[h])) e
 done:=λs Q E st hQ=>Cu hh st.1 st.2 λh' he=>hQ h' s.toks λc o hc e=>he c o (λh=>hc (by simp[h])) e
 self:=λ_ _ _ _ st hQ=>wpAny_pyIter_keyiter st.1 hQ
def DT(low:(d == sysModules)=false):W.KdlSrc prog w "dict" d d es.size (λi v=>∃h:i<es.size,v=es[i].key) (λh=>iR h d es ep) where
 type:=λ_ x=>x.ty
 there:=λ_ x=>⟨x.lt,x.lt⟩
 keep:=λ_ _ x k=>x.keep λo e=>k d (.inl rfl) o e
 notList:=by decide
 notTuple:=by decide
 hint:=λ_ _ _ _ x q=>W.kdl_hint_dict x.ty q
 iter:=λ_ _ hh x=>⟨_,_,(λ_ _ q=>AL low x q),yK hh _ d (KH x.lt) es ep,⟨⟨_,K1 _ rfl,rfl,rfl⟩,x.keep λ_ e=>Kk _ e⟩⟩
def w6{es:List DictEntry}(h:KTD.Rows (y_ K) es D):es.length=D.length:=by
 induction h with
 |nil=>rfl
 |cons _ _ _ ih=>simp[ih]
def xT{es:List DictEntry}(h:KTD.Rows (y_ K) es D):Vals (D.map λp=>V.str p.1) (es.map λe=>e.key):=by
 induction h with
 |nil=>exact .nil
 |cons e _ _ ih=>exact .cons ⟨_,e⟩ ih
def Fq(K:W.Frag)(D:List (Str×List Str)):List V->Hp->VK->Prop:=λxs H Q=>∃d,xs=[.ref d]/\lG K d D/\D.length<=sizeLine/\∀l,H l=none->Q (.ref l) (upd H l (.lst (D.map λp=>V.str p.1)))
def qT(K:W.Frag)(hK:X.K=K)(hc:X.calm=true):aX X (.type "list") (Fq K D):=by
 intro pins s σ H xs us Q I r h;subst hK;obtain⟨d,rfl,hd,hz,q⟩:=h;obtain⟨u,rfl,rx⟩:=vals1 r;cases rx;obtain⟨o,es,ep,ho,hx,hdat,hr⟩:=hd.ex;have at0:iR s.heap d es ep:=⟨o,I.fi _ _ ho,hx,hdat⟩;have hl:es.size=D.length:=by rw[<- w6 hr,La]
 refine W.kdl_call (DT hd.low) (I.ok.hd hc) at0 (by rw[hl];exact hz) λh' tk acc c' hk hS hI=>?_
 have hv:Vals (D.map λp=>V.str p.1) acc.toList:=by
  have e:acc.toList=es.toList.map λe=>e.key:=by
   refine My λj=>?_;rw[KW,Kn,KW]
   cases z:acc[j]? with
   |none =>
    have:acc.size<=j:=Array.getElem?_eq_none_iff.mp z;rw[OX (by rw[<- hI.1];exact this)];rfl
   |some v =>
    obtain⟨hj,rfl⟩:=hI.2 j v z;rw[Mc hj];rfl
  rw[e];exact xT hr
 refine⟨.ref s.heap.objs.size,_,I.laid (t':=tk) hk (Kp _) (show aN X.prog X.w _ h' _ (.lst _) from⟨?_,acc.toList,c',hv,by simpa using hS⟩),rfl,q _ (I.aL.fresh (Kp _))⟩
 rw[Ki];exact hz
section
variable {K:W.Frag} {g:TG} {tb:TS} {D:Ends} {σ:St} {H:Hp} {te:TE} {Q:VK}
theorem kK{a:Addr}(hn:xs.length<=sizeLine)(Pv:Addr->Nat->List V->Hp->Prop)(h0:∀D,H D=none->Pv D 0 [] (upd H D (.lst [])))(hD:∀D i ys H',Pv D i ys H'->H' D=some (.lst ys)/\ys.length=i)
  (hl:∀D i ys H',Pv D i ys H'->a_ K H' a xs)
  (hs:∀D i ys H' x (R:VK),xs[i]?=some x->Pv D i ys H'->(∀v H5,H5 D=some (.lst ys)->Pv D (i+1) (ys++[v]) (upd H5 D (.lst (ys++[v])))->R v H5)->te (some x::σ) H' R) (hd:∀D ys H',Pv D xs.length ys H'->Q (.ref D) H') :
  iA (Ab K a) 1 (aO 0) dz te Q σ H:=by
 intro D hD0;refine⟨λi m ys σ' H'=>m=xs.length-i/\i<=xs.length/\Pv D i ys H'/\∃o,σ'=o::σ,⟨xs.length,by simp,K4 _,h0 D hD0,none,rfl⟩,?_⟩
 rintro i m ys σ' H' ⟨rfl,hi,p,o,rfl⟩;obtain⟨hDi,hly⟩:=hD _ _ _ _ p;have q:=hl _ _ _ _ p;refine⟨hDi,?_⟩;by_cases hlt:i<xs.length
 ·refine .inr ⟨⟨xs,xs[i],q,by simp[hlt]⟩,by lia,λx H2 y=>?_⟩
  obtain⟨rfl,y⟩:=y;unfold aO dz;dsimp only;rw[if_pos rfl];exact hs D i ys H2 x _ (y xs q) p λv H5 q1 q2=>⟨q1,xs.length-(i+1),by lia,rfl,hlt,q2,_,rfl⟩
 ·have e:i=xs.length:=by lia
  subst e;exact .inl ⟨⟨xs,q,Kp _⟩,hd D ys H' p⟩
end
def but(B:nK)(a:Addr):nK:=λb=>B b/\b≠a
section
variable {prog:Program} {w:World} {A:Around} {E:Value->Shared->Prop} {s:Shared}
structure Fw (prog:Program) (w:World) (s:Shared) (vs:List Value) (κ:SortKind) (kz:Nat->Int) (h:Heap):Prop where
 kind:∀(A:Around) (E:Value->Shared->Prop) (Q:SortKind->Shared->Prop),2<=vs.length->Q κ {s with heap:=h}->wpAny (model prog w) A (keyKind' vs.toArray) Q E {s with heap:=h}
 lt:∀(A:Around) (C:Bool->Shared->Prop) (i j:Nat),i<vs.length->j<vs.length->C (decide (kz i<kz j)) {s with heap:=h}->kas_ask prog w A κ vs i j C {s with heap:=h}
def wO{a:Addr}{vs:List Value}{n:Nat}{κ:SortKind}{kz:Nat->Int}{P:Fin->Shared->Prop}(ho:s.heap.get? a=some (seqObj "list" vs.toArray n))(h64:vs.length<64)
  (hq:∀h',(∀b o,b≠a->s.heap.get? b=some o->h'.get? b=some o)->Fw prog w s vs κ kz h')
  (h:∀p:Array Nat,p.toList.Perm (List.range vs.length)->p.toList.Pairwise (SP.R kz)->P (.done (.ret .none)) {s with heap:=sortedHeap s.heap a vs (List.toArray (p.toList.map λi=>vs.getD i Value.none))}) :
  wpAny (model prog w) A (Builtin.«list.sort» ⟨[.ref a],[]⟩) P E s:=by
 rw[list_sort_plain];have ha:a<s.heap.objs.size:=Kz ho;refine Kh (NN ho rfl (Kh (ND ho rfl ?_)));obtain⟨e1,ho1⟩:∃e1,(s.heap.update a (Obj.mapSeq λ_=>#[])).get? a=some (seqObj "list" #[] e1):=⟨_,Nu ho (λ_=>#[])⟩;refine Kh (seqEpoch_at ho1 rfl (Kh (Pj (Kh (Nm (Lu ?_))))));have up:∀b o,b≠a->s.heap.get? b=some o->(((s.heap.update a (Obj.mapSeq λ_=>#[])).push (seqObj "tuple" vs.toArray 0)).push (seqObj "list" #[] 0)).get? b=some o:=λb o hb e =>
  Kk _ (Kk _ ((MO _ _ (Lk hb)).trans e))
 have ho6:(((s.heap.update a (Obj.mapSeq λ_=>#[])).push (seqObj "tuple" vs.toArray 0)).push (seqObj "list" #[] 0)).get? a=some (seqObj "list" #[] e1):=Kk _ (Kk _ ho1);show wpAny (model prog w) A _ P E {s with heap:=((s.heap.update a (Obj.mapSeq λ_=>#[])).push (seqObj "tuple" vs.toArray 0)).push (seqObj "list" #[] 0)}
 dsimp only;have hs:=hq _ up;have hsz:vs.toArray.size=vs.length:=by simp
 by_cases h2:vs.toArray.size<2
 ·rw[if_pos h2,if_pos h2];refine wpAny_bind (wpAny_pure ?_);rw[StateT.run_pure];refine wpAny_bind (wpAny_pure ?_);dsimp only;refine wpAny_bind (seqEpoch_at ho6 rfl (wpAny_bind (listUpdate_at ho6 rfl ?_ (hsz2:=by rw[Array.size_map];show (pairsOf vs).size<=_;rw[pairsOf_size,sizeLine_eq];lia))))
  simp only[Ov,Mq,Mz];refine Kt ?_;have hid:=h (List.toArray (List.range vs.length)) (List.Perm.refl _) (by
   rcases vs with _|⟨x,_|⟨y,r⟩⟩
   ·exact .nil
   ·simp
   ·exfalso;rw[hsz] at h2;simp only[K2] at h2;lia)
  have e:(arrOf (SortSt.mk' general' (vs.toArray.zip vs.toArray) #[] 7 none)).map (·.2)=List.toArray ((List.toArray (List.range vs.length)).toList.map λi=>vs.getD i Value.none):=by
   show (vs.toArray.zip vs.toArray).map (·.2)=_;apply O8.mp;rw[Array.toList_map,Array.toList_zip];show (vs.zip vs).map (·.2)=(List.range vs.length).map λi=>vs.getD i Value.none;rw[OA (Kp _)];refine My λi=>?_;rw[Kn];rcases Lm i vs.length with c|c
   ·rw[M8 c,Kg c];simp[c]
   ·rw[L4.mpr c,L4.mpr (by rw[KZ];exact c)];rfl
  rw[e];exact hid
 ·rw[Ko h2,Ko h2];have h2':2<=vs.length:=by rw[hsz] at h2;lia
  refine Kh (hs.kind _ _ _ h2' ?_);refine Kh (Lh (kat_run (ks:=vs) (vs:=vs) (Q:=λst' s'=>s'={s with heap:=((s.heap.update a (Obj.mapSeq λ_=>#[])).push (seqObj "tuple" vs.toArray 0)).push (seqObj "list" #[] 0)}/\∃p:Array Nat,arrOf st'=p.map (kas_item (vs.toArray.zip vs.toArray))/\failedOf st'=none/\p.toList.Perm (List.range vs.length)/\p.toList.Pairwise (SP.R kz))
   (G:=λp s'=>s'={s with heap:=((s.heap.update a (Obj.mapSeq λ_=>#[])).push (seqObj "tuple" vs.toArray 0)).push (seqObj "list" #[] 0)}/\p.toList.Perm (List.range vs.length)/\p.toList.Pairwise (SP.R kz))
   rfl h2' h64 (λp st' s' a1 a2 a3 a4=>⟨a4.1,p,a2,a3,a4.2⟩) ?_) ?_ λ_ _ e=>e)
  ·refine SP.tH (k:=kz) (I:=λs'=>s'={s with heap:=((s.heap.update a (Obj.mapSeq λ_=>#[])).push (seqObj "tuple" vs.toArray 0)).push (seqObj "list" #[] 0)}) (λi j C s' hi hj hI hC=>?_) (by lia) rfl λp s' hp hr hI=>⟨hI,hp,hr⟩
   subst hI;exact hs.lt _ _ i j hi hj (hC _ rfl)
  rintro⟨⟨⟩,st'⟩ s' ⟨rfl,p,har,hf,hp,hr⟩;dsimp only;have esn:=kat_snds (ks:=vs) (vs:=vs) rfl har;have hl:(p.toList.map λi=>vs.getD i Value.none).length=vs.length:=by rw[List.length_map,hp.length_eq,List.length_range]
  refine Kh (seqEpoch_at ho6 rfl ?_);refine Kh (ND ho6 rfl ?_ (hsz2:=by show ((arrOf st').map (·.2)).size<=_;rw[esn,Kq,hl,L7];lia))
  rw[hf];simp only[Ov,Mq,Mz];rw[esn];exact Kt (h p hp hr)
def rS{l:Addr}{vs:List Value}{κ:SortKind}{kz:Nat->Int}(hl:s.heap.IsList l vs.toArray)(h64:vs.length<64)(hq:∀h',(∀b o,s.heap.get? b=some o->h'.get? b=some o)->Fw prog w s vs κ kz h')
  (h:∀p:Array Nat,p.toList.Perm (List.range vs.length)->p.toList.Pairwise (SP.R kz)->Q (.ref (s.heap.objs.size+1)) {s with heap:=sortedAll s.heap vs (List.toArray (p.toList.map λi=>vs.getD i Value.none))}) :
  wpAny (model prog w) A (call (.builtin "sorted") [.ref l]) Q E s:=by
 refine Oz kind_sorted plain_sorted entry_sorted (args_sorted1 _) ?_;unfold Builtin.«sorted»;refine Kh (m:=checkCount "sorted" 1 1 _) (Kt (Kh (collect_list hl (Kh (Nm ?_)))));have hsz:((s.heap.push (seqObj "list" #[] 0)).update s.heap.objs.size (Obj.mapSeq (·++vs.toArray))).objs.size=s.heap.objs.size+1:=by rw[O7,size_push']
 have hoL:(((s.heap.push (seqObj "list" #[] 0)).update s.heap.objs.size (Obj.mapSeq (·++vs.toArray))).push (seqObj "list" vs.toArray 0)).get? (s.heap.objs.size+1)=some (seqObj "list" vs.toArray 0):=by rw[<- hsz];exact K1 _ rfl
 have keep:∀b o,s.heap.get? b=some o->(((s.heap.push (seqObj "list" #[] 0)).update s.heap.objs.size (Obj.mapSeq (·++vs.toArray))).push (seqObj "list" vs.toArray 0)).get? b=some o:=λb o q=>by
  have hlt:b<s.heap.objs.size:=Kz q;rw[Heap.get?_push_ne _ _ _ (by rw[hsz];exact KH (MP hlt)),Np _ _ _ _ (KH hlt),Heap.get?_push_ne _ _ _ (KH hlt)]
  exact q
 show wpAny _ _ _ _ _ {s with heap:=((s.heap.push (seqObj "list" #[] 0)).update s.heap.objs.size (Obj.mapSeq (·++vs.toArray))).push (seqObj "list" vs.toArray 0)}
 rw[hsz];refine Kh (Lu (LF slot_list_sort ⟨_,hoL,rfl⟩ entry_list_sort (wO (kz:=kz) (κ:=κ) (s:={s with heap:=((s.heap.push (seqObj "list" #[] 0)).update s.heap.objs.size (Obj.mapSeq (·++vs.toArray))).push (seqObj "list" vs.toArray 0)}) hoL h64 (λh' hk=>?_) λp a1 a2=>⟨_,rfl,?_⟩) (args_list_sort _)))
 ·have:=hq h' λb o e=>hk b o (KH (MP (Kz e))) (keep b o e);exact⟨this.kind,this.lt⟩
 ·exact Kt ⟨_,rfl,h p a1 a2⟩
end
def lexLt(x y:Int×Int):Bool:=decide (x.1<y.1\/(x.1=y.1/\x.2<y.2))
def mH{x y:Int×Int}:lexLt x y=true ↔ (x.1<y.1\/(x.1=y.1/\x.2<y.2)):=decide_eq_true_iff
def rank(l:List (Int×Int))(x:Int×Int):Nat:=l.countP λy=>lexLt y x
def rk(l:List (Int×Int))(i:Nat):Int:=(rank l (l.getD i (0,0)):Nat)
def qR{l:List (Int×Int)}{p q:Int×Int->Bool}(h:∀z,p z=true->q z=true){x:Int×Int}:x∈l->p x=false->q x=true->l.countP p<l.countP q:=by
 induction l with
 |nil=>intro hx;cases hx
 |cons y l ih =>
  intro hx h1 h2;have hle:l.countP p<=l.countP q:=Pl λz _=>h z;rw[List.countP_cons,List.countP_cons];rcases Kv.mp hx with rfl|hx
  ·rw[Ko (by rw[h1];exact Ky),Ku h2];lia
  ·have:=ih hx h1 h2
   cases hp:p y with
   |true=>rw[Ku rfl,Ku (h y hp)];lia
   |false=>rw[Ko Ky];split<;>lia
def t7{l:List (Int×Int)}{x y:Int×Int}(hx:x∈l)(hy:y∈l):decide (rank l x<rank l y)=lexLt x y:=by
 have irr:∀z,lexLt z z=false:=λz=>KJ (by lia)
 cases h:lexLt x y with
 |true =>
  refine KY (qR (λz hz=>?_) hx (irr x) h);rw[mH] at h hz ⊢;lia
 |false =>
  refine KJ (O2.mpr (Pl λz _ hz=>?_));have h':¬ (x.1<y.1\/(x.1=y.1/\x.2<y.2)):=of_decide_eq_false h;rw[mH] at hz ⊢;lia
def xq(h:Heap)(v:Value)(pr:Int×Int):Prop:=∃(a:Addr) (o:Obj) (n:Nat) (t u:Tok),v=.ref a/\h.get? a=some o/\o.cls=.type "tuple"/\o.data=.seq #[.int pr.1 t,.int pr.2 u] n
theorem oQ:∀{vs:List Value} {prs:List (Int×Int)},Paired (xq h) vs prs->∃fs,KatTups h vs fs/\fs.length=vs.length/\∀v∈fs,∃i t,v=Value.int i t
 |_,_,.nil=>⟨[],trivial,rfl,λ_ h=>by cases h⟩
 |_,_,.cons r t=>by
  obtain⟨a,o,n,t1,u,rfl,ho,hc,hd⟩:=r;obtain⟨fs,h1,h2,h3⟩:=oQ t;refine⟨_::fs,⟨⟨a,o,_,n,rfl,ho,hc,hd,rfl⟩,h1⟩,by simp[h2],λv hv=>?_⟩
  rcases Kv.mp hv with rfl|hv
  ·exact⟨_,_,rfl⟩
  ·exact h3 v hv
def xB{vs:List Value}(hp:Paired (xq h) vs prs){i:Nat}(hi:i<vs.length):xq h (vs.getD i .none) (prs.getD i (0,0))/\prs.getD i (0,0)∈prs:=by
 induction hp generalizing i with
 |nil=>cases hi
 |cons r t ih =>
  cases i with
  |zero=>exact⟨r,Kw ..⟩
  |succ i =>
   obtain⟨h1,h2⟩:=ih (i:=i) (by simpa using hi)
   exact⟨h1,Kx _ h2⟩
theorem uW{s:Shared}{vs:List Value}(hp:Paired (xq h) vs prs):Fw prog w s vs (tuples' true) (rk prs) h where
 kind:=λA E Q h2 q=>by
  obtain⟨fs,h1,h3,h4⟩:=oQ hp;exact kat_kind (s:={s with heap:=h}) (T:=.type "int") h1 (by lia) (λv hv=>by obtain⟨i,t,rfl⟩:=h4 v hv;exact Looks.of_pure rfl) rfl q
 lt:=λA C i j hi hj q=>by
  obtain⟨⟨a,o,n,t,u,ea,ho,hc,hd⟩,mi⟩:=xB hp hi;obtain⟨⟨a',o',n',t',u',ea',ho',hc',hd'⟩,mj⟩:=xB hp hj;have e:=t7 mi mj;have e':decide (rk prs i<rk prs j)=lexLt (prs.getD i (0,0)) (prs.getD j (0,0)):=by
   rw[<- e,Mb];unfold rk;lia
  rw[e'] at q;clear e e' mi mj;unfold kas_ask;rw[ea,ea'];generalize prs.getD i (0,0)=x at *;generalize prs.getD j (0,0)=y at *;refine kat_lt (s:={s with heap:=h}) ho hd ho' hd' ?_
  show KatLex prog w A true _ C [(.int x.1 t,.int y.1 t'),(.int x.2 u,.int y.2 u')] 0 _;refine kat_cons (O3 ?_)
  cases c1:(x.1 == y.1) with
  |false =>
   refine kat_no ?_;have h1:x.1≠y.1:=Lb.mp c1;have e1:lexLt x y=decide (x.1<y.1):=by unfold lexLt;rw[Mb];lia
   rw[e1] at q;exact oneLt_int q
  |true =>
   refine kat_yes (kat_cons (O3 ?_));have h1:x.1=y.1:=eq_of_beq c1;have e1:lexLt x y=decide (x.2<y.2):=by unfold lexLt;rw[Mb];lia
   rw[e1] at q
   cases c2:(x.2 == y.2) with
   |false =>
    refine kat_no ?_;show wpAny (model prog w) A (oneLt' false (.int x.2 u) (.int y.2 u')) C _ _;exact kat_one _ _ (lt_int q)
   |true =>
    have h2:x.2=y.2:=eq_of_beq c2;refine kat_yes (kat_nil ?_);rw[KJ (by lia)] at q
    exact q
def IA(l:List (Int×Int)):Prop:=l.Pairwise λx y=>lexLt y x=false
theorem Hd{ix:List Nat}(hp:ix.Perm (List.range prs.length))(hr:ix.Pairwise (SP.R (rk prs))):(ix.map λi=>prs.getD i (0,0)).Perm prs/\IA (ix.map λi=>prs.getD i (0,0)):=by
 have e:(List.range prs.length).map (λi=>prs.getD i (0,0))=prs:=by
  refine My λi=>?_;rw[Kn];rcases Lm i prs.length with c|c
  ·rw[M8 c,Kg c];simp[c]
  ·rw[L4.mpr c,L4.mpr (by rw[KZ];exact c)];rfl
 refine⟨?_,Mi.mpr (hr.imp_of_mem λ{i j} hi hj h=>?_)⟩
 ·have:=hp.map λi=>prs.getD i (0,0);rw[e] at this;exact this
 ·have mem:∀i∈ix,prs.getD i (0,0)∈prs:=λi hi=>by
   have hl:=Ln.mp (hp.mem_iff.mp hi);rw[Ks,Kg hl];exact K9 hl
  rw[<- t7 (mem j hj) (mem i hi)];have:=h.le;unfold rk at this;exact KJ (by lia)
namespace Y
def GV(H:Hp)(v:V)(p:Int×Int):Prop:=∃q,v=.ref q/\H q=some (.tup [.int p.1,.int p.2])
def EL(K:W.Frag):List V->Hp->VK->Prop:=λxs H Q=>∃p vs prs,xs=[.ref p]/\a_ K H p vs/\Paired (GV H) vs prs/\prs.length<64/\∀ix:List Nat,ix.Perm (List.range prs.length)->IA (ix.map λi=>prs.getD i (0,0))->∀l,H l=none->Q (.ref l) (upd H l (.lst (ix.map λi=>vs.getD i .aI)))
theorem zo{pins:List (Addr×Obj)}{σ:St}{s:Shared}(I:Inv X pins σ H s):∀{vs:List V} {its:List Value} {prs:List (Int×Int)},Vals vs its->Paired (GV H) vs prs->Paired (xq s.heap) its prs
 |_,_,_,.nil,.nil=>.nil
 |_,_,_,.cons r t,.cons r' t'=>by
  refine .cons ?_ (zo I t t');obtain⟨q,rfl,hq⟩:=r';have e:_=Value.ref q:=r;subst e;obtain⟨_,ts,tv,o,e1,c,n,d,_⟩:=(show aN X.prog X.w H s.heap q (.tup _) from I.aL q _ hq);obtain⟨u,w',rfl,⟨t1,rfl⟩,⟨t2,rfl⟩⟩:=vals2 tv;exact⟨q,o,n,t1,t2,rfl,e1,c,d⟩
theorem uf{vs:List V}{its:List Value}(h:Vals vs its):∀ix:List Nat,(∀i∈ix,i<vs.length)->Vals (ix.map λi=>vs.getD i .aI) (ix.map λi=>its.getD i Value.none)
 |[],_=>.nil
 |i::ix,hi=>by
  refine .cons ?_ (uf h ix λj hj=>hi j (Kx _ hj));have hl:=hi i (Kw ..);obtain⟨u,e,r⟩:=Vals.get h (Kg hl);show RelV (vs.getD i .aI) (its.getD i Value.none);rw[Ks,Ks,Kg hl,e];exact r
theorem rK(K:W.Frag)(hK:X.K=K):aX X (.builtin "sorted") (EL K):=by
 subst hK;intro pins s σ H xs us Q I r h;obtain⟨p,vs,prs,rfl,hq,hp,h64,q⟩:=h;obtain⟨u,rfl,ru⟩:=vals1 r;cases ru;obtain⟨its,rv,pl,hz⟩:=I.list hq;have hpa:=zo I rv hp;have l1:its.length=prs.length:=Paired.length hpa;have l2:vs.length=prs.length:=Paired.length hp;refine rS (κ:=tuples' true) (kz:=rk prs) pl.isList (by lia) (λh' hk=>uW (Paired.yQ hpa λa b ⟨x,o,n,t,u,e,ho,r⟩=>⟨x,o,n,t,u,e,hk _ _ ho,r⟩)) λpx a1 a2=>?_
 rw[l1] at a1;obtain⟨e,he⟩:=sortedAll_at s.heap its (List.toArray (px.toList.map λi=>its.getD i Value.none));refine⟨.ref (s.heap.objs.size+1),_,I.laid (t':=s.toks) (λb ob q=>sortedAll_old q) (LY _) (show aN X.prog X.w _ _ _ (.lst (px.toList.map λi=>vs.getD i .aI)) from⟨?_,_,e,uf rv px.toList (λi hi=>by rw[l2];exact Ln.mp (a1.mem_iff.mp hi)),by simpa using he⟩),rfl,q px.toList a1 (Hd a1 a2).2 _ (I.aL.fresh (LY _))⟩
 rw[Ki,a1.length_eq,KZ];exact Km (Me h64) (by decide)
end Y
open Builtin Builtin.Str
open PySem PySem.Spec PyProof PyProof.Rows
open Builtin Builtin.Str
open PySem PySem.Spec PyProof PyProof.Rows
open PySem PySem.Spec PyProof PyProof.Rows PySem.W
variable{X:Cx}{cs:List Nat}{E Q:Value->Shared->Prop}{x:Str}{P prog:Program}{w:World}{i:Nat}{base h h':Heap}{xs:List V}{β:Type}{g:TG}{K:W.Frag}{es ifs:List Expr}{a:Addr}{pins:List (Addr×Obj)}{σ:St}{H:Hp}{ta:TA}{p p2:Pos}{sp:Sp}{e elt iter tg:Expr}{osc scope:Scope}{N ON own:List Str}{tc:TT}{te:(Value->Option Addr->Addr->Hp->Prop)->TE}{st:Stmt}{mg:Str->Option Value}{fd:FuncData}{Dx:qS}
def ints_get:∀{ns:List Int} {its:List Value},Vals (ns.map V.int) its->∀(m:Nat) (y:Int),ns[m]?=some y->∃t,its[m]?=some (.int y t):=λr m y e=>by
 obtain⟨u,h1,h2⟩:=r.get (i:=m) (x:=V.int y) (by rw[Kn,e];rfl)
 obtain⟨t,rfl⟩:=(show RelV (.int y) u from h2);exact⟨t,h1⟩
namespace Y
def Hf:V->List V->Hp->VK->Prop:=λx vs H Q=>∃(a:Addr) (ws:List Int) (k:Int) (j:Nat),x=.ref a/\H a=some (.lst (ws.map V.int))/\vs=[.int k]/\ws[j]?=some k/\(∀m,m<j->ws[m]?≠some k)/\Q (.int (j:Nat)) H
def Cm:Hk X "list.index" Hf:=by
 intro pins s σ H x xs v us Q I rx rs h;obtain⟨a,ws,k,j,rfl,hH,rfl,hj,hno,q⟩:=h;cases rx;obtain⟨u,rfl,t,rfl⟩:=vals1 rs;obtain⟨z,its,n,r,hl,e⟩:=I.pe hH;obtain⟨t',hit⟩:=ints_get r j k hj;have hjl:j<ws.length:=(Kl.mp hj).1;rw[Ki] at z hl;have hji:j<its.toArray.size:=by rw[Kq];lia
 have sz:(sizeLine:Int)<2^63-1:=by decide
 have hje:its.toArray[j]=.int k t':=by
  have:its.toArray[j]?=some (.int k t'):=by rw[Lp];exact hit
  exact (KC.mp this).2
 have hall:∀(m:Nat) (hm:m<its.toArray.size),∃y ty,its.toArray[m]=.int y ty/\ws[m]?=some y:=λm hm=>by
  have hm':m<ws.length:=by rw[Kq] at hm;lia
  have e1:=Kg hm';obtain⟨ty,hy⟩:=ints_get r m _ e1;have:its.toArray[m]?=some (.int ws[m] ty):=by rw[Lp];exact hy
  exact⟨_,ty,(KC.mp this).2,e1⟩
 refine MI PySem.F.slot_list_index ⟨_,e,rfl⟩ PySem.F.entry_list_index (PySem.F.args_list_index_2 _ _) (SeqAt.list_indexAt a its.toArray n none _ (.int k t) (λy=>match y with|.int y _=>y == k|_=>false) j hji (by lia) (by rw[hje];exact L3 k) λm hm hmj=>?_) ⟨e,λy hy=>?_,⟨.int (j:Nat),H,I.tok _,⟨_,rfl⟩,q⟩⟩
 ·obtain⟨y,ty,ey,ew⟩:=hall m hm;rw[ey];exact Lb.mpr λz=>hno m hmj (by rw[ew,z])
 ·obtain⟨m,hm,rfl⟩:=Pe.mp hy;obtain⟨y,ty,ey,ew⟩:=hall m hm;rw[ey];exact SeqAt.EqAt.int_int _ _ _ _
end Y
open PySem PySem.Calls PySem.NumText PySem.Spec PyProof PyProof.Rows
def eO(cs:List Nat):Nat:=cs.foldl (λa c=>a*2+(c-48)) 0
def cH(cs:List Nat):Prop:=∀c∈cs,c=48\/c=49
def Ha{c:Nat}(h:c=48\/c=49)(ds:Array Nat)(b:Bool):step 2 (ds,b) c=some (ds.push (c-48),true):=by
 rcases h with rfl|rfl<;>rfl
theorem CO:∀(cs:List Nat) (ds:Array Nat) (b:Bool),cH cs->∃ds':Array Nat,cs.foldlM (step 2) (ds,b)=some (ds',b || !cs.isEmpty)/\ds'.foldl (λa d=>a*2+d) 0=cs.foldl (λa c=>a*2+(c-48)) (ds.foldl (λa d=>a*2+d) 0)
 |[],ds,b,_=>⟨ds,by simp,rfl⟩
 |c::cs,ds,b,h=>by
  obtain⟨ds',e1,e2⟩:=CO cs (ds.push (c-48)) true λx hx=>h x (Kx _ hx);refine⟨ds',?_,?_⟩
  ·rw[List.foldlM_cons,Ha (h c Kw)];show cs.foldlM (step 2) (ds.push (c-48),true)=_;rw[e1];simp
  ·rw[e2,Array.foldl_push,OL]
def uU{c:Nat}(h:c=48\/c=49):blank c=false:=by rcases h with rfl|rfl<;>rfl
def oJ(h:cH cs):cs.dropWhile blank=cs:=by
 cases cs with
 |nil=>rfl
 |cons c cs=>rw[Nn,uU (h c Kw)];rfl
def xg(h:cH cs):sign cs=(false,cs):=by
 cases cs with
 |nil=>rfl
 |cons c cs=>rcases h c Kw with rfl|rfl<;>rfl
def v_(h:cH cs):based 2 cs=(2,false,cs):=by
 have e:PySem.NumText.prefix? cs=none:=by
  rcases cs with _|⟨c,_|⟨d,cs⟩⟩
  ·rfl
  ·rcases h c Kw with rfl|rfl<;>rfl
  ·rcases h c Kw with rfl|rfl
   ·rcases h d (Kx _ Kw) with rfl|rfl<;>rfl
   ·rfl
 unfold based;rw[e];rfl
def yA{cs:List Nat}(h:cH cs)(h0:cs≠[]):(int_private% "readNumeral") 0 2 cs=(int_private% "Numeral.value") (eO cs:Int):=by
 rw[readNumeral_eq,oJ h,xg h];show judge 0 false (based 2 cs).1 (based 2 cs).2.1 (digits? (based 2 cs).1 (((based 2 cs).2.2.reverse.dropWhile blank).reverse))=_;rw[v_ h];show judge 0 false 2 false (digits? 2 ((cs.reverse.dropWhile blank).reverse))=_;rw[oJ (cs:=cs.reverse) (λc hc=>h c (Mm.mp hc)),Nd];obtain⟨ds,e1,e2⟩:=CO cs #[] false h;have e3:digits? 2 cs=some ds:=by
  unfold digits?;rw[e1]
  cases cs with
  |nil=>exact absurd rfl h0
  |cons=>rfl
 rw[e3];show (int_private% "Numeral.value") ((ds.foldl (λacc d=>acc*2+d) 0:Nat):Int)=_;rw[e2];rfl
theorem qA:∀{cs:List Nat},cH cs->cs.takeWhile (· != 0)=cs
 |[],_=>rfl
 |c::cs,h=>by
  rw[NU,show (c != 0)=true by rcases h c Kw with rfl|rfl<;>rfl,Ku rfl,qA λx hx=>h x (Kx _ hx)]
def yq{M:Model}{A:Around}{s:Shared}{v:Value}{text:List Nat}{n:Int}
  (hs:(text.takeWhile (· != 0)).length<=640) (hr:(int_private% "readNumeral") 0 2 (text.takeWhile (· != 0))=(int_private% "Numeral.value") n)
  (ha:((text.takeWhile (· != 0)).length == text.length)=true) (h:Q (.int n s.toks) {s with toks:=s.toks+1}) :
  wpAny M A ((int_private% "intFromText") v text 2) Q E s:=by
 obtain⟨hp,g,d,tk,os⟩:=s
 repeat (any_goals (first
  |assumption
  | (with_reducible refine N_ (KY hs) ?_)
  | (with_reducible refine N_ (KY ha) ?_)
  |wp_step))
 all_goals (try rw[hr])
 all_goals (try dsimp only)
 repeat (any_goals (first
  |assumption
  | (with_reducible refine N_ (KY hs) ?_)
  | (with_reducible refine N_ (KY ha) ?_)
  |wp_step))
def pd{x:PySem.Str}{u t:Tok}(hl:x.length<=640)(hb:cH x.cps.toList)(h0:x.cps.toList≠[]):Gives (Builtin.«int.__new__» ⟨[.type "int",.str x u,.int 2 t],[]⟩) (.int (eO x.cps.toList)):=
 .of_wp λM A E s Q h=>by
  obtain⟨hp,g,d,tk,os⟩:=s;have f1:=F.conv_sub_int;have f2:=F.madeHere_int;have f6:typeOf (.str x u)=pure (.type "str"):=rfl;have ht:x.cps.all (· < 128)=true:=by
   rw[<- Array.all_toList,M0];intro c hc;rcases hb c hc with rfl|rfl<;>rfl
  have hs:=qA hb;have hk:=W.KIN.Hid.mk (And.intro (show (x.cps.toList.takeWhile (· != 0)).length<=640 by rw[hs];exact hl) (And.intro (show (int_private% "readNumeral") 0 2 (x.cps.toList.takeWhile (· != 0))=(int_private% "Numeral.value") (eO x.cps.toList:Int) by rw[hs];exact yA hb h0) (show ((x.cps.toList.takeWhile (· != 0)).length == x.cps.toList.length)=true by rw[hs];simp)))
  clear hs hl hb h0
  repeat (any_goals (first
   |assumption
   | ((with_reducible show wpAny _ _ ((int_private% "intFromText") _ _ _) _ _ _);(try rw[Ku ht]);refine yq hk.out.1 hk.out.2.1 hk.out.2.2 ?_)
   |wp_step))
  all_goals first|exact⟨_,rfl,h⟩|skip
def kl(a b:Value):checkTypeCall "int" ⟨[a,b],[]⟩=pure ():=by kernel_rfl
def lB(a b:Value):checkBuiltinCall "int.__new__" ⟨[.type "int",a,b],[]⟩=pure ():=by kernel_rfl
def rL{A:Around}{s:Shared}{x:PySem.Str}{u t:Tok}(hl:x.length<=640)(hb:cH x.cps.toList)(h0:x.cps.toList≠[])(h:Q (.int (eO x.cps.toList) s.toks) {s with toks:=s.toks+1}):wpAny (model prog w) A (call (.type "int") [.str x u,.int 2 t]) Q E s:=
 O6 F.called_int F.newNe_int (kl _ _) (lB _ _) (λobj=>F.args_object_init_3 obj _ _) F.entry_int_new (pd hl hb h0).meets (show (Made.int _).post _ s from⟨rfl,h⟩)
def CZ:List V->Hp->VK->Prop:=λxs H Q=>∃z:Str,xs=[.str z,.int 2]/\z.length<=640/\cH z.cps.toList/\z.cps.toList≠[]/\Q (.int (eO z.cps.toList)) H
def lO:aX X (.type "int") CZ:=by
 intro pins s σ H xs us Q I r h;obtain⟨z,rfl,h1,h2,h3,q⟩:=h;obtain⟨u,v,rfl,⟨t,rfl⟩,⟨t',rfl⟩⟩:=vals2 r;exact rL h1 h2 h3 ⟨.int _,H,I.tok _,⟨_,rfl⟩,q⟩
abbrev Src:=Bool×Addr×Addr
variable{q:Src}
abbrev fo(h:Heap)(T:Addr)(xs:List Value):Prop:=h.get? T=some {cls:=.type "tuple",data:=.seq xs.toArray}
structure Zn (z TI TO:Addr) (S:List Src):Prop where
 zt:TI≠z/\TO≠z/\TI≠TO
 it:∀q∈S,q.2.1≠z/\q.2.1≠TI/\q.2.1≠TO
 sr:∀q∈S,q.2.2≠z/\q.2.2≠TO/\∀p∈S,q.2.2≠p.2.1
 nd:(S.map λq=>q.2.1).Nodup
def sx(i:Nat)(h:Heap)(q:Src):Prop:=jX q.1 h q.2.1 q.2.2 i
def C6(h:Heap)(q:Src)(xs:Array Value):Prop:=cf q.1 h q.2.2 xs
def sx.kp(x:sx i h q)(k:∀o,h.get? q.2.1=some o->h'.get? q.2.1=some o):sx i h' q:=by
 obtain⟨b,it,a⟩:=q
 cases b with
 |true=>obtain⟨o,e,r⟩:=(show h.IsListIter it a i from x);exact⟨o,k o e,r⟩
 |false=>obtain⟨o,e,r⟩:=(show h.IsTupleIter it a i from x);exact⟨o,k o e,r⟩
def C6.kp{xs:Array Value}(x:C6 h q xs)(k:∀o,h.get? q.2.2=some o->h'.get? q.2.2=some o):C6 h' q xs:=by
 obtain⟨b,it,a⟩:=q
 cases b with
 |true=>obtain⟨o,e,r⟩:=(show h.IsList a xs from x);exact⟨o,k o e,r⟩
 |false=>obtain⟨o,e,r⟩:=(show h.IsTuple a xs from x);exact⟨o,k o e,r⟩
def qE(i:Nat)(h:Heap)(q:Src)(u:Value):Prop:=sx i h q/\∃xs,C6 h q xs/\xs[i]?=some u
def qE.kp{u:Value}(x:qE i h q u)(k:∀c o,c=q.2.1\/c=q.2.2->h.get? c=some o->h'.get? c=some o):qE i h' q u:=⟨x.1.kp λo=>k _ o (.inl rfl),let ⟨xs,a,b⟩:=x.2;⟨xs,a.kp λo=>k _ o (.inr rfl),b⟩⟩
section
variable {prog:Program} {w:World} {A:Around} {E:Value->Shared->Prop} {z TI TO:Addr} {S:List Src} {i:Nat}
def Step(prog:Program)(w:World)(A:Around)(E:Value->Shared->Prop)(z TI TO:Addr)(S:List Src)(i:Nat)(f:Value×Nat->β->Sem (ForInStep β))(b:β):Prop:=
 ∀q∈S,∀(j:Nat) (arr:List Value) (u:Value) (s:Shared) (Q:ForInStep β->Shared->Prop),IsZip s.heap z TI TO .ellipsis->fo s.heap TO arr->arr.length<=3->qE i s.heap q u ->
  (∀h' tk,fo h' TO (arr.set j u)->sx (i+1) h' q->(∀c o,c≠TO->c≠q.2.1->s.heap.get? c=some o->h'.get? c=some o)->h'.objs.size=s.heap.objs.size->Q (.yield b) {s with heap:=h',toks:=tk})->wpAny (model prog w) A (f (.ref q.2.1,j) b) Q E s
def AZ(D:Zn z TI TO S){f:Value×Nat->β->Sem (ForInStep β)}{b:β}(hf:Step prog w A E z TI TO S i f b):
  ∀(todo:List Src) (us pre old:List Value) (s:Shared) (Q:β->Shared->Prop),(∀q∈todo,q∈S)->(todo.map λq=>q.2.1).Nodup->IsZip s.heap z TI TO .ellipsis->fo s.heap TO (pre++old)->(pre++old).length<=3->old.length=todo.length->Paired (qE i s.heap) todo us ->
  (∀h' tk,IsZip h' z TI TO .ellipsis->fo h' TO (pre++us)->(∀q∈todo,sx (i+1) h' q)->(∀c o,c≠TO->(∀q∈todo,c≠q.2.1)->s.heap.get? c=some o->h'.get? c=some o)->h'.objs.size=s.heap.objs.size->Q b {s with heap:=h',toks:=tk}) ->
  wpAny (model prog w) A (forIn ((todo.map λq=>Value.ref q.2.1).zipIdx pre.length) b f) Q E s:=by
 intro todo
 induction todo with
 |nil =>
  intro us pre old s Q _ _ hz ht _ hl dr k;obtain rfl:=Paired.vU dr;have e:old=[]:=ME.mp hl;subst e;rw[MS,List.zipIdx_nil,List.forIn_nil];exact Kt (k s.heap s.toks hz ht (λq hq=>(nomatch hq)) (λc o _ _ h=>h) rfl)
 |cons q todo ih =>
  intro us pre old s Q hm nd hz ht hn hl dr k;obtain⟨u,us,rfl,du,dr⟩:=Paired.dm dr
  cases old with
  |nil=>cases hl
  |cons o old =>
   rw[KA,LV] at nd;have hq:=hm q Kw;rw[KA,OD,NM];refine Kh (hf q hq pre.length _ u s _ hz ht hn du λh1 tk t1 a1 kp sz=>?_);rw[Pm _ _ (Kp _),LH,Og,<- Pn,<- KN] at t1;have di:=D.it q hq;have z1:IsZip h1 z TI TO .ellipsis:=kp _ _ D.zt.2.1.symm di.1.symm hz;show wpAny _ _ (forIn _ b f) _ _ _;rw[show pre.length+1=(pre++[u]).length by rw[Kj];rfl]
   refine ih us (pre++[u]) old {s with heap:=h1,toks:=tk} Q (λp hp=>hm p (Kx _ hp)) nd.2 z1 t1 (by rw[KN,Kj] at *;exact hn) (Nat.succ.inj hl) ?_ λh2 tk2 z2 t2 a2 kp2 sz2=>?_
   ·have key:∀{l:List Src} {vs:List Value},(∀p∈l,p∈q::todo)->(∀p∈l,p.2.1≠q.2.1)->Paired (qE i s.heap) l vs->Paired (qE i h1) l vs:=λ{l}=>by
     induction l with
     |nil=>intro vs _ _ h;obtain rfl:=Paired.vU h;exact .nil
     |cons p l ihl =>
      intro vs hp hne h;obtain⟨v,vs,rfl,dv,h⟩:=Paired.dm h;have hpS:=hm p (hp p Kw);refine .cons (dv.kp λc o hc e=>?_) (ihl (λx hx=>hp x (Kx _ hx)) (λx hx=>hne x (Kx _ hx)) h);rcases hc with rfl|rfl
      ·exact kp _ _ (D.it p hpS).2.2 (hne p Kw) e
      ·exact kp _ _ (D.sr p hpS).2.1 ((D.sr p hpS).2.2 q hq) e
    exact key (λp hp=>Kx _ hp) (λp hp e=>nd.1 (by rw[<- e];exact LW (f:=λq:Src=>q.2.1) hp)) dr
   ·refine k h2 tk2 z2 (by rw[KN] at t2;exact t2) (λp hp=>?_) (λc o c1 c2 e=>kp2 c o c1 (λp hp=>c2 p (Kx _ hp)) (kp c o c1 (c2 q Kw) e)) (sz2.trans sz)
    rcases Kv.mp hp with rfl|hp
    ·exact a1.kp λo e=>kp2 _ o di.2.2 (λx hx e2=>nd.1 (by rw[e2];exact LW (f:=λq:Src=>q.2.1) hx)) e
    ·exact a2 p hp
def Gw(prog:Program)(w:World)(A:Around)(E:Value->Shared->Prop)(z TI TO:Addr)(S:List Src)(i:Nat)(f:Value×Nat->β->Sem (ForInStep β))(b:β):Prop:=
 ∀q∈S,∀(j:Nat) (s:Shared) (Q:ForInStep β->Shared->Prop),IsZip s.heap z TI TO .ellipsis->sx i s.heap q->(∃xs:Array Value,C6 s.heap q xs/\xs.size=i) ->
  (∀h' e tk,(∀c o,c≠z->c≠q.2.1->s.heap.get? c=some o->h'.get? c=some o)->(∃o,h'.get? e=some o/\o.cls=.type "StopIteration")->E (.ref e) {s with heap:=h',toks:=tk})->wpAny (model prog w) A (f (.ref q.2.1,j) b) Q E s
def A7(D:Zn z TI TO S){f:Value×Nat->β->Sem (ForInStep β)}{b:β}(hf:Step prog w A E z TI TO S i f b)(he:Gw prog w A E z TI TO S i f b){r:List Src}:
  ∀(a:List Src) (us pre old:List Value) (s:Shared) (Q:β->Shared->Prop),(∀p∈a++q::r,p∈S)->((a++q::r).map λq=>q.2.1).Nodup->IsZip s.heap z TI TO .ellipsis->fo s.heap TO (pre++old)->(pre++old).length<=3->a.length<old.length->Paired (qE i s.heap) a us->sx i s.heap q->(∃xs:Array Value,C6 s.heap q xs/\xs.size=i) ->
  (∀h' e tk,(∀c o,c≠z->c≠TO->(∀q∈S,c≠q.2.1)->s.heap.get? c=some o->h'.get? c=some o)->(∃o,h'.get? e=some o/\o.cls=.type "StopIteration")->E (.ref e) {s with heap:=h',toks:=tk}) ->
  wpAny (model prog w) A (forIn (((a++q::r).map λq=>Value.ref q.2.1).zipIdx pre.length) b f) Q E s:=by
 intro a
 induction a with
 |nil =>
  intro us pre old s Q hm nd hz ht hn hl dr hi hx k;have hq:=hm q Kw;rw[L8,KA,OD,NM];exact Kh (he q hq _ s _ hz hi hx λh' e tk kp ho=>k h' e tk (λc o c1 _ c3 x=>kp c o c1 (c3 q hq) x) ho)
 |cons p a ih =>
  intro us pre old s Q hm nd hz ht hn hl dr hi hx k;obtain⟨u,us,rfl,du,dr⟩:=Paired.dm dr
  cases old with
  |nil=>exact absurd hl (NR _)
  |cons o old =>
   rw[LP,KA,LV] at nd;have hp:=hm p Kw;rw[LP,KA,OD,NM];refine Kh (hf p hp pre.length _ u s _ hz ht hn du λh1 tk t1 a1 kp sz=>?_);rw[Pm _ _ (Kp _),LH,Og,<- Pn,<- KN] at t1;have z1:IsZip h1 z TI TO .ellipsis:=kp _ _ D.zt.2.1.symm (D.it p hp).1.symm hz;have ne:∀x∈a++q::r,x.2.1≠p.2.1:=λx hx e=>nd.1 (by rw[<- e];exact LW (f:=λq:Src=>q.2.1) hx)
   have up:∀x∈a++q::r,∀c o,c=x.2.1\/c=x.2.2->s.heap.get? c=some o->h1.get? c=some o:=λx hx c o hc e=>by
    have hxS:=hm x (Kx _ hx);rcases hc with rfl|rfl
    ·exact kp _ _ (D.it x hxS).2.2 (ne x hx) e
    ·exact kp _ _ (D.sr x hxS).2.1 ((D.sr x hxS).2.2 p hp) e
   have hqm:q∈a++q::r:=KG _ Kw;show wpAny _ _ (forIn _ b f) _ _ _;rw[show pre.length+1=(pre++[u]).length by rw[Kj];rfl]
   refine ih us (pre++[u]) old {s with heap:=h1,toks:=tk} Q (λx hx=>hm x (Kx _ hx)) nd.2 z1 t1 (by rw[KN,Kj] at *;exact hn) (OY hl) ?_ (hi.kp λo=>up q hqm _ o (.inl rfl)) (let ⟨xs,x1,x2⟩:=hx;⟨xs,x1.kp λo=>up q hqm _ o (.inr rfl),x2⟩) λh2 e tk2 kp2 ho=>k h2 e tk2 (λc o c1 c2 c3 x=>kp2 c o c1 c2 c3 (kp c o c2 (c3 p hp) x)) ho
   have key:∀{l:List Src} {vs:List Value},(∀x∈l,x∈a)->Paired (qE i s.heap) l vs->Paired (qE i h1) l vs:=λ{l}=>by
    induction l with
    |nil=>intro vs _ h;obtain rfl:=Paired.vU h;exact .nil
    |cons y l ihl =>
     intro vs hy h;obtain⟨v,vs,rfl,dv,h⟩:=Paired.dm h;exact .cons (dv.kp (up y (LD _ (hy y Kw)))) (ihl (λx hx=>hy x (Kx _ hx)) h)
   exact key (λx h=>h) dr
def AR(D:Zn z TI TO S){f:Value×Nat->β->Sem (ForInStep β)}{b:β}(hf:Step prog w A E z TI TO S i f b)(he:Gw prog w A E z TI TO S i f b){old:List Value}{s:Shared}{Q:β->Shared->Prop}(hz:IsZip s.heap z TI TO .ellipsis)(ht:fo s.heap TO old)(hn:old.length<=3)(hl:old.length=S.length)
  (hh:(∃us,Paired (qE i s.heap) S us/\∀h' tk,IsZip h' z TI TO .ellipsis->fo h' TO us->(∀q∈S,sx (i+1) h' q)->(∀c o,c≠TO->(∀q∈S,c≠q.2.1)->s.heap.get? c=some o->h'.get? c=some o)->h'.objs.size=s.heap.objs.size->Q b {s with heap:=h',toks:=tk}) \/
   ∃a q r us,S=a++q::r/\Paired (qE i s.heap) a us/\sx i s.heap q/\(∃xs:Array Value,C6 s.heap q xs/\xs.size=i)/\∀h' e tk,(∀c o,c≠z->c≠TO->(∀q∈S,c≠q.2.1)->s.heap.get? c=some o->h'.get? c=some o)->(∃o,h'.get? e=some o/\o.cls=.type "StopIteration")->E (.ref e) {s with heap:=h',toks:=tk}) :
  wpAny (model prog w) A (forIn ((S.map λq=>Value.ref q.2.1).zipIdx) b f) Q E s:=by
 rcases hh with ⟨us,dr,k⟩|⟨a,q,r,us,rfl,dr,hi,hx,k⟩
 ·exact AZ D hf S us [] old s Q (λq h=>h) D.nd hz ht hn hl dr k
 ·exact A7 D hf he a us [] old s Q (λq h=>h) D.nd hz ht hn (by rw[show old.length=_ from hl,Kj,K2];lia) dr hi hx k
def Hs{s:Shared}{T:Addr}{xs:List Value}{x:Value}{k:Nat}{Q:Unit->Shared->Prop}(hT:fo s.heap T xs)(hn:xs.length<=3)
  (h:∀h',fo h' T (xs.set k x)->Heap.SameBut T s.heap h'->Q () {s with heap:=h'}) :
  wpAny (model prog w) A (updateSeq T (·.setIfInBounds k x)) Q E s:=by
 refine wpAny_updateSeq (hz:=by rw[Kq];exact Km hn (by decide)) (_hz':=by rw[Array.size_setIfInBounds,Kq];exact Km hn (by decide)) hT rfl (h _ ?_ (LK ..))
 show Heap.get? _ _=_;rw[LM _ hT rfl];simp[Obj.mapSeq]
def gJ{α:Type}{P:α->β->Prop}{l:List α}{vs:List β}(h:Paired P l vs):vs.length=l.length:=by
 induction h with
 |nil=>rfl
 |cons _ _ ih=>exact Lg (·+1) ih
def tU{g:Heap}{l:List Src}{vs:List Value}(k:∀q∈l,∀c o,c=q.2.1\/c=q.2.2->h.get? c=some o->g.get? c=some o)(r:Paired (qE i h) l vs):Paired (qE i g) l vs:=by
 induction r with
 |nil=>exact .nil
 |cons d _ ih=>exact .cons (d.kp (k _ Kw)) (ih λq hq=>k q (Kx _ hq))
def Hm{s:Shared}{old:List Value}(D:Zn z TI TO S)(hS:S≠[])(hA:A.handled=none)(hz:IsZip s.heap z TI TO .none)(hTI:fo s.heap TI (S.map λq=>.ref q.2.1))(hTO:fo s.heap TO old)(hl:old.length=S.length)(hn:S.length<=3)
  (hh:(∃us,Paired (qE i s.heap) S us/\∀h' tk,IsZip h' z TI TO (rawInt s.heap.objs.size)->fo h' TO us->(∀q∈S,sx (i+1) h' q)->fo h' s.heap.objs.size us->(∀c o,c≠z->c≠TO->(∀q∈S,c≠q.2.1)->s.heap.get? c=some o->h'.get? c=some o)->Q (.ref s.heap.objs.size) {s with heap:=h',toks:=tk}) \/
   ∃a q r us,S=a++q::r/\Paired (qE i s.heap) a us/\sx i s.heap q/\(∃xs:Array Value,C6 s.heap q xs/\xs.size=i)/\∀h' e tk,(∀c o,c≠z->c≠TO->(∀q∈S,c≠q.2.1)->s.heap.get? c=some o->h'.get? c=some o)->(∃o,h'.get? e=some o/\o.cls=.type "StopIteration")->E (.ref e) {s with heap:=h',toks:=tk}) :
  wpAny (model prog w) A (Builtin.«zip.__next__» ⟨[.ref z],[]⟩) (λfin s'=>∃v,fin=.done (.ret v)/\Q v s') E s:=by
 obtain⟨q0,S',rfl⟩:=List.exists_cons_of_ne_nil hS;have zrec:=hz;show wpAny _ _ (field (.ref z) 2 >>= _) _ _ _;refine Kh (Ly zrec rfl (x:=.bool false) rfl ?_);show wpAny _ _ (field (.ref z) 3 >>= _) _ _ _;refine Kh (Ly zrec rfl (x:=.ref TI) rfl ?_);refine Kh (MU hTI rfl ?_);show wpAny _ _ (Builtin.SmallTypes.ownedTupleIsFree (.ref z) >>= _) _ _ _;refine Kh ?_;unfold Builtin.SmallTypes.ownedTupleIsFree;refine Kh (Ly zrec rfl (x:=.none) rfl (Kt ?_));simp only[MT];refine Kh (Pp ?_);refine Kh (Ly zrec rfl (x:=.ref TO) rfl ?_);refine Kh (N4 zrec (by simp) λg1 zr1 sb1=>?_)
 replace zr1:IsZip g1 z TI TO .ellipsis:=zr1
 refine Kh ?_;have old3:∀q∈q0::S',∀c o,c=q.2.1\/c=q.2.2->s.heap.get? c=some o->g1.get? c=some o:=λq hq c o hc e=>by
  rcases hc with rfl|rfl
  ·exact sb1.extBut _ _ (D.it q hq).1 e
  ·exact sb1.extBut _ _ (D.sr q hq).1 e
 refine AR D (i:=i) ?hf ?he (old:=old) zr1 (sb1.extBut _ _ D.zt.2.1 hTO) (by lia) hl (hh.imp (λ⟨us,dr,hQ⟩=>⟨us,tU old3 dr,?k⟩) λ⟨a,q,r,us,eS,dr,hi,hx,hE⟩=>⟨a,q,r,us,eS,tU (λp hp=>old3 p (by rw[eS];exact LD _ hp)) dr,hi.kp λo=>old3 q (by rw[eS];exact KG _ Kw) _ o (.inl rfl),(let ⟨xs,x1,x2⟩:=hx;⟨xs,x1.kp λo=>old3 q (by rw[eS];exact KG _ Kw) _ o (.inr rfl),x2⟩),λh' e tk kp ho=>hE h' e tk (λc o c1 c2 c3 x=>kp c o c1 c2 c3 (sb1.extBut _ _ c1 x)) ho⟩)
 case hf =>
  intro q hq j arr u s1 Q1 hz1 ht1 hn1 d1 k1;obtain⟨hi,xs,hx,hu⟩:=d1;refine Kh (wpAny_onRaise ?_);show wpAny _ _ (Builtin.SmallTypes.nextOf (.ref q.2.1) >>= _) _ _ _;have lt:i<xs.size:=(KC.mp hu).1;refine Kh ((uk q.1 hA q.2.1 q.2.2 ((D.sr q hq).2.2 q hq) xs).item i _ _ _ lt ⟨hi,hx⟩ λx g2 tk2 px st2 sb2=>Kt ?_);have ex:x=u:=by rw[hu] at px;exact (Option.some.inj px).symm
  subst ex;have to2:fo g2 TO arr:=sb2.extBut _ _ (D.it q hq).2.2.symm ht1;refine Kh (MU to2 rfl ?_);refine Kh (Hs to2 hn1 λg3 to3 sb3=>?_);refine Kh (wpAny_letGo (Kt ?_));exact k1 g3 _ to3 (sx.kp (q:=q) st2.1 λo e=>sb3.extBut _ _ (D.it q hq).2.2 e) (λc o c1 c2 e=>sb3.extBut _ _ c1 (sb2.extBut _ _ c2 e)) (by rw[sb3.1,sb2.1])
 case he =>
  intro p hp j s1 Q1 hz1 hi1 hx1 k1;obtain⟨xs,hx1,hsz⟩:=hx1;refine Kh (wpAny_onRaise ?_);show wpAny _ _ (Builtin.SmallTypes.nextOf (.ref p.2.1) >>= _) _ _ _;subst hsz;refine Kh ((uk p.1 hA p.2.1 p.2.2 ((D.sr p hp).2.2 p hp) xs).done _ _ _ ⟨hi1,hx1⟩ λg2 e sb2 he=>?_);obtain⟨oe,hoe,hce⟩:=he;have zr2:IsZip g2 z TI TO .ellipsis:=sb2 _ _ (D.it p hp).1.symm hz1;have nez:e≠z:=λq=>by subst q;rw[zr2] at hoe;cases hoe;simp at hce
  exact N4 zr2 (by simp) λg3 _ sb3=>k1 g3 e _ (λc o e1 e3 q=>sb3.extBut _ _ e1 (sb2 _ _ e3 q)) ⟨oe,sb3.extBut _ _ nez hoe,hce⟩
 case k =>
  intro g2 tk z2 t2 a2 kp2 sz2;have hu3:us.length<=3:=by rw[gJ dr];exact hn
  replace t2:fo g2 TO us:=t2
  show wpAny _ _ (seqItems? (.ref TO) >>= _) _ _ _;refine Kh (MU t2 rfl ?_);refine Kh (Pj ?_ (Km hu3 (by decide)))
  have size2:g2.objs.size=s.heap.objs.size:=sz2.trans sb1.1;have zlt:z<g2.objs.size:=Kz z2;show wpAny _ _ (Builtin.SmallTypes.ownedTupleHandOut (.ref z) (.ref g2.objs.size) >>= _) _ _ _;refine Kh ?_;unfold Builtin.SmallTypes.ownedTupleHandOut;have zr6:IsZip (g2.push {cls:=.type "tuple",data:=.seq us.toArray}) z TI TO .ellipsis:=Kk _ z2;refine Kh (N4 zr6 (by simp) λg8 zr8 sb8=>?_)
  replace zr8:IsZip g8 z TI TO (rawInt g2.objs.size):=zr8
  refine N4 zr8 (by simp) λg9 zr9 sb9=>?_
  replace zr9:IsZip g9 z TI TO (rawInt g2.objs.size):=zr9
  have up:∀c o,c≠z->g2.get? c=some o->g9.get? c=some o:=λc o e1 q=>sb9.extBut _ _ e1 (sb8.extBut _ _ e1 (Kk _ q));have pr8:fo g9 g2.objs.size us:=sb9.extBut _ _ (LX zlt) (sb8.extBut _ _ (LX zlt) (K1 _ rfl));rw[size2] at zr9 pr8;refine Kt ⟨_,rfl,?_⟩;show Q (.ref g2.objs.size) _;rw[size2];exact hQ g9 _ zr9 (up _ _ D.zt.2.1 t2) (λq hq=>(a2 q hq).kp λo e=>up _ o (D.it q hq).1 e) pr8 λc o e1 e2 e3 q=>up c o e1 (kp2 c o e2 e3 (sb1.extBut _ _ e1 q))
end
def Ae(K:W.Frag)(S:List Src):It:=
  ⟨λi H=>∃vs,Paired (λ(q:Src) v=>∃xs,hJ K q.1 H q.2.2 xs/\xs[i]?=some v) S vs,
   λi H v H'=>∃p vs,Paired (λ(q:Src) x=>∀xs,hJ K q.1 H q.2.2 xs->xs[i]?=some x) S vs/\H p=none/\v=.ref p/\H'=upd H p (.tup vs),
   λi H=>∃a q r vs,S=a++q::r/\Paired (λ(q:Src) v=>∃xs,hJ K q.1 H q.2.2 xs/\xs[i]?=some v) a vs/\∃xs,hJ K q.1 H q.2.2 xs/\xs.length=i⟩
section
variable {X:Cx} {pins:List (Addr×Obj)} {σ:St} {H:Hp} {s:Shared} {i:Nat}
def yi(I:Inv X pins σ H s){l:List Src}{vs:List V}(hi:∀q∈l,sx i s.heap q)(h:Paired (λ(q:Src) v=>∃xs,hJ X.K q.1 H q.2.2 xs/\xs[i]?=some v) l vs):∃us,Paired (qE i s.heap) l us/\Vals vs us/\Paired (λ(q:Src) x=>∀xs,hJ X.K q.1 H q.2.2 xs->xs[i]?=some x) l vs:=by
 induction h with
 |nil=>exact⟨[],.nil,.nil,.nil⟩
 |cons d r ih =>
  obtain⟨us,h1,h2,h3⟩:=ih λp hp=>hi p (Kx _ hp);obtain⟨xs,hx,ex⟩:=d;obtain⟨its,rv,p1⟩:=I.pU hx;obtain⟨u,hu,ru⟩:=rv.get ex;exact⟨u::us,.cons ⟨hi _ Kw,its.toArray,p1,by rw[Lp];exact hu⟩ h1,.cons ru h2,.cons (λys hy=>by rw[I.zX hy hx];exact ex) h3⟩
end
def vd{tk:Nat}{tp:Pos}(S:List Src)(z TI TO:Addr)(D:Zn z TI TO S)(hS:S≠[])(hn:S.length<=3):
  Turn P w K (.Tuple es tk tp) (Ae K S) (z::TI::TO::S.map λq=>q.2.1) z (λi h=>IsZip h z TI TO .none/\fo h TI (S.map λq=>.ref q.2.1)/\(∃old,fo h TO old/\old.length=S.length)/\∀q∈S,sx i h q) where
 mem:=Kw
 obj:=λi h st c hc=>by
  obtain⟨s1,s2,⟨old,s3,_⟩,s4⟩:=st;rcases Kv.mp hc with rfl|hc
  ·exact⟨_,s1,λv q=>by cases q⟩
  rcases Kv.mp hc with rfl|hc
  ·exact⟨_,s2,λv q=>by cases q⟩
  rcases Kv.mp hc with rfl|hc
  ·exact⟨_,s3,λv q=>by cases q⟩
  obtain⟨q,hq,rfl⟩:=Ll.mp hc;obtain⟨o,e,_,d⟩:=jX.ty (s4 q hq);exact⟨o,e,λv q=>by rw[d] at q;cases q⟩
 keep:=λi h h' st k=>by
  obtain⟨s1,s2,⟨old,s3,s3'⟩,s4⟩:=st;exact⟨k z (by simp) _ s1,k TI (by simp) _ s2,⟨old,k TO (by simp) _ s3,s3'⟩,λq hq=>(s4 q hq).kp (k _ (Kx _ (Kx _ (Kx _ (LW (f:=λq:Src=>q.2.1) hq)))))⟩
 item:=by
  intro X hP hw hK hc i pins s σ H E I hf st hg;subst hP hw hK;obtain⟨vs,hg⟩:=hg;obtain⟨s1,s2,⟨old,s3,s3'⟩,s4⟩:=st;obtain⟨us,h1,h2,h3⟩:=yi I s4 hg;have hT:s.TypeIs (.ref z) "zip":=⟨_,s1,rfl⟩;unfold pyNext;refine Kh (MG (LA (name:=Str.ofString "__next__") hT PySem.F.slot_zip_next (LF PySem.F.slot_zip_next hT PySem.F.entry_zip_next
   (Hm D hS (I.ok.hd hc) s1 s2 s3 s3' hn (.inl ⟨us,h1,λh' tk' z1 t1 a1 pr kp=>Kt ?_⟩)) (PySem.F.args_zip_next_1 _))))
  have fr:H s.heap.objs.size=none:=I.aL.fresh (Kp _);have lt:∀{c o},s.heap.get? c=some o->s.heap.objs.size≠c:=λe=>LX (Kz e);refine⟨.ref s.heap.objs.size,rfl,wpAny_letOwnedTupleGo_zip z1 λh2' z2 sb2=>?_⟩;have pr2:fo h2' s.heap.objs.size us:=sb2.extBut _ _ (lt s1) pr;have hvl:vs.length<=3:=by rw[gJ hg];exact hn
  have I2:Inv X pins σ (upd H s.heap.objs.size (.tup vs)) {s with heap:=h2',toks:=tk'}:=by
   refine I.oh (fp:=z::TI::TO::S.map λq=>q.2.1) hf (Kp _) (λc o hcm ec=>?_) ⟨Km hvl (by decide),us,h2,⟨_,pr2,rfl,_,rfl,rfl⟩⟩
   simp only[Kv,not_or] at hcm;exact sb2.extBut _ _ hcm.1 (kp c o hcm.1 hcm.2.2.1 (λq hq e=>hcm.2.2.2 (by rw[e];exact LW (f:=λq:Src=>q.2.1) hq)) ec)
  refine⟨.ref s.heap.objs.size,_,I2,rfl,⟨s.heap.objs.size,vs,h3,fr,rfl,rfl⟩,⟨z2,?_,⟨us,?_,?_⟩,λq hq=>?_⟩,λc hcm=>?_⟩
  ·exact sb2.extBut _ _ D.zt.1 (kp _ _ D.zt.1 D.zt.2.2 (λq hq=>(D.it q hq).2.1.symm) s2)
  ·exact sb2.extBut _ _ D.zt.2.1 t1
  ·exact gJ h1
  ·exact (a1 q hq).kp λo e=>sb2.extBut _ _ (D.it q hq).1 e
  ·have hn:=(hf c hcm).1;rw[ae]
   ·exact hn
   ·rcases Kv.mp hcm with rfl|hcm
    ·exact (lt s1).symm
    rcases Kv.mp hcm with rfl|hcm
    ·exact (lt s2).symm
    rcases Kv.mp hcm with rfl|hcm
    ·exact (lt s3).symm
    obtain⟨q,hq,rfl⟩:=Ll.mp hcm;obtain⟨o,e,_⟩:=jX.ty (s4 q hq);exact (lt e).symm
 done:=by
  intro X hP hw hK hc i pins s σ H E I hf st hg;subst hP hw hK;obtain⟨a,q,r,vs,eS,hg,xs,hx,hi⟩:=hg;obtain⟨s1,s2,⟨old,s3,s3'⟩,s4⟩:=st;obtain⟨us,h1,_,_⟩:=yi I (λp hp=>s4 p (by rw[eS];exact LD _ hp)) hg
  obtain⟨its,rv,p1⟩:=I.pU hx;have hT:s.TypeIs (.ref z) "zip":=⟨_,s1,rfl⟩;unfold pyNext;refine Kh (MG (LA (name:=Str.ofString "__next__") hT PySem.F.slot_zip_next (LF PySem.F.slot_zip_next hT PySem.F.entry_zip_next
   (Hm D hS (I.ok.hd hc) s1 s2 s3 s3' hn (.inr ⟨a,q,r,us,eS,h1,s4 q (by rw[eS];exact KG _ Kw),⟨its.toArray,p1,by rw[Kq,<- rv.length,hi]⟩,λh' e tk' kp he=>?_⟩)) (PySem.F.args_zip_next_1 _))))
  obtain⟨o,ho,hcl⟩:=he;refine Kh (wpAny_isInstance (T:="StopIteration") (b:=true) ⟨o,ho,hcl⟩ isSubtype_stop (Kt ⟨rfl,?_⟩));refine I.turns (t':=tk') hf λc o hcm ec=>?_;simp only[Kv,not_or] at hcm;exact kp c o hcm.1 hcm.2.2.1 (λq hq e=>hcm.2.2.2 (by rw[e];exact LW (f:=λq:Src=>q.2.1) hq)) ec
 self:=λA i s Q E st h=>wpAny_pyIter_zip st.1 h
def cf.push{k:Bool}{xs:Array Value}(x:cf k h a xs)(o:Obj):cf k (h.push o) a xs:=by
 cases k with
 |true=>exact Heap.IsList.push x _
 |false=>exact zS x _
def jD{A:Around}{s:Shared}{k:Bool}{l:Addr}{items:Array Value}(hl:cf k s.heap l items)
  (hQ:Q (.ref s.heap.objs.size) {s with heap:=s.heap.push {cls:=.type (vc k),data:=.fields #[.ref l,.int 0 0]}}):wpAny (model prog w) A (pyIter (.ref l)) Q E s:=by
 cases k with
 |true=>exact N8 hl hQ
 |false=>exact MK hl hQ
def fA(h:Heap):List (Bool×Addr)->Heap
 |[]=>h
 |p::l=>fA (h.push {cls:=.type (vc p.1),data:=.fields #[.ref p.2,.int 0 0]}) l
def eJ(n:Nat):List (Bool×Addr)->List Src
 |[]=>[]
 |p::l=>(p.1,n,p.2)::eJ (n+1) l
abbrev Ga(h:Heap)(l:List (Bool×Addr)):Heap:=(fA h l).push {cls:=.type "tuple",data:=.seq ((eJ h.objs.size l).map λq=>Value.ref q.2.1).toArray}
abbrev AJ(h:Heap)(l:List (Bool×Addr)):Heap:=(Ga h l).push {cls:=.type "tuple",data:=.seq ((eJ h.objs.size l).map λ_=>Value.none).toArray}
abbrev zQ(h:Heap)(l:List (Bool×Addr)):Heap:=(AJ h l).push {cls:=.type "zip",data:=.fields #[.none,.bool false,.bool false,.ref (fA h l).objs.size,.ref (Ga h l).objs.size]}
theorem j7:∀(l:List (Bool×Addr)) (h:Heap),(fA h l).objs.size=h.objs.size+l.length
 |[],_=>rfl
 |p::l,h=>by rw[fA,j7 l,LS,K2];lia
theorem ja:∀(l:List (Bool×Addr)) {h:Heap} {c:Addr} {o:Obj},h.get? c=some o->(fA h l).get? c=some o
 |[],_,_,_,e=>e
 |p::l,_,_,_,e=>ja l (Kk _ e)
def Aq(l:List (Bool×Addr)):∀{h:Heap} (q:Src),q∈eJ h.objs.size l->(fA h l).get? q.2.1=some {cls:=.type (vc q.1),data:=.fields #[.ref q.2.2,.int 0 0]}:=by
 induction l with
 |nil=>intro h q hq;cases hq
 |cons p l ih =>
  intro h q hq;rcases Kv.mp hq with rfl|hq
  ·exact ja l (K1 _ rfl)
  ·exact ih q (by rw[LS];exact hq)
theorem j9:∀(l:List (Bool×Addr)) (n:Nat),(eJ n l).length=l.length
 |[],_=>rfl
 |_::l,n=>Lg (·+1) (j9 l (n+1))
def sU(l:List (Bool×Addr)):∀(n:Nat) (q:Src),q∈eJ n l->n<=q.2.1/\q.2.1<n+l.length/\(q.1,q.2.2)∈l:=by
 induction l with
 |nil=>intro n q hq;cases hq
 |cons p l ih =>
  intro n q hq;rcases Kv.mp hq with rfl|hq
  ·exact⟨Kp _,by rw[K2];show n<_;lia,Kw⟩
  ·obtain⟨h1,h2,h3⟩:=ih (n+1) q hq;exact⟨by lia,by rw[K2];lia,Kx _ h3⟩
theorem u5:∀(l:List (Bool×Addr)) (n:Nat),((eJ n l).map λq=>q.2.1).Nodup
 |[],_=>List.nodup_nil
 |p::l,n=>by
  show (n::(eJ (n+1) l).map λq=>q.2.1).Nodup;refine LV.mpr ⟨λh=>?_,u5 l (n+1)⟩;obtain⟨q,hq,e⟩:=Ll.mp h;have:=(sU l (n+1) q hq).1;rw[e] at this;lia
def vn(p q:Bool×Addr)(xs ys:Array Value):Meets (Builtin.«zip.__new__» ⟨[.type "zip",.ref p.2,.ref q.2],[]⟩) (λ_ R s=>cf p.1 s.heap p.2 xs/\cf q.1 s.heap q.2 ys/\R (.ok (.ret (.ref (AJ s.heap [p,q]).objs.size))) {s with heap:=zQ s.heap [p,q]}):=
 .of_wp λprog w A R s h=>by
  obtain⟨hp,g,d,tk,os⟩:=s;obtain⟨q1,q2,h⟩:=h;have hsub:=sub_zip;have w1:cf p.1 (Shared.heap ⟨hp,g,d,tk,os⟩) p.2 xs:=q1;have w2:cf q.1 (Shared.heap ⟨hp.push {cls:=.type (vc p.1),data:=.fields #[.ref p.2,.int 0 0]},g,d,tk,os⟩) q.2 ys:=cf.push q2 _;wp_walk using jD w1,jD w2;refine⟨_,rfl,?_⟩;have e1:(hp.push {cls:=.type (vc p.1),data:=.fields #[.ref p.2,.int 0 0]}).objs.size=hp.objs.size+1:=LS ..;have h':=h;simp only[zQ,AJ,Ga,fA,eJ,KA,MS,<- e1] at h';exact h'
def vI(p q r:Bool×Addr)(xs ys zs:Array Value):Meets (Builtin.«zip.__new__» ⟨[.type "zip",.ref p.2,.ref q.2,.ref r.2],[]⟩) (λ_ R s=>cf p.1 s.heap p.2 xs/\cf q.1 s.heap q.2 ys/\cf r.1 s.heap r.2 zs/\R (.ok (.ret (.ref (AJ s.heap [p,q,r]).objs.size))) {s with heap:=zQ s.heap [p,q,r]}):=
 .of_wp λprog w A R s h=>by
  obtain⟨hp,g,d,tk,os⟩:=s;obtain⟨q1,q2,q3,h⟩:=h;have hsub:=sub_zip;have w1:cf p.1 (Shared.heap ⟨hp,g,d,tk,os⟩) p.2 xs:=q1;have w2:cf q.1 (Shared.heap ⟨hp.push {cls:=.type (vc p.1),data:=.fields #[.ref p.2,.int 0 0]},g,d,tk,os⟩) q.2 ys:=cf.push q2 _;have w3:cf r.1 (Shared.heap ⟨(hp.push {cls:=.type (vc p.1),data:=.fields #[.ref p.2,.int 0 0]}).push {cls:=.type (vc q.1),data:=.fields #[.ref q.2,.int 0 0]},g,d,tk,os⟩) r.2 zs:=cf.push (cf.push q3 _) _;wp_walk using jD w1,jD w2,jD w3;refine⟨_,rfl,?_⟩;have e1:(hp.push {cls:=.type (vc p.1),data:=.fields #[.ref p.2,.int 0 0]}).objs.size=hp.objs.size+1:=LS ..;have e2:((hp.push {cls:=.type (vc p.1),data:=.fields #[.ref p.2,.int 0 0]}).push {cls:=.type (vc q.1),data:=.fields #[.ref q.2,.int 0 0]}).objs.size=(hp.push {cls:=.type (vc p.1),data:=.fields #[.ref p.2,.int 0 0]}).objs.size+1:=LS ..;have h':=h;simp only[zQ,AJ,Ga,fA,eJ,KA,MS,<- e1,<- e2] at h';exact h'
def jS(a b c:Value):checkTypeCall "zip" ⟨[a,b,c],[]⟩=pure ():=by kernel_rfl
def lK(a b c:Value):checkBuiltinCall "zip.__new__" ⟨[.type "zip",a,b,c],[]⟩=pure ():=by kernel_rfl
def oH(a b c d:Value):argsOk "object.__init__" ⟨[a,b,c,d],[]⟩:=by
 unfold argsOk;rw[signature?_of (id:="object.__init__") (n:=['_','_','t','i','n','i','_','_']) (o:=['t','c','e','j','b','o']) (by kernel_rfl) PySem.F.owner_object];kernel_rfl
section
variable {X:Cx} {es:List Expr} {tk:Nat} {tp:Pos}
def tX{s:Shared}{R:It->Hp->Prop}(I:Inv X pins σ H s)(l:List (Bool×Addr))(hne:l≠[])(h3:l.length<=3)(hq:∀p∈l,∃xs,hJ X.K p.1 H p.2 xs)(q:∀n,R (Ae X.K (eJ n l)) H):
  (∃o,(zQ s.heap l).get? (AJ s.heap l).objs.size=some o/\o.cls=.type "zip")/\wpAny (model X.prog X.w) X.A (pyIter (.ref (AJ s.heap l).objs.size)) (IZ X pins σ (.Tuple es tk tp) R) X.xe {s with heap:=zQ s.heap l}:=by
 have n1:(fA s.heap l).objs.size=s.heap.objs.size+l.length:=j7 l _;have n2:(Ga s.heap l).objs.size=s.heap.objs.size+l.length+1:=by rw[LS,n1]
 have n3:(AJ s.heap l).objs.size=s.heap.objs.size+l.length+2:=by rw[LS,n2]
 have p3:(zQ s.heap l).get? (AJ s.heap l).objs.size=some _:=K1 _ rfl;have p2:(zQ s.heap l).get? (Ga s.heap l).objs.size=some _:=Kk _ (K1 _ rfl);have p1:(zQ s.heap l).get? (fA s.heap l).objs.size=some _:=Kk _ (Kk _ (K1 _ rfl));have up:∀{c o},(fA s.heap l).get? c=some o->(zQ s.heap l).get? c=some o:=λe=>Kk _ (Kk _ (Kk _ e));rw[n1,n2,n3] at p3;rw[n2] at p2;rw[n1] at p1;rw[n3];refine⟨⟨_,p3,rfl⟩,wpAny_pyIter_zip p3 ?_⟩;have I2:Inv X pins σ H {s with heap:=zQ s.heap l}:=I.kept (t':=s.toks) λc o e=>up (ja l e)
 have bd:=sU l s.heap.objs.size;have lt:∀p∈l,p.2<s.heap.objs.size:=λp hp=>by
  obtain⟨xs,hx⟩:=hq p hp;obtain⟨its,_,p1⟩:=I.pU hx;obtain⟨o,e,_⟩:=p1.ty;exact Kz e
 have D:Zn (s.heap.objs.size+l.length+2) (s.heap.objs.size+l.length) (s.heap.objs.size+l.length+1) (eJ s.heap.objs.size l):=by
  have nl:∀(a b:Nat),a<b->a≠b:=λa b h=>KH h;refine⟨⟨nl _ _ (by lia),nl _ _ (by lia),nl _ _ (by lia)⟩,λq hq'=>?_,λq hq'=>?_,u5 l _⟩
  ·have:=(bd q hq').2.1;exact⟨nl _ _ (by lia),nl _ _ (by lia),nl _ _ (by lia)⟩
  ·have h1:=lt _ (bd q hq').2.2;refine⟨nl _ _ (by show q.2.2<_;have:q.2.2<s.heap.objs.size:=h1;lia),nl _ _ (by have:q.2.2<s.heap.objs.size:=h1;lia),λp hp=>nl _ _ (KI h1 (bd p hp).1)⟩
 refine⟨_,_,_,_,H,rfl,I2,vd (eJ s.heap.objs.size l) _ _ _ D (λe=>?_) (by rw[j9];exact h3),⟨p3,p1,⟨_,p2,Ki ..⟩,λq hq'=>Gf (up (Aq l q hq'))⟩,λc hc=>?_,q _⟩
 ·have:=j9 l s.heap.objs.size;rw[e] at this;exact hne (ME.mp this.symm)
 ·have hc':s.heap.objs.size<=c:=by
   rcases Kv.mp hc with rfl|hc
   ·lia
   rcases Kv.mp hc with rfl|hc
   ·lia
   rcases Kv.mp hc with rfl|hc
   ·lia
   obtain⟨q,hq',rfl⟩:=Ll.mp hc;exact (bd q hq').1
  exact I.nH hc' (I.aL.fresh hc')
def yG(K:W.Frag)(ta:TA):TI:=λσ H R=>ta σ H λvs H1=>∃p q:Bool×Addr,vs=[.ref p.2,.ref q.2]/\(∃xs,hJ K p.1 H1 p.2 xs)/\(∃ys,hJ K q.1 H1 q.2 ys)/\∀n,R (Ae K (eJ n [p,q])) H1
def Cr{e1 e2:Expr}{pos:Pos}(hg:Gl X "zip")(hm:X.mg "zip"=none)(ha:PA X [e1,e2] ta)(h1:autoParam (cW e1=true) ℜ0)(h2:autoParam (cW e2=true) ℜ0)(hv:autoParam (bootBuiltins "zip"=some (.type "zip")) ℜ6):
  PI X (.Tuple es tk tp) (.Call (.Name "zip" p) [e1,e2] [] pos) (yG X.K ta):=by
 intro pins s σ H R I h;refine Call_ (eF I hg hm hv (Lw (bH (ha pos pins s σ H _ I h) λus s1 hq1=>?_) (by rw[bN h1,bN h2]) (by rw[bN h2];rfl)))
 obtain⟨vs,H1,I1,r1,q1⟩:=hq1;obtain⟨a,b,e,⟨xs,hx⟩,⟨ys,hy⟩,q⟩:=q1;subst e;obtain⟨u,w',rfl,ru,rw'⟩:=vals2 r1
 cases ru;cases rw'
 obtain⟨its1,_,p1⟩:=I1.pU hx;obtain⟨its2,_,p2⟩:=I1.pU hy;refine O6 F.called_zip (by decide) (F.typeCall_zip_2 _ _) (F.newCall_zip_2 _ _) (λobj=>F.args_object_init_3 obj _ _) F.entry_zip_new (vn a b _ _) ⟨p1,p2,tX I1 [a,b] (by simp) (LY 2) (λp hp=>?_) q⟩
 simp only[Kv,KO,Ma] at hp;rcases hp with rfl|rfl
 ·exact⟨xs,hx⟩
 ·exact⟨ys,hy⟩
def wu(K:W.Frag)(ta:TA):TI:=λσ H R=>ta σ H λvs H1=>∃p q r:Bool×Addr,vs=[.ref p.2,.ref q.2,.ref r.2]/\(∃xs,hJ K p.1 H1 p.2 xs)/\(∃ys,hJ K q.1 H1 q.2 ys)/\(∃zs,hJ K r.1 H1 r.2 zs)/\∀n,R (Ae K (eJ n [p,q,r])) H1
def vals3{x y z:V}{us:List Value}(r:Vals [x,y,z] us):∃u w' q,us=[u,w',q]/\RelV x u/\RelV y w'/\RelV z q:=by
 obtain⟨u,us,rfl,h1,r⟩:=Paired.dm r;obtain⟨v,w',rfl,h2,h3⟩:=vals2 r;exact⟨u,v,w',rfl,h1,h2,h3⟩
def BI{e1 e2 e3:Expr}{pos:Pos}(hg:Gl X "zip")(hm:X.mg "zip"=none)(ha:PA X [e1,e2,e3] ta)(h1:autoParam (cW e1=true) ℜ0)(h2:autoParam (cW e2=true) ℜ0)(h3:autoParam (cW e3=true) ℜ0)(hv:autoParam (bootBuiltins "zip"=some (.type "zip")) ℜ6):
  PI X (.Tuple es tk tp) (.Call (.Name "zip" p) [e1,e2,e3] [] pos) (wu X.K ta):=by
 intro pins s σ H R I h;refine Call_ (eF I hg hm hv (Lw (bH (ha pos pins s σ H _ I h) λus s1 hq2=>?_) (by rw[bN h1,bN h2,bN h3]) (by rw[bN h2,bN h3];rfl)))
 obtain⟨vs,H1,I1,r1,q1⟩:=hq2;obtain⟨a,b,c,e,⟨xs,hx⟩,⟨ys,hy⟩,⟨zs,hz⟩,q⟩:=q1;subst e;obtain⟨u,w',t',rfl,ru,rw',rt'⟩:=vals3 r1
 cases ru;cases rw';cases rt'
 obtain⟨its1,_,p1⟩:=I1.pU hx;obtain⟨its2,_,p2⟩:=I1.pU hy;obtain⟨its3,_,p3⟩:=I1.pU hz;refine O6 F.called_zip (by decide) (jS _ _ _) (lK _ _ _) (λobj=>oH obj _ _ _) F.entry_zip_new (vI a b c _ _ _) ⟨p1,p2,p3,tX I1 [a,b,c] (by simp) (Kp 3) (λp hp=>?_) q⟩
 simp only[Kv,KO,Ma] at hp;rcases hp with rfl|rfl|rfl
 ·exact⟨xs,hx⟩
 ·exact⟨ys,hy⟩
 ·exact⟨zs,hz⟩
end
def qY{x:Value}{e1 e2:Env}(h:e1.frame=e2.frame):noteFrame x e1=noteFrame x e2:=by
 unfold noteFrame PySem.frameOf;rw[h]
section
variable {M:Model} {A:Around} {E:Value->Shared->Prop} {s:Shared} {env:Env} {outer:List Env} {L e:Addr} {cls:Value} {d:Option Addr} {base:Heap}
def xt{To:Option Addr}{Q:Unit->Shared->Prop}(hfr:A.frames=some (env::outer))(hf:env.frame=some L)(hl:s.heap.FunFrames base (env::outer))(f:Fl s.heap e cls d To)
  (hq:∀h' T',Mv s.heap h' e To (iw (env::outer)) T'->Fl h' e cls d (some T')->Q () {s with heap:=h'}):wpAny M A (noteFrame (.ref e) env) Q E s:=by
 unfold noteFrame;simp only[hf]
 cases To with
 |none =>
  obtain⟨oe,vs,g1,g2,g3,g4,g5⟩:=id f;have hsz:=(KC.mp g5).1;refine Kh (Ly g1 g4 g5 ?_);rw[Ko (by decide)]
  refine j4 hfr hf hl g1 g4 hsz λh1 T' oT ts k1 k2 k3 k4 k5 k6 k7 k8 k9=>?_;exact hq h1 T' ⟨λb o n1 _ n3 q=>k1 b o n1 n3 q,λb o m q=>k2 b o m q,.inl k3,k9⟩ ⟨_,_,_,_,k4,g2,g3,rfl,by simp[hsz],k8,k5,k6,(KC.mp k7).1⟩
 |some T =>
  obtain⟨oe,vs,oT,ts,g1,g2,g3,g4,g5,g6,g7,g8,g9⟩:=id f;have hsz:=(KC.mp g5).1;have nfT:=f.oZ hl;refine Kh (Ly g1 g4 g5 ?_);rw[Ku (by simp)]
  refine Kh (Ly g7 g8 (Mc g9) ?_);by_cases cL:(ts[3] == rawInt L)=true
  ·rw[Ku cL];refine Kt ?_;have:=hq s.heap T ⟨λb o _ _ _ q=>q,λb o _ q=>⟨o.slots,q⟩,.inr rfl,nfT⟩ f;exact this
  rw[Ko cL];refine Kh (i3 g7 g8 g9 λh0 i1 i2=>?_);have hl0:h0.FunFrames base (env::outer):=hl.of_keeps λb o q hn=>⟨o,(i1 b λz=>by rw[z,g7] at q;cases q;exact hn ts g8).trans q,rfl⟩
  refine j4 (s:={s with heap:=h0}) hfr hf hl0 ((i1 e (Lk g6)).trans g1) g4 hsz λh1 T' oT' ts' k1 k2 k3 k4 k5 k6 k7 k8 k9=>?_
  have nTT:T'≠T:=λz=>by
   have k3':h0.get? T'=none:=k3;rw[z,i2] at k3';cases k3'
  refine hq h1 T' ⟨λb o n1 n2 n3 q=>k1 b o n1 n3 ((i1 b (n2 T rfl)).trans q),λb o m q=>?_,.inl ((i1 T' nTT).symm.trans k3),k9⟩ ⟨_,_,_,_,k4,g2,g3,rfl,by simp[hsz],k8,k5,k6,(KC.mp k7).1⟩
  have nbT:b≠T:=λz=>nfT (by rw[<- z];exact m)
  exact k2 b o m ((i1 b nbT).trans q)
def Aj{T:Addr}{l:List Env}{fr:Option Addr}{Q:Unit->Shared->Prop}(hl:s.heap.FunFrames base l)(f:Fl s.heap e cls d (some T))
  (hq:∀h',Mv s.heap h' e (some T) (iw l) T->Fl h' e cls d (some T)->Q () {s with heap:=h'}):wpAny M A (setFlight (.ref e) fr) Q E s:=by
 have nfT:=f.oZ hl;obtain⟨oe,vs,oT,ts,g1,g2,g3,g4,g5,g6,g7,g8,g9⟩:=id f;unfold setFlight;refine Kh (Ly g1 g4 g5 ?_);rw[Ku (by simp)]
 refine i3 g7 g8 g9 λh2 j1 j2=>?_;refine hq h2 ⟨λb o n1 n2 n3 q=>(j1 b (n2 T rfl)).trans q,λb o m q=>⟨o.slots,(j1 b λz=>nfT (by rw[<- z];exact m)).trans q⟩,.inr rfl,nfT⟩ ⟨_,_,_,_,(j1 e (Lk g6)).trans g1,g2,g3,g4,g5,g6,j2,rfl,?_⟩
 simp[g9]
def vo{T:Addr}{l:List Env}{what:String}{cenv:Env}(hl:s.heap.FunFrames base l)(f:Fl s.heap e cls d (some T))
  (hq:∀h',Mv s.heap h' e (some T) (iw l) T->Fl h' e cls d (some T)->E (.ref e) {s with heap:=h'}):wpAny M A (PySem.passOn what (.ref e) cenv:Sem Value) Q E s:=by
 obtain⟨oe,vs,oT,ts,g1,g2,g3,g4,g5,g6,g7,g8,g9⟩:=id f;unfold PySem.passOn;refine Kh (Ly g1 g4 g5 ?_);rw[Ko (by simp)]
 refine Kh (Aj hl f λh' m f'=>?_);exact wpAny_throw (hq h' m f')
end
def fw(X:Cx)(scope:Scope)(N:List Str)(C:Addr)(s:Shared)(H:Hp)(fp:List Addr)(XE:Value->Shared->Prop):Cx:={aG X scope N C s H fp with xe:=XE}
section
variable {X:Cx} {scope:Scope} {N:List Str} {C:Addr} {s0:Shared} {H0:Hp} {fp:List Addr} {XE:Value->Shared->Prop} {pins:List (Addr×Obj)} {σ:St} {H:Hp} {s:Shared}
def Inv.Jo(I:Inv (aG X scope N C s0 H0 fp) pins σ H s):Inv (fw X scope N C s0 H0 fp XE) pins σ H s:=
 ⟨⟨I.ok.mod,I.ok.kind,I.ok.glob,I.ok.blt,I.ok.above,I.ok.inj,I.ok.has,I.ok.zF,I.ok.hd,I.ok.frames,I.ok.Ad,I.ok.CP,I.ok.bs,I.ok.qN,I.ok.jG,I.ok.lN,I.ok.fC,I.ok.v7,I.ok.tabs⟩,
  I.os,I.bare,I.base,I.loc,I.cell,I.free,I.cw,I.pin,I.aL,I.len⟩
def Inv.HL(I:Inv (fw X scope N C s0 H0 fp XE) pins σ H s):Inv (aG X scope N C s0 H0 fp) pins σ H s:=
 ⟨⟨I.ok.mod,I.ok.kind,I.ok.glob,I.ok.blt,I.ok.above,I.ok.inj,I.ok.has,I.ok.zF,I.ok.hd,I.ok.frames,I.ok.Ad,I.ok.CP,I.ok.bs,I.ok.qN,I.ok.jG,I.ok.lN,I.ok.fC,I.ok.v7,I.ok.tabs⟩,
  I.os,I.bare,I.base,I.loc,I.cell,I.free,I.cw,I.pin,I.aL,I.len⟩
end
def Ih(X:Cx)(e:Expr)(t:TE):Prop:=∀(pins:List (Addr×Obj)) (s:Shared) (σ:St) (H:Hp) (Q:VK),(∀b∈X.ex,∃o,(b,o)∈pins)->Inv X pins σ H s->t σ H Q->wpAny (model X.prog X.w) X.A (eval e X.env) (EP X pins σ Q) X.xe s
section
variable {X:Cx}
def Ck{k:Nat}{ps:List Str}{pos:Pos}{t:TA}(F:ao X.prog X.w X.K X.mg X.base (oB X.prog X.w) k x ps sp)(hr:bt k X.A)(hg:Gl X x)(ha:PA X (e::es) t)(h1:autoParam (cW e=true) ℜ0)(h2:autoParam (es.all cW=true) ℜ0)(hdb:autoParam ((x ==("__debug__":Str))=false) ℜ1):
  Ih X (.Call (.Name x p) (e::es) [] pos) (yV X sp t):=by
 intro pins s σ H Q hcov I h;obtain⟨f,fd,hm,hk,hb,G⟩:=F.ex;refine LO (dQ I hg hm ?_ hdb);refine O4 (h₀:=X.base) I.ok.mod.jz hk (bH (ha pos pins s σ H _ I h) λus s1 ⟨vs,H1,I1,r,q⟩=>⟨I1.fi,?_⟩) (bN h1) (plain_any h2);have hl:us.length=ps.length:=by rw[<- r.length];exact G.len _ _ _ _ q
 have hb2:=hb s1 us I1.fi (by rw[Le];exact hl)
 rw[Le] at hb2;refine MZ (NL (G.run X.A X.stack s1 H1 ⟨us,[]⟩ us vs Q (ET X σ H1) hr I1.Bm hb2 r q) λr s' hq=>?_)
 cases r with
 |error e =>
  obtain⟨ea,T,cls,d,H',rfl,ho,hbare,un,aL,fl,n1,n3,n2,tr,nT,ea',d',hea,tr',hd⟩:=hq;cases hea;obtain⟨_,rfl⟩:=fl.is.one (show gy ea cls d' s'.heap from (aL _ _ tr').1);have I2:=I1.yB (ch:=[]) ho un aL hbare (λb z=>absurd z (by simp))
  have n0:∀b,s1.heap.get? b=none->X.s₀.heap.get? b=none:=λb z=>by
   cases q2:X.s₀.heap.get? b with
   |none=>rfl
   |some o =>
    by_cases m:b∈X.ex
    ·obtain⟨o2,h2⟩:=hcov b m;have:=(I1.pin (b,o2) (KG _ h2)).1;rw[z] at this;cases this
    ·obtain⟨o',q3⟩:=I1.base.there b o q2 m;rw[z] at q3;cases q3
  exact hd (I1.aL.none_of n1) (λa z=>I1.aL.none_of (n3 a z)) pins s' (some T) I2 fl ⟨tr,n0 _ n1,λa z=>n0 _ (n3 a z),λT' hT=>by
   cases hT;exact⟨nT,n0 _ n2,λp hp z=>by rw[<- z,(I1.pin p hp).1] at n2;cases n2⟩⟩
 |ok fl =>
  cases fl with
  |ret u=>exact I1.after hq
  |next=>exact False.elim hq
  |brk=>exact False.elim hq
  |cont=>exact False.elim hq
end
def Hu(X:Cx)(scope:Scope)(N:List Str)(σ:St)(C:Addr)(s3:Shared)(H3:Hp)(fp:List Addr)(v:Value)(s':Shared):Prop:=∃(pins':List (Addr×Obj)) (σ':St) (H':Hp) (e:Addr) (cls:Value) (d To:Option Addr),v=.ref e/\Inv (aG X scope N C s3 H3 fp) pins' σ' H' s'/\Fl s'.heap e cls d To/\Nw (aG X scope N C s3 H3 fp) pins' H' e cls d To/\g_ X cls d e σ H'
def sM{pos:Pos}{wi:TI}(hex:X.ex=[])(hst:X.stack=X.env::X.outer)(hfm:X.env.frame=some X.env.locals)(S:aA osc ON scope own N)(hosc:X.env.scope=osc)(hON:X.N=ON)(hc:X.calm=true)(hi:PI X tg iter wi)
  (hg:∀C s H fp,PG (aG X scope N C s H fp) tg g) (ht:∀C s H fp,AO (aG X scope N C s H fp) ifs tc) (he:∀C s H fp XE (G:Value->Option Addr->Addr->Hp->Prop),(∀cls d e σ' H',G cls d e H'->g_ (fw X scope N C s H fp XE) cls d e σ' H')->Ih (fw X scope N C s H fp XE) elt (te G))
     {s:Shared} {Q:VK} (I:Inv X pins σ H s) (h:eR wi own.length g tc (te λcls d e H'=>g_ X cls d e σ H') σ H Q) {RR:Value->Addr->Result->Shared->Prop}
  (fin:∀(D C:Addr) (H':Hp) (s':Shared) (m:Str->Option Value),Inv X pins σ H' s'->Q (.ref D) H'->H' C=none->X.s₀.heap.objs.size<=C->C≠X.env.locals->(∀x c,X.env.cells.lookup x=some c->c≠C)->(∀p∈X.pn++pins,p.1≠C) ->
   s'.heap.Ns C m->RR (.ref D) C (.ok .next) s')
  (finX:∀(D C:Addr) (H':Hp) (s':Shared) (m:Str->Option Value) (e T:Addr) (cls:Value) (d:Option Addr),Inv X pins σ H' s'->Fl s'.heap e cls d (some T)->Nw X pins H' e cls d (some T)->g_ X cls d e σ H'->H' C=none->X.s₀.heap.objs.size<=C->C≠X.env.locals->(∀x c,X.env.cells.lookup x=some c->c≠C)->(∀p∈X.pn++pins,p.1≠C) ->
   s'.heap.Ns C m->RR (.ref D) C (.error (.ref e)) s') :
  wpAny (model X.prog X.w) X.A (eval iter X.env) (λx s₁=>wpAny (model X.prog X.w) X.A (pyIter x) (λit s₂=>wpAny (model X.prog X.w) X.A (newList []) (λacc s₃ =>
   wpAny (model X.prog X.w) X.A (newFunctionEnv scope X.env.globals (d2 X.env.cells scope.names []) [] X.env.qual none .none (some X.env)) (λcenv s₄ =>
    codeAny (model X.prog X.w) X.A (.compStart (.ListComp elt [⟨tg,iter,ifs,0⟩] scope pos) 0 it acc {cenv with scope:=relabel scope X.env}) (RR acc cenv.locals) s₄) X.xe s₃) X.xe s₂) X.xe s₁) X.xe s:=by
 refine jI S hosc hON hc hi hg ht (Hu X scope N σ) (λC s3 H3 fp pins' s9 σ8 H9 Q' hcov I9 q9=>?_) I h fin ?_
 ·refine bH (he C s3 H3 fp (Hu X scope N σ C s3 H3 fp) (λcls d e H'=>g_ X cls d e σ H') (λcls d e σ' H' g pins' s' To I f nw=>⟨pins',σ',H',e,cls,d,To,rfl,I.HL,f,⟨nw.tr,nw.e0,nw.d0,nw.t0⟩,g⟩) _ s9 σ8 H9 _ hcov I9.Jo q9) λy s10 hq6=>?_;obtain⟨v10,H10,I10,r⟩:=hq6;exact⟨v10,H10,I10.HL,r⟩
 ·rintro D C s3 H3 fp rfl I3 outI o1 o2 o3 o4 _ s' ⟨pins',σ',H',e,cls,d,To,rfl,I',f',nw',g⟩;have n0:∀b,s3.heap.get? b=none->X.s₀.heap.get? b=none:=λb z=>by
   cases q2:X.s₀.heap.get? b with
   |none=>rfl
   |some o =>
    obtain⟨o',q3⟩:=I3.base.there b o q2 (by rw[hex];simp)
    rw[z] at q3;cases q3
  have IX:=outI I';have nwX:Nw X pins H' e cls d To:=⟨nw'.tr,n0 e nw'.e0,λa z=>n0 a (nw'.d0 a z),λT hT=>⟨(nw'.t0 T hT).1,n0 T (nw'.t0 T hT).2.1,λp hp z=>by
   have q1:s3.heap.get? T=none:=(nw'.t0 T hT).2.1;rw[<- z,(I3.pin p hp).1] at q1;cases q1⟩⟩
  unfold notedBy;rw[show noteFrame (.ref e) (aG X scope N s3.heap.objs.size s3 H3 fp).env=noteFrame (.ref e) X.env from qY rfl];refine xt (base:=X.base) (outer:=X.outer) (by rw[<- hst];exact IX.ok.frames) hfm (by rw[<- hst];exact IX.stack) f' λh' T' mv f2=>?_
  rw[<- hst] at mv;obtain⟨I2,nw2⟩:=IX.moved hex f' nwX mv f2;obtain⟨m,⟨o,es,ep,ho,r⟩,_⟩:=I'.loc;have hC':H' s3.heap.objs.size=none:=I'.free;refine finX D _ H' _ m e T' cls d I2 f2 nw2 g hC' o1 o2 o3 o4 ⟨o,es,ep,mv.keep _ o (λz=>?_) (λT hT z=>?_) (λz=>?_) ho,r⟩
  ·have q1:=nw'.tr;rw[<- z] at q1;have q2:H' s3.heap.objs.size=_:=q1;rw[hC'] at q2;cases q2
  ·subst hT;obtain⟨_,_,oT,ts,_,_,_,_,_,_,hT,hdT,_⟩:=f';rw[<- z] at hT;have ho':s'.heap.get? s3.heap.objs.size=some o:=ho;have hT':s'.heap.get? s3.heap.objs.size=some oT:=hT;rw[hT'] at ho';cases ho';obtain⟨hd,_⟩:=r;rw[hdT] at hd;cases hd
  ·obtain⟨_,o5,ho5,_⟩:=I3.stack.mem z;exact absurd (Kz ho5) (LZ _)
def DZ(X:Cx)(wi:TI)(k:Nat)(g:TG)(tc:TT)(te:(Value->Option Addr->Addr->Hp->Prop)->TE):TE:=λσ H Q=>eR wi k g tc (te λcls d e H'=>g_ X cls d e σ H') σ H Q
def yn{pos:Pos}{wi:TI}(hex:X.ex=[])(hst:X.stack=X.env::X.outer)(hfm:X.env.frame=some X.env.locals)(S:aA osc ON scope own N)(hosc:X.env.scope=osc)(hON:X.N=ON)(hc:X.calm=true)(hi:PI X tg iter wi)
  (hg:∀C s H fp,PG (aG X scope N C s H fp) tg g) (ht:∀C s H fp,AO (aG X scope N C s H fp) ifs tc) (he:∀C s H fp XE (G:Value->Option Addr->Addr->Hp->Prop),(∀cls d e σ' H',G cls d e H'->g_ (fw X scope N C s H fp XE) cls d e σ' H')->Ih (fw X scope N C s H fp XE) elt (te G))
  (hs:autoParam (∀x,foldedSetIterable iter X.env x=pure x) ℜ3) :
  PE X (.ListComp elt [⟨tg,iter,ifs,0⟩] scope pos) (DZ X wi own.length g tc te):=by
 intro pins s σ H Q I h;have hfr:∀y∈scope.names,y.2=.free->∃c,X.env.cells.lookup y.1=some c:=λy hy hf=>I.ok.has _ (by subst hosc;exact S.free y hy hf)
 rw[eval_ListComp];refine N1 (use:=none) rfl hs (eC hfr) S.kind S.loc ?_;refine sM hex hst hfm S hosc hON hc hi hg ht he I h (RR:=λacc C=>compPost (model X.prog X.w) X.A X.xe none (EP X pins σ Q) acc C) ?_ ?_
 ·intro D C H' s' m I' q h1 h2 h3 h4 h5 hn;exact⟨m,hn,λh'' hs''=>⟨.ref D,H',I'.turned (t':=s'.toks) (λb o hb e=>(hs''.2 b hb).trans e) h1 h3 (.inr h2) h4 h5,rfl,q⟩⟩
 ·intro D C H' s' m e T cls d I' f nw g h1 h2 h3 h4 h5 hn;refine⟨m,hn,λh'' hs'' cenv hce=>?_⟩;have I2:Inv X pins σ H' {s' with heap:=h''}:=I'.turned (t':=s'.toks) (λb o hb e=>(hs''.2 b hb).trans e) h1 h3 (.inr h2) h4 h5
  have f2:Fl h'' e cls d (some T):=by
   obtain⟨oe,vs,oT,ts,g1,g2,g3,g4,g5,g6,g7,g8,g9⟩:=f;have ne:e≠C:=λz=>by
    have:=nw.tr;rw[z,h1] at this;cases this
   have nT:T≠C:=λz=>by
    obtain⟨o,es,ep,ho,hd,_⟩:=hn;rw[<- z,g7] at ho;cases ho;rw[g8] at hd;cases hd
   exact⟨oe,vs,oT,ts,(hs''.2 e ne).trans g1,g2,g3,g4,g5,g6,(hs''.2 T nT).trans g7,g8,g9⟩
  refine vo (base:=X.base) (l:=X.stack) I2.stack f2 λh3' mv f3=>?_;obtain⟨I3,nw3⟩:=I2.moved hex f2 nw mv f3;exact g pins _ _ I3 f3 nw3
abbrev Ey:=Value->Option Addr->Addr->Hp->Prop
namespace Z
def Ke:QS X st (λ_ _ _=>False):=⟨λ_ _ _ _ _ _ h=>h.elim⟩
def JU{o:Expr}{to:TE}{pos:Pos}(K:W.Frag)(hK:X.K=K){name:Str}{apos:Pos}{T id:String}{r:V->List V->Hp->VK->Prop}(pa:PlainAttrs T)(slot:Slot T name id)(hty:typeOf (.builtin id)=pure (.type "method_descriptor"))(hm:uK X id r)(ho:QE X o to)
  (hbase:autoParam (attributeBase o name X.env (eval o X.env)=eval o X.env) ℜ0) (hline:autoParam ((apos.endLine == pos.line)=true) ℜ0):QE X (.Call (.Attribute o name apos) [] [] pos) (zj K T r to):=by
 subst hK;exact⟨Dr pa slot hty hm ho.h hbase hline⟩
def oY(K:W.Frag)(hK:X.K=K):uR X (EK K):=by subst hK;exact sJ
end Z
def JT{H':Hp}(h:bu K H a xs)(k:KB [] H H'):bu K H' a xs:=bu.same (λb o z=>k b o z (by simp)) h
namespace Z
def JH{te:TE}{pos:Pos}{d:Addr}{D:List (Str×List Str)}(K:W.Frag)(hK:X.K=K)(hg:Gl X x)(hm:X.mg x=some (.ref d))(hd:lG K d D)(he:QE X e te)(hs:zI e:=by exactλ_ _=>rfl)(hdb:autoParam ((x ==("__debug__":Str))=false) ℜ1):QE X (.Subscript (.Name x p) e pos) (wx K D te):=by
 subst hK;exact⟨Dj (tP hg hm rfl hdb) hd he.h hs⟩
def Jy{l:Expr}{tl:TE}(hl:QE X l tl):QI X tg l (yS tl):=⟨D_ hl.h⟩
def CS{pos:Pos}(K:W.Frag)(hK:X.K=K){k:Nat}{tp:Pos}(hg:Gl X "enumerate")(hm:X.mg "enumerate"=none)(ha:QA X [e] ta)(h1:autoParam (cW e=true) ℜ0):QI X (.Tuple es k tp) (.Call (.Name "enumerate" p) [e] [] pos) (kn K ta):=by
 subst hK;exact⟨yf hg hm ha.h h1⟩
def HD{t:TA}{pos kpos lpos p1 p3:Pos}{y z:Str}{c Pt d:Addr}{j:Nat}{params:Arguments}{k:Nat}(K:W.Frag)(hK:X.K=K)(hx:z∈dC)(ht:W.tabIn K z=some (c,Pt))(hcode:X.env.code=.ref c)(hq:X.env.qual=z++".<locals>.")(hdef:defaultsOf params X.env=([],[]))(hcl:closureFor scope X.env=pure [(y,d)])
  (hg:Gl X "sorted") (hm:X.mg "sorted"=none) (ha:QA X [e] t) (hr:bt (k+3) X.A)
  (hsc:scope={kind:=.function,names:=[(x,.local),(y,.free)],isGenerator:=false,isCoroutine:=false,more:=[]}) (hxy:y≠x) (hx1:(x ==("__debug__":Str))=false) (hx2:(x ==("__classdict__":Str))=false) (hy1:(y ==("__debug__":Str))=false) (hy2:(y ==("__classdict__":Str))=false)
  (hj:X.N[j]?=some y) (hyc:X.env.scope.names.lookup y=some .cell) (hyl:X.env.cells.lookup y=some d)
  (hbind:∀c' pm ctv u,bindArgs (W.kla_fn "<lambda>" ((z++".<locals>.")++"<lambda>") params (.Subscript (.Name y p1) (.Name x p2) p3) scope [(y,d)] pm (.ref c') ctv) ⟨[u],[]⟩=pure [(x,u)]) (h1:autoParam (cW e=true) ℜ0) :
  QE X (.Call (.Name "sorted" p) [e] [⟨some "key",.Lambda params (.Subscript (.Name y p1) (.Name x p2) p3) scope lpos,kpos⟩] pos) (jL K j t):=by
 subst hK;exact⟨wY hg hm ha.h h1 hr (Dy hx ht hcode hq hdef hcl) hsc hxy hx1 hx2 hy1 hy2 hj hyc hyl hbind⟩
def HV(K:W.Frag)(hK:X.K=K):cI X (compareOp .In) (Ik K false):=by subst hK;exact my
def EU(K:W.Frag)(hK:X.K=K):aX X (.type "list") (λxs H Q=>∃p ys,xs=[.ref p]/\(a_ K H p ys\/bu K H p ys)/\∀l,H l=none->Q (.ref l) (upd H l (.lst ys))):=by subst hK;exact oj
def GC{pos:Pos}:QE X (.Dict [] [] pos) kN:=⟨xE⟩
end Z
namespace Ap
def wx(K:W.Frag)(D:List (Str×List Str))(te:TE)(σ:St)(H:Hp)(Q:VK):L2.wx K D te σ H Q=te σ H λy H1=>∃k ws,y=.str k/\KTD.datumAt k D=some ws/\∀p,GP K p (ws.map V.str)->Q (.ref p) H1:=rfl
def yS(tl:TE)(σ:St)(H:Hp)(R:It->Hp->Prop):L2.yS tl σ H R=tl σ H λx H1=>∃z,x=V.str z/\R (Gd z) H1:=rfl
def kn(K:W.Frag)(ta:TA)(σ:St)(H:Hp)(R:It->Hp->Prop):L2.kn K ta σ H R=ta σ H λvs H1=>∃a,vs=[.ref a]/\(∃xs,a_ K H1 a xs)/\R (z_ K a) H1:=rfl
def jL(K:W.Frag)(j:Nat)(t:TA)(σ:St)(H:Hp)(Q:VK):L2.jL K j t σ H Q=t σ H λvs H1=>∃l xs kz,vs=[.ref l]/\(∃n:Nat,H1 l=some (.lJ 0 n)/\xs=jW n)/\kz.length=xs.length/\xs.length<64 /\
 (∀(i:Nat) (v:V) (k:Int),xs[i]?=some v->kz[i]?=some k->∀H',dN H1 H'->∃i q ls,v=.int i/\JN j σ=[some (.ref q)]/\bu K H' q ls/\bS ls i=some (.int k))/\∀H2 D,dN H1 H2->H2 D=none->Q (.ref D) (upd H2 D (.lst (js kz xs))):=rfl
def kN(σ:St)(H:Hp)(Q:VK):L2.kN σ H Q=∀p,H p=none->Q (.ref p) (upd H p (.dK [])):=rfl
end Ap
section
variable {K:W.Frag} {g:TG} {tb:TS} {D:Ends} {σ:St} {H:Hp}
theorem pq{z:Str}(Pv:Nat->St->Hp->Prop)(h0:Pv 0 σ H)
  (hs:∀i c σ H,z.cps[i]?=some c->Pv i σ H->g (.str ⟨#[c]⟩) σ H λσ2 H2=>tb {D with nx:=Pv (i+1),ct:=Pv (i+1),bk:=D.nx} σ2 H2) (hd:∀σ H,Pv z.cps.size σ H->D.nx σ H):nX (Gd z) g tb D σ H:=by
 refine⟨λi m σ H=>m=z.cps.size-i/\i<=z.cps.size/\Pv i σ H,⟨z.cps.size,by simp,K4 _,h0⟩,?_⟩
 rintro i m σ H ⟨rfl,hi,p⟩;by_cases c:i<z.cps.size
 ·refine .inr ⟨c,λσ' H'=>Pv (i+1) σ' H',λσ' H' h=>⟨_,by lia,rfl,c,h⟩,?_⟩
  rintro x H' ⟨rfl,y,e,rfl⟩;exact hs i y σ _ e p
 ·have e:i=z.cps.size:=by lia
  subst e;exact .inl ⟨Kp _,hd _ _ p⟩
theorem sF(Pv:Nat->St->Hp->Prop)(h0:Pv 0 σ H)(hl:∀i σ H,i<=xs.length->Pv i σ H->a_ K H a xs)
  (hs:∀i x σ H p,xs[i]?=some x->Pv i σ H->H p=none->g (.ref p) σ (upd H p (.tup [.int i,x])) λσ2 H2=>tb {D with nx:=Pv (i+1),ct:=Pv (i+1),bk:=D.nx} σ2 H2) (hd:∀σ H,Pv xs.length σ H->D.nx σ H) :
  nX (z_ K a) g tb D σ H:=by
 refine⟨λi m σ H=>m=xs.length-i/\i<=xs.length/\Pv i σ H,⟨xs.length,by simp,K4 _,h0⟩,?_⟩
 rintro i m σ H ⟨rfl,hi,p⟩;have hq:=hl i σ H hi p;by_cases c:i<xs.length
 ·refine .inr ⟨⟨xs[i],xs,hq,Kg c⟩,λσ' H'=>Pv (i+1) σ' H',λσ' H' h=>⟨_,by lia,rfl,c,h⟩,?_⟩
  rintro x H' ⟨q,y,e,fr,rfl,rfl⟩;have e1:=e xs hq;exact hs i y σ H q e1 p fr
 ·have e:i=xs.length:=by lia
  subst e;exact .inl ⟨⟨xs,hq,rfl⟩,hd _ _ p⟩
end
section
variable {K:W.Frag} {σ:St} {H:Hp} {tc:TT} {te:TE} {Q:VK}
def Br{x y:V}{c:Addr}{o1 o2:Option V}{R:St->Hp->Prop}(h:R (some x::some y::σ) (upd H c (.tup [x,y]))):rT K 2 (d6 (aO 0) (d6 (aO 1) lL)) (.ref c) (o1::o2::σ) (upd H c (.tup [x,y])) R:=⟨c,[x,y],rfl,bu.of aa,rfl,x,[y],rfl,y,[],rfl,rfl,h⟩
theorem pW(hn:xs.length<=sizeLine)(Pv:Addr->Nat->List V->Hp->Prop)(h0:∀D,H D=none->Pv D 0 [] (upd H D (.lst [])))(hD:∀D i ys H',Pv D i ys H'->H' D=some (.lst ys)/\ys.length=i)
  (hl:∀D i ys H',Pv D i ys H'->bu K H' a xs)
  (hs:∀D i ys H' x p (R:VK),xs[i]?=some x->Pv D i ys H'->H' p=none->(∀v H5,H5 D=some (.lst ys)->Pv D (i+1) (ys++[v]) (upd H5 D (.lst (ys++[v])))->R v H5)->te (some (.int i)::some x::σ) (upd H' p (.tup [.int i,x])) R) (hd:∀D ys H',Pv D xs.length ys H'->Q (.ref D) H') :
  iA (zW K a) 2 (rT K 2 (d6 (aO 0) (d6 (aO 1) lL))) dz te Q σ H:=by
 intro D hD0;refine⟨λi m ys σ' H'=>m=xs.length-i/\i<=xs.length/\Pv D i ys H'/\∃o1 o2,σ'=o1::o2::σ,⟨xs.length,by simp,K4 _,h0 D hD0,none,none,rfl⟩,?_⟩
 rintro i m ys σ' H' ⟨rfl,hi,p,o1,o2,rfl⟩;obtain⟨hDi,hly⟩:=hD _ _ _ _ p;have q:=hl _ _ _ _ p;refine⟨hDi,?_⟩;by_cases hlt:i<xs.length
 ·refine .inr ⟨⟨xs[i],xs,q,by simp[hlt]⟩,by lia,λx H2 y=>?_⟩
  obtain⟨c,y,hy,fr,rfl,rfl⟩:=y;refine Br ?_;unfold dz;dsimp only;rw[if_pos rfl];exact hs D i ys H' y c _ (hy xs q) p fr λv H5 q1 q2=>⟨q1,xs.length-(i+1),by lia,rfl,hlt,q2,_,_,rfl⟩
 ·have e:i=xs.length:=by lia
  subst e;exact .inl ⟨⟨xs,q,rfl⟩,hd D ys H' p⟩
end
def lh{t:TS}{D:Ends}(h:∀N,N=D.nx->t {D with nx:=N} σ H):t D σ H:=h _ rfl
def qO{c:TT}{t u:TS}{D:Ends}(h:∀A B,A=t D->B=u D->c σ H λb H1=>if b=true then A σ H1 else B σ H1):mX c t u D σ H:=h _ _ rfl rfl
def HasFn.IG{ps:List Str}{k:Nat}(F:HasFn K mg x st ps)(S:ax N ps (af st))(len:∀vs H Q E,sp vs H Q E->vs.length=ps.length)
  (hbody:∀(f:Addr) (cdv:Value) (A:Around) (outer:List Env) (s:Shared) (H:Hp) (vs:List V) (Q:VK) (E:XK),bt k (A.deeper (envOfC x (af st) s.heap.objs.size f cdv))->mg x=some (.ref f)->AN K f cdv->sp vs H Q E ->
   ∃t,QB (iZ aY P w K mg base N x (af st) f cdv A outer s H E).AK (bA st) t/\t {nx:=λ_ H'=>Q .aI H',rt:=Q} (start N vs) H):ao P w K mg base aY (k+1) x ps sp:=by
 obtain⟨f,fd,F1,b,m⟩:=F.ex;have F2:=F1;obtain⟨oc,od,kV,doc,pm,an,cdv,ct,osl,rfl,lk,fJ⟩:=F2.ex;refine⟨f,_,m,F1.kp,b,zm lk fJ S len λA outer s H vs Q E hr jr=>?_⟩;obtain⟨t,h,q⟩:=hbody f cdv A outer s H vs Q E hr m ⟨_,_,lk,rfl,rfl⟩ jr;exact⟨t,h.h.AK,q⟩
def aA.of(k:scope.kind=.function)(h:N.Nodup/\N.length=own.length+ON.length/\(∀y∈scope.names,y.2≠.cell)/\(∀y∈scope.names,y.2=.local->scope.names.lookup y.1=some .local)/\(∀y∈scope.names,y.2=.free->osc.names.lookup y.1=some .cell\/osc.names.lookup y.1=some .free)/\(∀p∈ON.zip (N.drop own.length),p.1=p.2\/scope.names.lookup p.2=none)/\∀x∈N.drop own.length,scope.names.lookup x≠some .local):aA osc ON scope own N:=by
 obtain⟨h1,h2,h3,h4,h5,h6,h7⟩:=h;exact⟨k,h1,h2,h3,h4,h5,h6,h7⟩
namespace Z
section
variable {X:Cx} {e o:Expr} {es:List Expr} {te to:TE} {t:TA} {pos pos' p:Pos} {x:Str}
def se(hN:X.N.Nodup)(he:QE X e te)(hi:autoParam (X.N[i]?=some x) ℜ0)(hx:Loc X.env.scope x:=by first|exact Or.inl rfl|exact Or.inr rfl)(hs:autoParam (Ij e=true) ℜ0)(hf:autoParam (X.fn x=true\/X.env.scope.names.lookup x=some .local) ℜ2):
  QS X (.Assign [.Name x pos'] e pos) (km te (aO i)):=set hN hi hx he hs hf
def fc{k:Nat}{ps:List Str}(F:ao X.prog X.w X.K X.mg X.base aY k x ps sp)(ha:QA X (e::es) t)(hr:bt k X.A:=by exact bt.mono (by assumption) (by decide))(hg:autoParam (Gl X x) ℜ0)(h1:autoParam (cW e=true) ℜ0)(h2:autoParam (es.all cW=true) ℜ0)(hdb:autoParam ((x ==("__debug__":Str))=false) ℜ1):
  QE X (.Call (.Name x p) (e::es) [] pos) (gI sp [] E0 t):=fn F hr hg zT ha h1 h2 hdb
def xU{wi:TI}(S:aA osc ON scope own N)(hi:QI X tg iter wi)
  (hg:∀(nd:N.Nodup) C s H fp,QG (aG X scope N C s H fp) tg g) (ht:∀C s H fp,Eu (aG X scope N C s H fp) ifs tc) (he:∀C s H fp,QE (aG X scope N C s H fp) elt te) (hosc:autoParam (X.env.scope=osc) ℜ0) (hON:autoParam (X.N=ON) ℜ0) (hc:autoParam (X.calm=true) ℜ0) (hs:autoParam (∀x,foldedSetIterable iter X.env x=pure x) ℜ3) :
  QE X (.ListComp elt [⟨tg,iter,ifs,0⟩] scope pos) (eR wi own.length g tc te):=comp S hosc hON hc hi (hg S.nd) ht he hs
def sec{wi:TI}{j:Nat}(hN:X.N.Nodup)(S:aA osc ON scope own N)(hi:QI X tg iter wi)
  (hg:∀(nd:N.Nodup) C s H fp,QG (aG X scope N C s H fp) tg g) (ht:∀C s H fp,Eu (aG X scope N C s H fp) ifs tc) (he:∀C s H fp,QE (aG X scope N C s H fp) elt te)
  (hj:autoParam (X.N[j]?=some x) ℜ0) (hx:Loc X.env.scope x:=by first|exact Or.inl rfl|exact Or.inr rfl) (hosc:autoParam (X.env.scope=osc) ℜ0) (hON:autoParam (X.N=ON) ℜ0) (hc:autoParam (X.calm=true) ℜ0)
  (hsw:autoParam (swapsWith (.ListComp elt [⟨tg,iter,ifs,0⟩] scope p2) (some (.Name x pos')) pos.line X.env=pure true) ℜ0)
  (hf:autoParam (X.fn x=true\/X.env.scope.names.lookup x=some .local) ℜ2) (hs:autoParam (∀x,foldedSetIterable iter X.env x=pure x) ℜ3) :
  QS X (.Assign [.Name x pos'] (.ListComp elt [⟨tg,iter,ifs,0⟩] scope p2) pos) (km (eR wi own.length g tc te) (aO j)):=setC hN hj hx S hosc hON hc hi (hg S.nd) ht he hsw hf hs
def app(K:W.Frag){apos:Pos}(ho:QE X o to)(ha:QA X (e::es) t)(hK:autoParam (X.K=K) ℜ0)(hbase:autoParam (attributeBase o "append" X.env (eval o X.env)=eval o X.env) ℜ0)(hline:autoParam ((apos.endLine == pos.line)=true) ℜ0)(h:autoParam ((e::es).all cW=true) ℜ0)(hl:autoParam ((e::es).length<30) ℜ1):QE X (.Call (.Attribute o "append" apos) (e::es) [] pos) (Fs K "list" ug to t):=bm K hK PySem.F.plainAttrs_list PySem.F.slot_list_append PySem.F.type_list_append mC ho ha hbase hline h hl
end
end Z
def wj.JG{qual:Str}{f:Addr}{ps:List Str}{k:Nat}(F:wj K x qual st f fd)(S:ax N ps (af st))(len:∀vs H Q E,sp vs H Q E->vs.length=ps.length)
  (hbody:∀(cdv:Value) (A:Around) (outer:List Env) (s:Shared) (H:Hp) (vs:List V) (Q:VK) (E:XK),bt k (A.deeper (envOfC qual (af st) s.heap.objs.size f cdv))->sp vs H Q E ->
   ∃t,QB (iZ (oB P w) P w K mg base N qual (af st) f cdv A outer s H E) (bA st) t/\t {nx:=λ_ H'=>Q .aI H',rt:=Q} (start N vs) H):dP P w K mg base (oB P w) (k+1) f fd ps sp:=by
 obtain⟨oc,od,kV,doc,pm,an,cdv,ct,osl,rfl,lk,fJ⟩:=F.ex;refine zm lk fJ S len λA outer s H vs Q E hr jr=>?_;obtain⟨t,h,q⟩:=hbody cdv A outer s H vs Q E hr jr;exact⟨t,h.h,q⟩
def HasFn.GK{ps:List Str}{k:Nat}(F:HasFn K mg x st ps)(S:ax N ps (af st))(len:∀vs H Q E,sp vs H Q E->vs.length=ps.length)
  (hbody:∀(f:Addr) (cdv:Value) (A:Around) (outer:List Env) (s:Shared) (H:Hp) (vs:List V) (Q:VK) (E:XK),bt k (A.deeper (envOfC x (af st) s.heap.objs.size f cdv))->sp vs H Q E ->
   ∃t,QB (iZ (oB P w) P w K mg base N x (af st) f cdv A outer s H E) (bA st) t/\t {nx:=λ_ H'=>Q .aI H',rt:=Q} (start N vs) H):ao P w K mg base (oB P w) (k+1) x ps sp:=by
 obtain⟨f,fd,F1,bnd,m⟩:=F.ex;exact⟨f,_,m,F1.kp,bnd,F1.JG S len λcdv A outer s H vs Q E hr h=>hbody f cdv A outer s H vs Q E hr h⟩
abbrev TJ:=St->Hp->(Hp->Prop)->Prop
structure QJ (X:Cx) (vs:List Expr) (t:TJ):Prop where
 run:∀(σ:St) (H:Hp) (Q:Hp->Prop) (pins:List (Addr×Obj)) (s:Shared) (acc:Str) (k:Nat) (R:Str->Shared->Prop),t σ H Q->Inv X pins σ H s->acc.length<=2000*k->k+vs.length<=20 ->
  (∀H' s' (out:Str),Q H'->Inv X pins σ H' s'->out.length<=40000->R out s')->Joins (model X.prog X.w) X.A X.xe (evalEach vs X.env) acc R s
def IY(te:TE)(t:TJ):TJ:=λσ H Q=>te σ H λv H1=>∃i,v=.int i/\i.natAbs<2^1900/\t σ H1 Q
def IQ(t:TJ):TE:=λσ H Q=>t σ H λH'=>∀z:Str,z.length<=40000->Q (.str z) H'
def JP(Dx:qS)(σ:St)(H:Hp):XK:=λcls de H'=>∃(e:Addr) (d:Option Addr),de=some e/\H' e=some (.ext (gy e cls d))/\(H e=none->(∀a,d=some a->H a=none)->Dx cls d e σ H')
def Io(Dx:qS)(sp:Sp)(t:TA):TE:=λσ H Q=>t σ H λvs H1=>sp vs H1 Q (JP Dx σ H1)
namespace Z
section
variable {X:Cx} {e o:Expr} {es vs:List Expr} {te ta:TE} {t:TA} {tj:TJ} {pos p:Pos} {x:Str}
def Jz:QJ X [] (λ_ H Q=>Q H):=⟨λσ H Q pins s acc k R q I ha hk h=>h H s acc q I (by simp at hk;lia)⟩
def Jm{c:Str}{j:Nat}(h:QJ X vs tj)(hc:autoParam (c.length<=2000) ℜ1)(he:autoParam (evalEach (.Constant (.str c) j p::vs) X.env=eval (.Constant (.str c) j p) X.env::evalEach vs X.env) ℜ0):QJ X (.Constant (.str c) j p::vs) tj:=by
 refine⟨λσ H Q pins s acc k R q I ha hk hR=>?_⟩;rw[he];refine bH ((Z.str (X:=X) (i:=c) (j:=j) (pos:=p)).h pins s σ H (λv H1=>v=.str c/\H1=H) I ⟨rfl,rfl⟩) λv s1 hq1=>?_;obtain⟨v',H1,I1,r1,e1,e2⟩:=hq1;subst e1;subst e2;obtain⟨t,rfl⟩:=r1;have hl:(acc++c).length<=2000*(k+1):=by rw[jH];lia
 rw[K2] at hk;exact⟨c,t,rfl,oy (by lia),h.run σ H1 Q pins s1 (acc++c) (k+1) R q I1 hl (by lia) hR⟩
def Jr(he:QE X e te)(h:QJ X vs tj)(hev:autoParam (evalEach (.FormattedValue e (-1) none p::vs) X.env=eval (.FormattedValue e (-1) none p) X.env::evalEach vs X.env) ℜ0):QJ X (.FormattedValue e (-1) none p::vs) (IY te tj):=by
 refine⟨λσ H Q pins s acc k R q I ha hk hR=>?_⟩;rw[hev];refine wpAny_FormattedValue_plain ?_;refine bH (he.h pins s σ H _ I q) λv s1 ⟨v',H1,I1,rv,i,e1,hi,q1⟩=>?_;subst e1;obtain⟨t',rfl⟩:=rv;have hlog:i.natAbs.log2<1920:=by
  by_cases z:i.natAbs=0
  ·rw[z];decide
  ·exact (Nat.log2_lt z).mpr (KI hi (Mg (by decide) (by decide)))
 have hlen:(Str.ofString (toString i)).length<=1921:=by
  have:=int_text_length_le (k:=1920) (by decide) hlog
  rw[PySem.ofString_length];exact this
 refine wpAny_formatField_int hlog ⟨_,_,rfl,?_,?_⟩
 ·rw[jH];exact oy (by rw[K2] at hk;lia)
 ·rw[K2] at hk;exact h.run σ H1 Q pins _ (acc++Str.ofString (toString i)) (k+1) R q1 (I1.tok _) (by rw[jH];lia) (by lia) hR
def J7{v1 v2:Expr}{rest:List Expr}(h:QJ X (v1::v2::rest) tj)(hn:autoParam ((v1::v2::rest).length<=20) ℜ1):QE X (.JoinedStr (v1::v2::rest) pos) (IQ tj):=⟨λpins s σ H Q I q=>by
 refine wpAny_JoinedStr (h.run σ H _ pins s Str.empty 0 _ q I (by decide) (by rw[N2];exact hn) λH' s' out q' I' ho=>⟨oy ho,?_⟩)
 exact⟨.str out,H',I'.tok _,⟨_,rfl⟩,q' out ho⟩⟩
def fX{k:Nat}{ps:List Str}(hD:Dx=g_ X)(F:ao X.prog X.w X.K X.mg X.base (oB X.prog X.w) k x ps sp)(ha:QA X (e::es) t)(hr:bt k X.A:=by exact bt.mono (by assumption) (by decide))(hg:autoParam (Gl X x) ℜ0)(hex:autoParam (X.ex=[]) ℜ0)(h1:autoParam (cW e=true) ℜ0)(h2:autoParam (es.all cW=true) ℜ0)(hdb:autoParam ((x ==("__debug__":Str))=false) ℜ1):
  QE X (.Call (.Name x p) (e::es) [] pos) (Io Dx sp t):=by
 subst hD;exact⟨FO F hr hg hex ha.h h1 h2 hdb⟩
end
end Z
namespace Ap
def Io(Dx:qS)(sp:Sp)(t:TA)(σ:St)(H:Hp)(Q:VK):L2.Io Dx sp t σ H Q=t σ H λvs H1=>sp vs H1 Q (JP Dx σ H1):=rfl
end Ap
section
variable {X:Cx} {C S f:Addr} {name:Str}
def Cz{xS:Str}{vs:List Expr}{ap p1 pos:Pos}{pl:Sem Bool}(x:fB X.K C S f name)(hg:Gl X xS)(hm:X.mg xS=some (.ref S))(hself:QE X (.Name "self" p1) (jQ 0))(hj:QE X (.JoinedStr vs p2) (IQ (IY (jQ 1) λ_ H Q=>Q H)))
  (ht:eval (.Call (.Attribute (.Name xS p) "__init__" ap) [.Name "self" p1,.JoinedStr vs p2] [] pos) X.env=(do
   let ov <- eval (.Name xS p) X.env
   standAt ap.atName
   let (f,first) <- holding [ov] (getMethod ov "__init__" pl)
   callWith pos f first (backTo pos (starEach [.Name "self" p1,.JoinedStr vs p2] X.env)) (backToKw pos (keywordEach [] X.env))))
  (hst:autoParam (starEach [.Name "self" p1,.JoinedStr vs p2] X.env=(false,eval (.Name "self" p1) X.env)::starEach [.JoinedStr vs p2] X.env) ℜ0) (hpl:autoParam ((backTo pos (starEach [.JoinedStr vs p2] X.env)).any (·.1)=false) ℜ0) (hdb:autoParam ((xS ==("__debug__":Str))=false) ℜ1)
  (hst2:autoParam (starEach [.JoinedStr vs p2] X.env=(false,eval (.JoinedStr vs p2) X.env)::starEach [] X.env) ℜ0) :
  PE X (.Call (.Attribute (.Name xS p) "__init__" ap) [.Name "self" p1,.JoinedStr vs p2] [] pos) (J5 C):=by
 intro pins s σ H Q I h;obtain⟨e,i,rfl,hi,he,q⟩:=h;refine W.methodCall_KW (pl:=pl) (dQ I hg hm ?_ hdb) ht;refine W.method_cls I.fi x.sg (W.cls_value I.fi x.sr x.si rfl ?_);have I1:=I.tok (s.toks+1);have hA:=jy (t:=iy (IQ (IY (jQ 1) λ_ H Q=>Q H)) kh) hself.h (jy hj.h rC hst2) hst pos pins _ _ H (λvs H1=>∃z:Str,vs=[.ref e,.str z]/\H1=H) I1 ⟨.ref e,rfl,.int i,rfl,i,rfl,hi,λz _=>⟨z,rfl,rfl⟩⟩;rw[hst] at hA ⊢;refine NA (by show (false || (backTo pos (starEach [.JoinedStr vs p2] X.env)).any (·.1))=false;rw[hpl]<;>rfl) (Calls.evalArgs_plain ?_)
 refine bH hA λus s2 hq1=>?_;obtain⟨ws,H2,I2,r,z,ez,eH⟩:=hq1;subst ez;subst eH;obtain⟨u1,u2,rfl,r1,r2⟩:=vals2 r;obtain rfl:u1=Value.ref e:=r1;obtain⟨oe,ws,a0,g1,g2,g3,g4,g5,g6⟩:=(show lg e (.ref C) none s2.heap from (I2.aL _ _ he).1);refine vO x I2.fi g1 g2 g4 g5 (by simp[L7]) λh' u k1 k2=>?_
 have hsz:=(KC.mp g5).1;have hN':lg e (.ref C) none h':=⟨_,_,u,k1,g2,g3,rfl,by simp[hsz],by rw[Array.getElem?_setIfInBounds_ne (by decide)];exact g6⟩
 have I3:Inv X pins _ (upd H2 e (.ext (lg e (.ref C) none))) {s2 with heap:=h'}:=I2.un (t':=s2.toks) (Un.zk he k2 ⟨_,k1⟩) (I2.aL.zk he k2 hN'.ok)
 rw[xi he] at I3;exact⟨.aI,H2,I3,rfl,q H2 λ_ _ z=>z⟩
end
def IB(Dx:qS)(C:Addr)(name:Str)(te:TE):TS:=λ_ σ H=>te σ H λv H1=>∃i,v=.int i/\i.natAbs<2^1900/\∀e d H',H1 e=none->H1 d=none->kM H1 H'->H' e=some (.ext (gy e (.ref C) (some d)))->H' d=some (.xd [(name,.int i)])->Dx (.ref C) (some d) e σ H'
def AH(K:W.Frag)(name:Str)(te:TE):TE:=λσ H Q=>te σ H λv H1=>∃(ea d C:Addr) (i:Int),v=.ref ea/\H1 ea=some (.ext (gy ea (.ref C) (some d)))/\H1 d=some (.xd [(name,.int i)])/\jY K C/\W.hasDictIn K C=true/\W.findIn K (.ref C) name=some none/\Q (.int i) H1
def Kc(K:W.Frag)(DA:Addr)(i:Nat)(th:TS)(D:Ends):qS:=λcls d e σ' H'=>(∃C,cls=.ref C/\Fv K C/\W.mroIn K C (.ref DA)=some true)/\H' e=some (.ext (gy e cls d))/\th {nx:=λσ1 H1=>D.nx (σ1.set i none) H1,rt:=λ_ _=>False} (σ'.set i (some (.ref e))) H'
def GH(K:W.Frag)(DA:Addr)(i:Nat)(tb:qS->TS)(th:TS):TS:=λD σ H=>∀Dx:qS,(∀cls d e σ' H',Kc K DA i th D cls d e σ' H'->Dx cls d e σ' H')->tb Dx D σ H
def Im(sp:Sp)(t:TA)(G:Ey):TE:=λσ H Q=>t σ H λvs H1=>sp vs H1 Q λcls de H'=>∃(e:Addr) (d:Option Addr),de=some e/\H' e=some (.ext (gy e cls d))/\(H1 e=none->(∀a,d=some a->H1 a=none)->G cls d e H')
def ud(Dx:qS)(wi:TI)(k:Nat)(g:TG)(tc:TT)(te:Ey->TE):TE:=λσ H Q=>eR wi k g tc (te λcls d e H'=>Dx cls d e σ H') σ H Q
structure JK (X:Cx) (e:Expr) (te:Ey->TE):Prop where
 h:∀G:Ey,(∀cls d e σ' H',G cls d e H'->g_ X cls d e σ' H')->Ih X e (te G)
namespace Z
section
variable {X:Cx} {C S f:Addr} {name x:Str} {e:Expr} {es:List Expr} {te:TE} {t:TA} {p cpos pos:Pos}
def ye{k:Nat}{ps:List Str}(hD:Dx=g_ X)(hx:fB X.K C S f name)(Fn:dP X.prog X.w X.K X.mg X.base (oB X.prog X.w) k f fd ps (Gb C name))(hb:Binds X.K fd ps [])(hm:X.mg x=some (.ref C))(he:QE X e te)(hr:bt (k+1) X.A:=by exact bt.mono (by assumption) (by decide))(hc:autoParam (X.calm=true) ℜ0)(hex:autoParam (X.ex=[]) ℜ0)(hg:autoParam (Gl X x) ℜ0)(h1:autoParam (cW e=true) ℜ0)(hdb:autoParam ((x ==("__debug__":Str))=false) ℜ1):
  QS X (.Raise (some (.Call (.Name x p) [e] [] cpos)) none pos) (IB Dx C name te):=by
 subst hD;refine⟨λpins s σ H D I q=>uE hc I hx ?_⟩;refine LO (dQ I hg hm ?_ hdb);refine O4 (h₀:=X.base) I.ok.mod.jz hx.kp (bH ((Z.cons he Z.nil h1).h cpos pins s σ H (λvs H1=>match vs with
  |[v]=>∃i,v=.int i/\i.natAbs<2^1900/\∀e d H',H1 e=none->H1 d=none->kM H1 H'->H' e=some (.ext (gy e (.ref C) (some d)))->H' d=some (.xd [(name,.int i)])->g_ X (.ref C) (some d) e σ H'
  |_=>False) I q) λus s1 ⟨vs,H1,I1,rv,q0⟩=>⟨I1.fi,?_⟩) (bN h1) (plain_any rfl)
 obtain⟨v,rfl⟩:∃v,vs=[v]:=by
  rcases vs with _|⟨v,_|⟨w,vs⟩⟩
  ·exact q0.elim
  ·exact⟨v,rfl⟩
  ·exact q0.elim
 obtain⟨i,ei,hi,q1⟩:=q0;subst ei;obtain⟨u,rfl,ru⟩:=vals1 rv;refine B8 hx Fn hb hr hex I1 ru hi λea d H' s' n1 n2 sm tr td I2 fl nw=>?_;obtain⟨oe,vs,g1,g2,_,g4,g5⟩:=id fl;exact⟨ea,oe,rfl,I2.fi,g1,g2,⟨vs,g4,g5⟩,q1 ea d H' n1 n2 sm tr td pins s' none I2 fl nw⟩
def Ka(K:W.Frag)(ha:QE X e te)(hK:autoParam (X.K=K) ℜ0)(hb:autoParam (attributeBase e name X.env (eval e X.env)=eval e X.env) ℜ0):QE X (.Attribute e name pos) (AH K name te):=by
 subst hK;refine⟨λpins s σ H Q I q=>Cy hb (bH (ha.h pins s σ H _ I q) λu s1 ⟨v,H1,I1,rv,ea,d,C,i,ev,h1,g1,KX,hh,hn,q1⟩=>?_)⟩;subst ev;obtain rfl:u=Value.ref ea:=rv;obtain⟨oe,vs,h2,h3,h4,h5⟩:=(show gy ea (.ref C) (some d) s1.heap from (I1.aL _ _ h1).1);obtain⟨mA,ns,rel⟩:=(show aN X.prog X.w H1 s1.heap d (.xd [(name,.int i)]) from I1.aL _ _ g1);obtain⟨od,hod,lk⟩:=lU ns;have In:W.InstAt s1.heap ea oe C (some od):=⟨h2,h3,by unfold W.notCls;rw[h5],by rw[h4];exact hod⟩
 have rl:=rel name;rw[show List.lookup name [(name,V.int i)]=some (V.int i) by simp] at rl
 cases hm:mA name with
 |none=>rw[hm] at rl;exact rl.elim
 |some u' =>
  rw[hm] at rl;obtain⟨tk,rfl⟩:=(show RelV (.int i) u' from rl);refine BL KX I1.fi In (W.findObj_own hh hn rfl (by rw[lk,hm])) rfl ?_
  exact⟨.int i,H1,I1.tok _,⟨tk,rfl⟩,q1⟩
def fG{k:Nat}{ps:List Str}(F:ao X.prog X.w X.K X.mg X.base (oB X.prog X.w) k x ps sp)(ha:QA X (e::es) t)(hr:bt k X.A:=by exact bt.mono (by assumption) (by decide))(hg:autoParam (Gl X x) ℜ0)(h1:autoParam (cW e=true) ℜ0)(h2:autoParam (es.all cW=true) ℜ0)(hdb:autoParam ((x ==("__debug__":Str))=false) ℜ1)(jr:∀vs H Q (E E':XK),(∀c d H,E c d H->E' c d H)->sp vs H Q E->sp vs H Q E')(hta:∀σ H (Q Q':List V->Hp->Prop),(∀vs H,Q vs H->Q' vs H)->t σ H Q->t σ H Q'):
  JK X (.Call (.Name x p) (e::es) [] pos) (Im sp t):=⟨λG hG pins s σ H Q hcov I q=>Ck F hr hg ha.h h1 h2 hdb pins s σ H Q hcov I (hta _ _ _ _ (λvs H1 h=>jr _ _ _ _ _ (λc de H' ⟨e,d,a1,a2,a3⟩=>⟨e,d,a1,a2,λn1 n2=>hG _ _ _ _ _ (a3 n1 n2)⟩) h) q)⟩
end
def HC{X:Cx}{body suite:List Stmt}{b0:Stmt}{nm:Str}{DA:Addr}{np hpos pos:Pos}{tb:qS->TS}{th:TS}(K:W.Frag)(hm:X.mg x=some (.ref DA))(hkD:Ii K DA)
  (hN:X.N.Nodup) (hb:∀pins E (Dx:qS),Dx=g_ (uH X pins E)->QB (uH X pins E) body (tb Dx)) (hh:∀e,QB (DD X e) (b0::suite) th)
  (hi:autoParam (X.N[i]?=some nm) ℜ0) (hx:autoParam (X.env.scope.names.lookup nm=some .local) ℜ0) (hK:autoParam (X.K=K) ℜ0) (hg:autoParam (Gl X x) ℜ0) (hc:autoParam (X.calm=true) ℜ0) (hex:autoParam (X.ex=[]) ℜ0) (hst:autoParam (X.stack=X.env::X.outer) ℜ0) (hfm:autoParam (X.env.frame=some X.env.locals) ℜ0) (hdb:autoParam ((x ==("__debug__":Str))=false) ℜ1) :
  QS X (.Try body [.ExceptHandler (some (.Name x np)) (some nm) (b0::suite) hpos] [] [] pos) (GH K DA i tb th):=by
 subst hK;have hkl:X.env.kindOf nm=some .local:=hx;refine⟨λpins s σ H D I q=>?_⟩;have hh0:X.A.handled=none:=I.ok.hd hc;refine wpAny_Try_except ?_;have qb:=hb pins (λy s1=>wpAny (model X.prog X.w) X.A (noteFrame y X.env) (λ_ s2=>wpAny (model X.prog X.w) X.A (setFlight y none) (λ_ s3=>wpAny (model X.prog X.w) X.A (handleBy y X.env [.ExceptHandler (some (.Name x np)) (some nm) (b0::suite) hpos]) (SP X pins D) X.xe s3) X.xe s2) X.xe s1) _ rfl;refine Lh (qb.h [] s σ H D I.Ic (q _ ?_)) (λf s1 h1=>?_) (λy s1 h1=>h1)
 ·rintro cls d e σ' H' ⟨⟨C,rfl,hkC,hsub⟩,tr,hu⟩;intro pins' s' To I' fl nw;have hex':(uH X pins (λy s1=>wpAny (model X.prog X.w) X.A (noteFrame y X.env) (λ_ s2=>wpAny (model X.prog X.w) X.A (setFlight y none) (λ_ s3=>wpAny (model X.prog X.w) X.A (handleBy y X.env [.ExceptHandler (some (.Name x np)) (some nm) (b0::suite) hpos]) (SP X pins D) X.xe s3) X.xe s2) X.xe s1)).ex=[]:=hex;have hfr:X.A.frames=some (X.env::X.outer):=by rw[<- hst];exact I.ok.frames
  have hstk:=I'.stack;have hstk2:s'.heap.FunFrames X.base (X.env::X.outer):=by rw[<- hst];exact hstk
  refine oR hfr hfm hstk2 fl λh2 T2 mv f2=>?_;rw[<- hst] at mv;obtain⟨I2,nw2⟩:=I'.moved hex' fl nw mv f2;have J2:Inv (DD X e) pins σ' H' {s' with heap:=h2}:=I2.jg.wc
  refine wpAny_handleBy_cons (codeAny_handlers_test (dQ J2 hg hm ?_ hdb)) (by intro z;cases z)
  refine sP J2.fi hkC hkD f2.is hsub (codeAny_handlers_suite_as ?_);refine qo (base:=X.base) (l:=X.stack) (s:={s' with heap:=h2}) I2.stack f2 λh3 T3 mv3 f3=>?_
  obtain⟨I3,nw3⟩:=I2.moved (h':=h3) hex' f2 nw2 mv3 f3;have J3:Inv (DD X e) pins σ' H' {s' with heap:=h3}:=I3.jg.wc
  refine kZ (X:=DD X e) (v:=.ref e) J3 hN hi (.inl hx) rfl (λs4 I4=>?_) (.inr hx);refine Lh ((hh e).h pins _ _ H' _ I4 hu) (λf s5 h5=>?_) (λ_ _ z=>z.elim);have h6:=SP.IC hh0 hc h5
  cases f with
  |next =>
   obtain⟨σ1,H1,I6,q6⟩:=h6;exact name_goes I6 hN hi hkl λs7 I7=>⟨_,H1,I7,q6⟩
  |brk=>obtain⟨_,_,_,z⟩:=h6;exact z.elim
  |cont=>obtain⟨_,_,_,z⟩:=h6;exact z.elim
  |ret u=>obtain⟨_,_,_,_,_,z⟩:=h6;exact z.elim
 ·have h2:=SP.jg h1
  cases f with
  |next=>exact Kt h2
  |brk=>exact h2
  |cont=>exact h2
  |ret u=>exact h2
def Jw{pos:Pos}{wi:TI}{te:Ey->TE}(hD:Dx=g_ X)(S:aA osc ON scope own N)(hi:QI X tg iter wi)
  (hg:∀(nd:N.Nodup) C s H fp,QG (aG X scope N C s H fp) tg g) (ht:∀C s H fp,Eu (aG X scope N C s H fp) ifs tc) (he:∀C s H fp XE,JK (fw X scope N C s H fp XE) elt te) (hosc:autoParam (X.env.scope=osc) ℜ0) (hON:autoParam (X.N=ON) ℜ0) (hc:autoParam (X.calm=true) ℜ0) (hex:autoParam (X.ex=[]) ℜ0) (hst:autoParam (X.stack=X.env::X.outer) ℜ0) (hfm:autoParam (X.env.frame=some X.env.locals) ℜ0) (hs:autoParam (∀x,foldedSetIterable iter X.env x=pure x) ℜ3) :
  QE X (.ListComp elt [⟨tg,iter,ifs,0⟩] scope pos) (ud Dx wi own.length g tc te):=by
 subst hD;exact⟨yn hex hst hfm S hosc hON hc hi.h (λC s H fp=>(hg S.nd C s H fp).h) (λC s H fp=>(ht C s H fp).h) (λC s H fp XE G hG=>(he C s H fp XE).h G hG) hs⟩
def wq(K:W.Frag)(y:V)(c:Value)(hy:∀u,RelV y u->u=c)(hK:X.K=K):aX X (.builtin "isinstance") (xF K y c):=by subst hK;exact rH hy
def Dg(K:W.Frag)(ds:List Addr)(hK:X.K=K):aX X (.builtin "isinstance") (xx K ds):=by subst hK;exact rb
end Z
namespace Ap
def IB(Dx:qS)(C:Addr)(name:Str)(te:TE)(D:Ends)(σ:St)(H:Hp):L2.IB Dx C name te D σ H=te σ H λv H1=>∃i,v=.int i/\i.natAbs<2^1900/\∀e d H',H1 e=none->H1 d=none->kM H1 H'->H' e=some (.ext (gy e (.ref C) (some d)))->H' d=some (.xd [(name,.int i)])->Dx (.ref C) (some d) e σ H':=rfl
def AH(K:W.Frag)(name:Str)(te:TE)(σ:St)(H:Hp)(Q:VK):L2.AH K name te σ H Q=te σ H λv H1=>∃(ea d C:Addr) (i:Int),v=.ref ea/\H1 ea=some (.ext (gy ea (.ref C) (some d)))/\H1 d=some (.xd [(name,.int i)])/\jY K C/\W.hasDictIn K C=true/\W.findIn K (.ref C) name=some none/\Q (.int i) H1:=rfl
def ud(Dx:qS)(wi:TI)(k:Nat)(g:TG)(tc:TT)(te:Ey->TE)(σ:St)(H:Hp)(Q:VK):L2.ud Dx wi k g tc te σ H Q=eR wi k g tc (te λcls d e H'=>Dx cls d e σ H') σ H Q:=rfl
def Im(sp:Sp)(t:TA)(G:Ey)(σ:St)(H:Hp)(Q:VK):L2.Im sp t G σ H Q=t σ H λvs H1=>sp vs H1 Q λcls de H'=>∃(e:Addr) (d:Option Addr),de=some e/\H' e=some (.ext (gy e cls d))/\(H1 e=none->(∀a,d=some a->H1 a=none)->G cls d e H'):=rfl
end Ap
end L2
namespace G
local macro_rules|`(tactic|and_intros)=>`(tactic|exact ⟨rfl,rfl,rfl,by decide +kernel,rfl,by decide +kernel,by decide +kernel⟩)
open PySem L2 PySem.Spec PyProof.Rows
variable{L i p t:Nat}{C_NoBits C_ShortError a dq f:Addr}{b done en r sp z:List Nat}{H H':Hp}{o:Option (Nat×Nat)}{xs ys zs:List V}{as ex:List Addr}{ln:Nat->Nat}{ws:List (List Nat)}{ls:List Int}{α:Type}{h:Heap}{K:W.Frag}{Q:VK}{q:Program}{es:List Expr}{σ:L2.St}{te:TE}{g:Int}{fd fdI:FuncData}{mg:Str->Option Value}
def top(i:Nat):Stmt:=PySem.Challenge.pw_shortrows_k31_bits_spoilt.main.body.getD i (.Pass ⟨0,0,0,0⟩)
abbrev aR:Stmt:=inClass (top 7) 0
def gW:ax ["self","place"] ["self","place"] (af aR):=by and_intros
abbrev j_:Stmt:=top 9
def cg:ax ["lengths","free","depth","left","length"] ["lengths"] (af j_):=by and_intros
abbrev c_:Stmt:=top 11
def dI:ax ["lengths","words","ahead","thing"] ["lengths"] (af c_):=by and_intros
abbrev d_:Stmt:=top 12
def kH:ax ["ahead","length"] ["ahead","length"] (af d_):=by and_intros
abbrev gQ:Stmt:=top 13
def fO:ax ["code","bits","place","thing","word"] ["code","bits","place"] (af gQ):=by and_intros
abbrev iS:Stmt:=top 17
def rd:ax ["row"] ["row"] (af iS):=by and_intros
abbrev fM:Stmt:=top 18
def n9:ax ["row","goal"] ["row","goal"] (af fM):=by and_intros
abbrev fe:Stmt:=top 26
def oI:ax ["book"] ["book"] (af fe):=by and_intros
abbrev cE:Stmt:=top 28
def cp:ax ["bits","book","codes","rows","starts","found","numbers"] ["bits","book"] (af cE):=by and_intros
abbrev cC:Stmt:=top 29
def eU:ax ["row","start","numbers","goal"] ["row","start","numbers"] (af cC):=by and_intros
abbrev jF:Stmt:=top 30
def cG:ax ["codes","bits","place","found","word","row","behind","kind","part"] ["codes","bits","place"] (af jF):=by and_intros
abbrev gS:Stmt:=top 31
def jl:ax ["code","bits","place","thing"] ["code","bits","place"] (af gS):=by and_intros
abbrev iM:Stmt:=top 32
def kQ:ax ["kind","codes","bits","place","found"] ["kind","codes","bits","place"] (af iM):=by and_intros
abbrev fF:Stmt:=top 33
def fj:ax ["code","bits","place","found","behind"] ["code","bits","place"] (af fF):=by and_intros
abbrev iP:Stmt:=top 34
def cY:ax ["bits","place","found","width","behind","distance"] ["bits","place"] (af iP):=by and_intros
abbrev dX:Stmt:=top 36
def nr:ax ["script"] ["script"] (af dX):=by and_intros
abbrev gN:Stmt:=top 37
def fD:ax ["number","turn","one"] ["number","turn"] (af gN):=by and_intros
abbrev fK:Stmt:=top 38
def i7:ax ["deck","most","number"] ["deck","most"] (af fK):=by and_intros
abbrev e_:Stmt:=top 39
def lM:ax [] [] (af e_):=by and_intros
abbrev fW:Stmt:=top 40
def cN:ax ["number","many","text","k"] ["number","many"] (af fW):=by and_intros
abbrev dY:Stmt:=top 41
def bo:ax ["lengths","found","number","size","length","thing","k"] ["lengths"] (af dY):=by and_intros
abbrev dJ:Stmt:=top 42
def bT:ax ["deck","many","depths","k","deep","at"] ["deck","many"] (af dJ):=by and_intros
abbrev dR:Stmt:=top 43
def nE:ax ["deck"] ["deck"] (af dR):=by and_intros
abbrev ee:Stmt:=top 44
def dA:ax ["deck","size","top"] ["deck"] (af ee):=by and_intros
abbrev gP:Stmt:=top 45
def dU:ax ["deck","goals","some","word","box"] ["deck","goals"] (af gP):=by and_intros
abbrev cM:Stmt:=top 46
def f7:ax ["deck","most","many"] ["deck","most"] (af cM):=by and_intros
abbrev d3:Stmt:=top 47
def lA:ax ["program"] ["program"] (af d3):=by and_intros
abbrev fu:Stmt:=top 48
def bW:ax ["row","codes","text","part","size"] ["row","codes"] (af fu):=by and_intros
abbrev eY:Stmt:=top 49
def cA:ax ["sizes","goals","widths","found","size","goal","width"] ["sizes","goals","widths"] (af eY):=by and_intros
abbrev fk:Stmt:=top 50
def bD:ax ["sizes","goals","widths","turn","spots","k","half","far"] ["sizes","goals","widths"] (af fk):=by and_intros
abbrev bV:Stmt:=top 51
def aJ:ax ["program","book","widths","codes","plain","goals","sizes","spots","bits","k","span","far"] ["program","book","widths"] (af bV):=by and_intros
abbrev eE:Stmt:=top 52
def bL:ax ["book","found","lengths","table","thing","word"] ["book"] (af eE):=by and_intros
abbrev dy:Stmt:=top 53
def cV:ax ["table","bits","at","size","word"] ["table","bits","at"] (af dy):=by and_intros
abbrev ff:Stmt:=top 54
def dh:ax ["text","number","sign"] ["text"] (af ff):=by and_intros
abbrev eB:Stmt:=top 55
def bK:ax ["bits","at","k","mark","text","number"] ["bits","at"] (af eB):=by and_intros
abbrev cZ:Stmt:=top 56
def cO:ax ["table","bits","at","found","text"] ["table","bits","at"] (af cZ):=by and_intros
abbrev e7:Stmt:=top 57
def bq:ax ["tables","bits","at","found","row","kind","behind"] ["tables","bits","at"] (af e7):=by and_intros
abbrev fU:Stmt:=top 58
def bj:ax ["bits","book","tables","rows","ends","found","program","row","begin","behind"] ["bits","book"] (af fU):=by and_intros
abbrev dn:Stmt:=top 59
def hU:ax ["found","due"] ["found","due"] (af dn):=by and_intros
abbrev fm:Stmt:=top 60
def bE:ax ["bits","book","found","told","e","other"] ["bits","book"] (af fm):=by and_intros
abbrev eZ:Stmt:=top 61
def df:ax ["bits","book","place","e"] ["bits","book"] (af eZ):=by and_intros
abbrev cz:Stmt:=top 62
def cR:ax ["deck","bits","way","at","sign"] ["deck","bits"] (af cz):=by and_intros
abbrev i9:Stmt:=top 63
def gY:ax ["script","deck","turn","book","program","bits","some"] ["script"] (af i9):=by and_intros
structure Txt (K:W.Frag) (mg:Str->Option Value):Prop where
 m_:mg "ValueError"=none
 Ht:mg "abs"=none
 Fh:mg "bool"=none
 DX:mg "dict"=none
 dZ:mg "enumerate"=none
 qI:mg "int"=none
 bf:mg "isinstance"=none
 b7:mg "len"=none
 yJ:mg "list"=none
 C3:mg "min"=none
 cB:mg "range"=none
 kO:mg "sorted"=none
 yT:mg "str"=none
 Hw:mg "sum"=none
 cJ:mg "tuple"=none
 tL:mg "zip"=none
 A6:∃a,mg "BOXES"=some (.ref a)/\∀H,bu K H a [.str "a",.str "b",.str "c",.str "d",.str "e",.str "f",.str "g",.str "h"]
 xy:∃a,mg "HALVES"=some (.ref a)/\∀H,bu K H a [.int 8,.int 128,.int 32768]
 Cc:∃a,mg "HEADS"=some (.ref a)/\∀H,bu K H a [.str "0",.str "10",.str "11"]
 qQ:∃u,mg "OF_BOXES"=some u/\RelV (.int 2) u
 nW:∃u,mg "OF_CLASSES"=some u/\RelV (.int 1) u
 sO:∃u,mg "OF_WORDS"=some u/\RelV (.int 0) u
 yD:∃a,mg "WIDTHS"=some (.ref a)/\∀H,bu K H a [.int 4,.int 8,.int 16]
 pP:∃d,mg "SHAPES"=some (.ref d)/\lG K d [("put",["box","number"]),("add",["box","box"]),("sub",["box","box"]),("copy",["box","box"]),("tell",["box"]),("hear",["box"]),("jump",["goal"]),("zero",["box","goal"]),("halt",[])]
 xs:∃C_ShortError C_NoBits C_NoAsk C_NoCode C_NoProgram C_NoReach C_NoRow:Addr,mg "ShortError"=some (.ref C_ShortError)/\mg "NoBits"=some (.ref C_NoBits)/\mg "NoAsk"=some (.ref C_NoAsk)/\mg "NoCode"=some (.ref C_NoCode)/\mg "NoProgram"=some (.ref C_NoProgram)/\mg "NoReach"=some (.ref C_NoReach)/\mg "NoRow"=some (.ref C_NoRow)/\vq K C_ShortError/\jY K C_NoBits/\W.mroIn K C_NoBits (.ref C_ShortError)=some true/\W.mroIn K C_NoBits (.ref C_NoBits)=some true/\W.kitOne K (.ref C_NoBits) (.ref C_NoBits)=some true/\W.kitOne K (.ref C_NoBits) (.type "ValueError")=some true/\W.kitAny K (.ref C_NoBits) [(.ref C_NoAsk),(.ref C_NoCode),(.ref C_NoProgram),(.ref C_NoReach),(.ref C_NoRow)]=some false/\∃(f:Addr) (fd:FuncData),fB K C_NoBits C_ShortError f "place"/\wj K "__init__" "NoBits.__init__" aR f fd/\Binds K fd ["self","place"] []/\W.hasDictIn K C_NoBits=true
 pH:sZ K mg "code_of"
section
variable {P:Program} {w:World} {K:W.Frag} {mg:Str->Option Value} {base:Heap}
namespace Kr
def ks(L:Nat):List Nat->Nat
 |[]=>0
 |l::r=>2^(L-l)+ks L r
theorem cF(L:Nat):∀a b,ks L (a++b)=ks L a+ks L b
 |[],b=>by simp[ks]
 |x::a,b=>by simp[ks,cF L a b];lia
def ig{a:List Nat}(h:a.Perm b):ks L a=ks L b:=by
 induction h with
 |nil=>rfl
 |cons x _ ih=>simp[ks,ih]
 |swap x y l=>simp[ks];lia
 |trans _ _ h1 h2=>exact h1.trans h2
def vx{d l:Nat}(h:d<l)(hl:l<=L):2^(L-d)=2*2^(L-(d+1)):=by
 have:L-d=(L-(d+1))+1:=by lia
 rw[this,P7];lia
def fit:List Nat->Nat->Nat->Nat->Prop:=λr free depth L=>ks L r<=free*2^(L-depth)
theorem CH{L d:Nat}:∀{r:List Nat},(∀x∈r,d<=x)->ks L r<=r.length*2^(L-d)
 |[],_=>by simp[ks]
 |x::r,h=>by
  have ih:=CH (L:=L) (d:=d) (r:=r) λy hy=>h y (Kx _ hy);have hx:=h x Kw;have:=Mg (n:=2) (by decide) (Nat.sub_le_sub_left hx L)
  simp only[ks,K2,O5];lia
def DH{x:Nat}:0<ks L (x::r):=by
 have:=Nat.pow_pos (n:=L-x) (show 0<2 by decide)
 simp only[ks];lia
def sH{free depth:Nat}(h:∀x∈r,depth<=x)(hf:r.length<=free):fit r free depth L:=
 Km (CH h) (Nat.mul_le_mul_right _ hf)
def sN{free depth l:Nat}(h:depth<l)(hl:l<=L):fit r free depth L ↔ fit r (free*2) (depth+1) L:=by
 unfold fit;rw[vx h hl,Pw]
def xV{free l:Nat}(hf:0<free):fit (l::r) free l L ↔ fit r (free-1) l L:=by
 unfold fit;simp only[ks];obtain⟨f,rfl⟩:∃f,free=f+1:=⟨free-1,by lia⟩
 rw[Nat.add_sub_cancel,O5];lia
def wA{x:Nat}{r:List Nat}{depth L:Nat}:¬ fit (x::r) 0 depth L:=by
 unfold fit;have:=DH (L:=L) (x:=x) (r:=r);lia
end Kr
def _root_.L2.KB.n(k:KB [] H H'){b:Addr}{o:HO}(e:H b=some o):H' b=some o:=k b o e KO
def _root_.L2.e8(h:H a=none)(o:HO):KB [] H (upd H a o)/\upd H a o a=some o:=⟨KB.new h,aa⟩
def iV(xs:List Int):List V:=xs.map V.int
def bF(xs:List Int):(iV xs).length=xs.length:=Ki ..
def ni(xs ys:List Int):iV (xs++ys)=iV xs++iV ys:=K7
def lY{xs:List Int}(h:i<xs.length):bS (iV xs) (i:Int)=some (.int xs[i]):=bw (by unfold iV;rw[Kn,Kg h];rfl)
def jM{xs:List Int}{v:V}(h:(iV xs)[i]?=some v):∃hi:i<xs.length,v=.int xs[i]:=by
 unfold iV at h;rw[Kn] at h
 cases e:xs[i]? with
 |none=>rw[e] at h;cases h
 |some x=>rw[e] at h;cases h;obtain⟨hi,rfl⟩:=Kl.mp e;exact⟨hi,rfl⟩
def Di(xs:List Int)(i:Nat)(x:Int):(iV xs).set i (.int x)=iV (xs.set i x):=by unfold iV;rw[MW]
def EA(h:(i:Int)<(xs.length:Nat)):∃t,t∈xs/\bS xs (i:Int)=some t:=by
 have hn:i<xs.length:=by lia
 exact⟨xs[i],K9 hn,bw (Kg hn)⟩
def ED(k:KB ex H H')(hx:∀b∈ex,∃ys,H b=some (.lst ys))(h:H a=some (.tup xs)):H' a=some (.tup xs):=k _ _ h λz=>by
 obtain⟨ys,e⟩:=hx a z;rw[h] at e;cases e
def jq(ls:List Int):Prop:=0<ls.length/\ls.length<=20/\∀x∈ls,1<=x/\x<=20
def KS(ls:List Int):Nat:=Kr.ks 40 (ls.map Int.toNat)
def mU(ls:List Int):Bool:=decide (KS ls<=2^40)
namespace Cw
def inc:List Nat->List Nat
 |[]=>[]
 |c::r=>if r.all (· == 49) then (if c=48 then 49::r.map (λ_=>48) else 48::r.map (λ_=>48)) else c::inc r
def pad(n:Nat)(w:List Nat):List Nat:=w++List.replicate (n-w.length) 48
def eN(w:List Nat)(n:Nat):List Nat:=pad n (inc w)
def dG(w:List Nat)(n:Nat):List Nat:=pad n ((w.reverse.dropWhile (· == 49)).reverse.dropLast++[49])
theorem GU:∀w:List Nat,w.all (· == 49)=true->inc w=w.map λ_=>48
 |[],_=>rfl
 |c::r,h=>by
  rw[L_,Lz] at h;have hc:c=49:=Pq.mp h.1;unfold inc;rw[Ku h.2,Ko (by rw[hc];decide),KA]
theorem oa:∀{l:List Nat},l.all (· == 49)=true->l=List.replicate l.length 49
 |[],_=>rfl
 |c::r,h=>by
  rw[L_,Lz] at h;have hc:c=49:=Pq.mp h.1;rw[K2,Lc,<- oa h.2,hc]
def Bh(k:Nat):(List.replicate k 49).all (· == 49)=true:=by
 rw[M0];intro x hx;rw[(L9.mp hx).2];rfl
theorem parts:∀{w:List Nat},(∀c∈w,c=48\/c=49)->w.all (· == 49)=false->∃p k,w=p++48::List.replicate k 49
 |[],_,h=>by cases h
 |c::r,hb,h=>by
  by_cases z:r.all (· == 49)=true
  ·rw[L_,z,Oq] at h;have hc:c=48:=(hb c Kw).resolve_right λe=>by rw[e] at h;cases h
   exact⟨[],r.length,by rw[hc,L8,<- oa z]⟩
  ·obtain⟨p,k,e⟩:=parts (w:=r) (λx hx=>hb x (Kx _ hx)) (by simpa using z)
   exact⟨c::p,k,by rw[e];rfl⟩
theorem gu(k:Nat):∀p:List Nat,inc (p++48::List.replicate k 49)=p++49::List.replicate k 48
 |[]=>by
  rw[L8,L8];unfold inc;rw[Ku (Bh k),Ku rfl,Oh]
 |c::p=>by
  rw[LP];unfold inc;have z:¬ (p++48::List.replicate k 49).all (· == 49)=true:=by
   rw[List.all_append,L_];simp
  rw[Ko z,gu k p];rfl
def sv(k:Nat)(p:List Nat):((p++48::List.replicate k 49).reverse.dropWhile (· == 49)).reverse=p++[48]:=by
 rw[NV,List.reverse_cons,List.reverse_replicate];have e:∀(k:Nat) (t:List Nat),(List.replicate k 49++[48]++t).dropWhile (· == 49)=[48]++t:=λk t=>by
  induction k with
  |zero=>rfl
  |succ k ih=>rw[Lc,LP,LP,Nn,Ku (by decide)];exact ih
 rw[e,NV,Nd];rfl
def mR{w:List Nat}{n:Nat}(hb:∀c∈w,c=48\/c=49)(h:w.all (· == 49)=false)(hn:w.length<=n):dG w n=eN w n:=by
 obtain⟨p,k,rfl⟩:=parts hb h;unfold dG eN pad;rw[sv,gu,List.dropLast_append_of_ne_nil (by simp)]
 rw[Kj,K2,K6] at hn;simp only[List.dropLast_singleton,Le,Kj,K2,K6,Lo,KN,LP,L8];congr 2;rw[List.replicate_append_replicate];congr 1;lia
def val:List Nat->Nat
 |[]=>0
 |c::r=>(c-48)*2^r.length+val r
theorem iD:∀a b:List Nat,val (a++b)=val a*2^b.length+val b
 |[],b=>by simp[val]
 |c::a,b=>by
  rw[LP,val,val,iD a b,Kj,Nat.pow_add,Nat.add_mul,Pw,Nat.add_assoc]
theorem eX:∀k,val (List.replicate k 48)=0
 |0=>rfl
 |k+1=>by rw[Lc,val,eX k];simp
theorem kg:∀k,val (List.replicate k 49)+1=2^k
 |0=>rfl
 |k+1=>by
  have:=kg k;rw[Lc,val,K6,P7];lia
theorem mT:∀w:List Nat,(inc w).length=w.length
 |[]=>rfl
 |c::r=>by
  unfold inc;split
  ·split<;>simp
  ·rw[K2,K2,mT r]
theorem qC:∀{w:List Nat},(∀c∈w,c=48\/c=49)->∀c∈inc w,c=48\/c=49
 |[],_,_,h=>by cases h
 |d::r,hb,c,h=>by
  unfold inc at h
  split at h
  ·split at h
   ·rcases Kv.mp h with h|h
    ·exact .inr h
    ·obtain⟨_,_,e⟩:=Ll.mp h;exact .inl e.symm
   ·rcases Kv.mp h with h|h
    ·exact .inl h
    ·obtain⟨_,_,e⟩:=Ll.mp h;exact .inl e.symm
  ·rcases Kv.mp h with h|h
   ·rw[h];exact hb d Kw
   ·exact qC (λx hx=>hb x (Kx _ hx)) c h
def dD{w:List Nat}{n:Nat}(h:w.length<=n):(eN w n).length=n:=by
 unfold eN pad;rw[Kj,K6,mT];lia
def mD{w:List Nat}{n:Nat}(hb:∀c∈w,c=48\/c=49):∀c∈eN w n,c=48\/c=49:=λc h=>by
 rcases Ld.mp h with h|h
 ·exact qC hb c h
 ·exact .inl (L9.mp h).2
def qu{w:List Nat}{n:Nat}(hb:∀c∈w,c=48\/c=49)(h:w.all (· == 49)=false):val (eN w n)=(val w+1)*2^(n-w.length):=by
 unfold eN pad;rw[iD,eX,K6,mT,Nat.add_zero];congr 1;obtain⟨p,k,rfl⟩:=parts hb h;have:=kg k;rw[gu,iD,iD,val,val,eX,K2,K2,K6,K6];lia
def zC{w:List Nat}(h:w.all (· == 49)=true):val w+1=2^w.length:=by
 rw[oa h,K6];exact kg _
structure gX (done:List Nat) (w:List Nat):Prop where
 bits:∀c∈w,c=48\/c=49
 len:w.length<=40
 sum:(val w+1)*2^(40-w.length)=Kr.ks 40 done
def gX.zero{rest w:List Nat}{l:Nat}(h:gX done w)(hk:Kr.ks 40 done+2^(40-l)<=2^40):w.all (· == 49)=false:=by
 cases z:w.all (· == 49) with
 |false=>rfl
 |true =>
  have e:=h.sum;rw[zC z,<- Nat.pow_add,Nat.add_sub_cancel' h.len] at e;have:0<2^(40-l):=Nat.pow_pos (by decide)
  lia
def gX.next{w:List Nat}{l:Nat}(h:gX done w)(hl:w.length<=l)(hl2:l<=40)(hk:Kr.ks 40 done+2^(40-l)<=2^40):gX (done++[l]) (eN w l):=by
 have z:=h.zero (rest:=[]) hk;refine⟨mD h.bits,by rw[dD hl];exact hl2,?_⟩
 rw[qu h.bits z,dD hl,Nat.add_mul,Pw,<- Nat.pow_add,Kr.cF,<- h.sum];have e:l-w.length+(40-l)=40-w.length:=by lia
 rw[e];simp[Kr.ks]
def gX.first{l:Nat}(hl:l<=40):gX [l] (List.replicate l 48):=⟨λc h=>.inl (L9.mp h).2,by rw[K6];exact hl,by rw[eX,K6];simp[Kr.ks]⟩
def along(nx:List Nat->Nat->List Nat)(ln:Nat->Nat):List Nat->Option (List Nat)×List (List Nat)->Option (List Nat)×List (List Nat)
 |[],s=>s
 |t::r,(a,ws) =>
  let w:=match a with|none=>List.replicate (ln t) 48|some v=>nx v (ln t)
  along nx ln r (some w,ws.set t w)
theorem gL:∀(order done:List Nat) (a:Option (List Nat)) (ws:List (List Nat)),(order.Pairwise λi j=>ln i<=ln j)->(∀t∈order,ln t<=40)->(∀v,a=some v->gX done v/\∀t∈order,v.length<=ln t)->(a=none->done=[])->Kr.ks 40 (done++order.map ln)<=2^40->along dG ln order (a,ws)=along eN ln order (a,ws)
 |[],_,_,_,_,_,_,_,_=>rfl
 |t::r,done,a,ws,hp,h20,ha,hn,hk=>by
  obtain⟨p1,p2⟩:=K_.mp hp;have ht:=h20 t Kw;have hk':Kr.ks 40 ((done++[ln t])++r.map ln)<=2^40:=by rw[KN];exact hk
  cases a with
  |none =>
   have:=hn rfl;subst this;exact gL r [ln t] _ _ p2 (λx hx=>h20 x (Kx _ hx)) (λv e=>by cases e;exact⟨gX.first ht,λx hx=>by rw[K6];exact p1 x hx⟩) (λe=>by cases e) hk'
  |some v =>
   obtain⟨hv,hl⟩:=ha v rfl;have hvl:=hl t Kw;have hk2:Kr.ks 40 done+2^(40-ln t)<=2^40:=by
    rw[Kr.cF,Kr.cF] at hk';simp[Kr.ks] at hk';lia
   have e:=mR hv.bits (hv.zero (rest:=[]) hk2) hvl;show along dG ln r (some (dG v (ln t)),ws.set t (dG v (ln t)))=along eN ln r (some (eN v (ln t)),ws.set t (eN v (ln t)));rw[e];exact gL r (done++[ln t]) _ _ p2 (λx hx=>h20 x (Kx _ hx)) (λu e=>by cases e;exact⟨hv.next hvl ht hk2,λx hx=>by rw[dD hvl];exact p1 x hx⟩) (λe=>by cases e) hk'
theorem fv{nx:List Nat->Nat->List Nat}:∀(a b:List Nat) (s:Option (List Nat)×List (List Nat)),along nx ln (a++b) s=along nx ln b (along nx ln a s)
 |[],_,_=>rfl
 |t::r,b,(a,ws)=>fv r b _
theorem gh{nx:List Nat->Nat->List Nat}:∀(o:List Nat) (s:Option (List Nat)×List (List Nat)),(along nx ln o s).2.length=s.2.length
 |[],_=>rfl
 |t::r,(a,ws)=>(gh r _).trans Mt
end Cw
local macro_rules | `(tactic| walk_at "lc") => `(tactic| first | exact Or.inl rfl | exact Or.inr rfl)
local macro_rules | `(tactic| wp_walk using $ts,*) => do
  let ids := ("Nat.reduceAdd Nat.reduceSub Nat.reduceLeDiff L2.Ap.jQ L2.Ap.tC L2.Ap.x9 L2.Ap.Hj L2.Ap.kA L2.Ap.HN L2.Ap.xr L2.Ap.Gn L2.Ap.w8 L2.Ap.qi L2.Ap.jR L2.Ap.kh L2.Ap.tK L2.Ap.BM L2.Ap.pR L2.Ap.iy L2.Ap.zE L2.Ap.wW L2.Ap.gI L2.Ap.B7 L2.Ap.Fs L2.Ap.zj L2.Ap.Ho L2.Ap.ip L2.Ap.oW L2.Ap.vp L2.Ap.km L2.Ap.aO L2.Ap.xo L2.Ap.d6 L2.Ap.lL L2.Ap.yb L2.Ap.pZ L2.Ap.mX L2.Ap.pA L2.Ap.mQ L2.Ap.ma L2.Ap.Ac L2.Ap.qr AY xH L2.Ap.rI L2.Ap.yU L2.Ap.rU L2.Ap.Ia L2.Ap.HQ L2.Ap.addRef L2.Ap.G5 L2.Ap.Jf L2.Ap.Jc L2.Ap.Jx L2.Ap.Je L2.Ap.ID L2.Ap.HZ L2.Ap.Gz L2.Ap.setRef L2.Ap.Dk L2.Ap.DP L2.Ap.GQ L2.Ap.J8 L2.Ap.Ds L2.Ap.G0 L2.Ap.GX L2.Ap.Jv L2.Ap.Ft L2.Ap.A2 L2.Ap.Ag L2.start Ge Ja Jg IS EF List.map_cons List.map_nil List.length_cons List.length_nil List.replicate List.cons_append List.nil_append List.append_nil List.getElem?_cons_zero List.getElem?_cons_succ List.set_cons_zero List.set_cons_succ Option.some.injEq exists_eq_left exists_eq_left' V.int.injEq V.str.injEq V.bl.injEq V.ref.injEq List.cons.injEq and_true true_and decide_eq_true_eq Bool.not_eq_true' decide_eq_false_iff_not Bool.false_eq_true L2.Ap.yO L2.Ap.qB L2.Ap.pT L2.Ap.wx L2.Ap.yS L2.Ap.kn L2.Ap.jL L2.Ap.kN L2.Ap.Io L2.Ap.IB L2.Ap.AH L2.Ap.ud L2.Ap.Im".splitOn " ").toArray.map λn => Lean.mkIdent n.toName
  `(tactic| simp only [↓reduceIte, $[$ids:ident],*, $[$ts:term],*])
local macro_rules | `(tactic| nofun) => `(tactic| wp_walk using and_self)
local macro_rules|`(tactic|rfl')=>`(tactic|wp_walk using and_self)
local macro_rules|`(tactic|symm)=>do
  let n:=Lean.mkIdent `N
  let h:=Lean.mkIdent `hN
  `(tactic|(refine $h _ ?_;clear $h $n;refine ar λ$n $h=>?_))
local macro_rules|`(tactic|ac_rfl)=>do
  let n:=Lean.mkIdent `N
  let h:=Lean.mkIdent `hN
  `(tactic|(refine $h _ ?_;clear $h $n))
local macro_rules|`(tactic|right)=>`(tactic|walk_at "lc")
local macro_rules|`(tactic|exists $ts,*)=>`(tactic|wp_walk using $ts,*)
local macro_rules|`(tactic|left)=>do
  let i:=#[`args,`Qt,`hl,`h,`f,`cdv,`A,`outer,`s,`H,`E,`hr].map Lean.mkIdent
  let u:=Lean.mkIdent `hu
  `(tactic|(intro $[$i:ident]*;have $u:ident:=aU $(Lean.mkIdent `hr)))
def wd(w:List Nat):Str:=⟨w.toArray⟩
def ay(w:List Nat):(wd w).length=w.length:=Kq ..
def yx{x:Str}{w:List Nat}(h:x.cps.toList=w):x=wd w:=by
 cases x with|mk a=>subst h;unfold wd;rw[Nh]
def HM:Sp:=λvs H Q _=>∃n:Nat,n<=40/\((vs=[.aI,.int (n:Int)]/\Q (.str (wd (List.replicate n 48))) H)\/∃w,vs=[.str (wd w),.int (n:Int)]/\w.length<=40/\Q (.str (wd (Cw.dG w n))) H)
theorem vY(T:Txt K mg)(F:HasFn K mg "word_behind" d_ ["ahead","length"]):ao P w K mg base aY 1 "word_behind" ["ahead","length"] HM:=by
 refine F.fq kH (λvs H Q E h=>?_) (λf cdv A outer s H vs Q E hr h=>?_)
 ·obtain⟨n,hn,⟨rfl,_⟩|⟨_,rfl,_⟩⟩:=h<;>rfl
 ·have hu:=aU hr;obtain⟨n,hn,h⟩:=h;rcases h with ⟨rfl,q⟩|⟨v,rfl,hv,q⟩
  ·refine⟨_,(Z.ai (Z.cS (Z.aS bY (Z.v 0) Z.aI) (Z.av (Z.ret (Z.op Y.uv Z.str (Z.v 1)))) Z.ba)
   (Z.av (Z.ret (Z.bm K rfl PySem.F.plainAttrs_str PySem.F.slot_str_ljust PySem.F.type_str_ljust Y.qp (Z.op (Z.aH K rfl) (Z.slice Y.bZ (Z.bm K rfl PySem.F.plainAttrs_str PySem.F.slot_str_rstrip PySem.F.type_str_rstrip Y.mq (Z.v 0) (Z.cons Z.str Z.nil)) Z.p9 (Z.gU (Z.un cy Z.int))) Z.str) (Z.cons (Z.v 1) (Z.cons Z.str Z.nil)))))),?_⟩
   refine ar λN hN=>?_;nofun;refine⟨48,_,rfl,rfl,by lia,by lia,?_⟩
   rw[KU];exact q
  ·refine⟨_,(Z.ai (Z.cS (Z.aS bY (Z.v 0) Z.aI) (Z.av (Z.ret (Z.op Y.uv Z.str (Z.v 1)))) Z.ba)
   (Z.av (Z.ret (Z.bm K rfl PySem.F.plainAttrs_str PySem.F.slot_str_ljust PySem.F.type_str_ljust Y.qp (Z.op (Z.aH K rfl) (Z.slice Y.bZ (Z.bm K rfl PySem.F.plainAttrs_str PySem.F.slot_str_rstrip PySem.F.type_str_rstrip Y.mq (Z.v 0) (Z.cons Z.str Z.nil)) Z.p9 (Z.gU (Z.un cy Z.int))) Z.str) (Z.cons (Z.v 1) (Z.cons Z.str Z.nil)))))),?_⟩
   refine ar λN hN=>?_;nofun;subst hN;nofun;rw[Ko V.noConfusion];refine⟨rfl,wd v,_,rfl,rfl,by rw[ay];exact Km hv (by decide),?_⟩
   have e0:(Str.ofString "1").cps.contains=λc:Nat=>c == 49:=by
    funext c
    show (#[49]:Array Nat).contains c=_;rw[Array.contains_eq_any_beq];simp
   have e1:=qM (wd v) (Str.ofString "1");rw[e0] at e1;have e2:(Txt.rstripChars (wd v) (Str.ofString "1")).cps.toList=(v.reverse.dropWhile (· == 49)).reverse:=by
    rw[<- Nd (Txt.rstripChars (wd v) (Str.ofString "1")).cps.toList,e1];rfl
   generalize Txt.rstripChars (wd v) (Str.ofString "1")=r at e2 ⊢;have hr2:r.length<=40:=by
    have:r.length=r.cps.toList.length:=by rw[La];rfl
    rw[this,e2,M9];exact Km (NC _).length_le (by rw[M9];exact hv)
   have e3:(Y.eW r none (some (-1))).cps.toList=r.cps.toList.dropLast:=by
    show (Y.gz r.cps.toList none (some (-1))).toArray.toList=_;rw[NW];unfold Y.gz;rw[HT.dk,LI,NP,List.dropLast_eq_take];congr 1;show (if (-1:Int)<0 then ((-1:Int)+(r.cps.toList.length:Int)).toNat else min (-1:Int).toNat r.cps.toList.length)=_
    rw[Ku (by decide)]
    lia
   have hl3:(Y.eW r none (some (-1))).length<=40:=by
    have:(Y.eW r none (some (-1))).length=(Y.eW r none (some (-1))).cps.toList.length:=by rw[La];rfl
    rw[this,e3,List.length_dropLast,La];exact Km (Nat.sub_le _ _) hr2
   refine⟨r,rfl,Km hr2 (by decide),?_⟩
   refine⟨Km (show _<=41 from Nat.add_le_add_right hl3 1) (by decide),rfl,_,(n:Int),_,rfl,rfl,by lia,by lia,rfl,?_⟩
   have e4:Txt.ljustF (Y.eW r none (some (-1))++Str.ofString "1") (n:Int) ((Str.ofString "0").cps.getD 0 0)=wd (Cw.dG v n):=by
    refine yx ?_;rw[PyProof.Rows.ljustF_list,KU];have e5:(Y.eW r none (some (-1))++Str.ofString "1").cps.toList=(v.reverse.dropWhile (· == 49)).reverse.dropLast++[49]:=by
     show ((Y.eW r none (some (-1))).cps++#[49]).toList=_;rw[MB,e3,e2]
    have e6:(Y.eW r none (some (-1))++Str.ofString "1").length=((v.reverse.dropWhile (· == 49)).reverse.dropLast++[49]).length:=by
     rw[<- e5,La];rfl
    rw[e5,e6];rfl
   rw[e4];exact q
def Bu:Str.ofString ""=wd []:=rfl
def uZ(z y:List Nat)(p:Nat)(hy:y≠[]):Y.kT (wd z) (wd y) (p:Int)=decide (y <+: z.drop p):=by
 have hl:0<y.length:=Nr.mpr hy;unfold Y.kT;have e0:fromIndex (wd z).length (p:Int)=p:=by unfold fromIndex;rw[Ko (by lia)];lia
 rw[e0];have e:Builtin.Str.subAt (wd z) (wd y) p=decide ((z.drop p).take y.length=y):=by
  unfold Builtin.Str.subAt wd;rw[MH,Pq,MQ,<- O8,Array.toList_extract,O0];rw[show (⟨y.toArray⟩:Str).length=y.length from Kq ..];simp
 rw[e,MH,Lz,MQ,MQ,MQ,N6,ay,ay];refine⟨λh=>h.2.symm,λh=>⟨?_,h.symm⟩⟩;have:=Lg List.length h;rw[KD,KQ] at this;lia
def nF(ws:List (List Nat))(z:List Nat)(p:Nat):Option Nat:=(List.range ws.length).find? λi=>decide (ws.getD i [] <+: z.drop p)
def eM(h:nF ws z p=some t):t<ws.length/\ws.getD t [] <+: z.drop p:=by
 have h1:=List.mem_of_find?_eq_some h;have h2:=List.find?_some h;exact⟨Ln.mp h1,Lr h2⟩
def x5(h:nF ws z p=none)(ht:t<ws.length):¬ ws.getD t [] <+: z.drop p:=λhp=>by
 have:=List.find?_eq_none.mp h t (Ln.mpr ht);exact this (KY hp)
structure Pf (ws:List (List Nat)):Prop where
 ne:∀w∈ws,w≠[]
 pre:∀(i j:Nat) (hi:i<ws.length) (hj:j<ws.length),i≠j->¬ ws[i] <+: ws[j]
def Pf.th(h:Pf ws)(ht:t<ws.length)(hp:ws.getD t [] <+: z.drop p):nF ws z p=some t:=by
 cases c:nF ws z p with
 |none=>exact absurd hp (x5 c ht)
 |some i =>
  obtain⟨hi,hpi⟩:=eM c;by_cases e:i=t
  ·rw[e]
  ·have g:∀{k:Nat} (hk:k<ws.length),ws.getD k []=ws[k]:=λhk=>by rw[Ks,Kg hk];rfl
   rw[g hi] at hpi;rw[g ht] at hp;rcases List.prefix_or_prefix_of_prefix hpi hp with q|q
   ·exact absurd q (h.pre i t hi ht e)
   ·exact absurd q (h.pre t i ht hi (Lk e))
def uL(n:Nat)(h:n<ws.length):(List.range' n (ws.length-n)).find? (λi=>decide (ws.getD i [] <+: z.drop p))=if ws[n] <+: z.drop p then some n else (List.range' (n+1) (ws.length-(n+1))).find? λi=>decide (ws.getD i [] <+: z.drop p):=by
 rw[show ws.length-n=(ws.length-(n+1))+1 by lia,M1,Mf]
 rw[Ks,Kg h];show (match decide (ws[n] <+: z.drop p) with|true=>some n|false=>_)=_
 by_cases c:ws[n] <+: z.drop p
 ·rw[KY c,Ku c]
 ·rw[KJ c,Ko c]
def wV(ws:List (List Nat)):List V:=ws.map λw=>.str (wd w)
def Jj:Option Nat->V
 |none=>.aI
 |some t=>.int (t:Int)
def tM(K:W.Frag):Sp:=λvs H Q _=>∃(a:Addr) (ws:List (List Nat)) (z:List Nat) (p:Nat),vs=[.ref a,.str (wd z),.int (p:Nat)]/\bu K H a (wV ws)/\(∀w∈ws,w≠[])/\ws.length<=100/\z.length<=1000000/\∀H',KB [] H H'->Q (Jj (nF ws z p)) H'
def xf(T:Txt K mg)(F:HasFn K mg "thing_at" gQ ["code","bits","place"]):ao P w K mg base aY 1 "thing_at" ["code","bits","place"] (tM K):=by
 refine F.fq fO (λvs H Q E h=>?_) (λf cdv A outer s H vs Q E hr h=>?_)
 ·obtain⟨a,ws,z,p,rfl,_⟩:=h;rfl
 ·have hu:=aU hr;obtain⟨a,ws,z,p,rfl,ha,hne,h100,hz,q⟩:=h;refine⟨_,(Z.ai (Z.dO KP rfl (Z.enum K rfl rfl T.dZ (Z.cons (Z.v 0) Z.nil)) (Z.nM (n:=2) K rfl rfl (Z.bJ (Z.aM (i:=3) fO.nd rfl (by right)) (Z.bJ (Z.aM (i:=4) fO.nd rfl (by right)) Z.iq))) (Z.av (Z.cS (Z.tw (Z.Dq (Z.aS sQ (Z.v 4) Z.str) (Z.xD (Z.qK K rfl (Z.bm K rfl PySem.F.plainAttrs_str PySem.F.slot_str_startswith PySem.F.type_str_startswith Y.qP (Z.v 1) (Z.cons (Z.v 4) (Z.cons (Z.v 2) Z.nil))))))) (Z.av (Z.ret (Z.v 3))) Z.ba)))
   (Z.av (Z.ret Z.aI))),?_⟩
  refine ar λN hN=>?_;nofun;refine⟨⟨_,ha⟩,?_⟩;refine sf (xs:=wV ws) (λi σ H'=>KB [] H H'/\i<=ws.length/\(List.range' i (ws.length-i)).find? (λi=>decide (ws.getD i [] <+: z.drop p))=nF ws z p/\∃(s3 s4:Option V),σ=[some (.ref a),some (.str (wd z)),some (.int (p:Nat)),s3,s4]) ⟨KB.refl _ _,K4 _,by unfold nF;rw[Nf];rfl,none,none,rfl⟩ ?_ ?_ ?_
  ·rintro i σ H' hi ⟨k,_⟩;exact JT ha k
  ·rintro i x σ H' b hx ⟨k,hi,ef,s3,s4,rfl⟩ hb;have hlt:i<ws.length:=by
    have:=(Kl.mp hx).1;unfold wV at this;rw[Ki] at this;exact this
   have ex:x=.str (wd ws[i]):=by
    unfold wV at hx;rw[Kn,Kg hlt] at hx;exact (Option.some.inj hx).symm
   subst ex;refine⟨b,_,rfl,bu.of aa,rfl,?_⟩;have k1:KB [] H (upd H' b (.tup [.int i,.str (wd ws[i])])):=k.trans (KB.new hb);generalize upd H' b (.tup [.int i,.str (wd ws[i])])=H1 at k1;have h0:ws[i]≠[]:=hne _ (K9 hlt);have hne':¬ wd ws[i]=Str.ofString "":=λe=>h0 (by rw[Bu] at e;exact Lg (λs:Str=>s.cps.toList) e)
   rw[uL i hlt] at ef;nofun;rw[Ku hne'];refine⟨rfl,_,_,_,rfl,rfl,_,rfl,?_⟩;rw[uZ z ws[i] p h0];by_cases c:ws[i] <+: z.drop p
   ·rw[Ku c] at ef;rw[<- ef] at q;rw[Ku (KY c)];exact q _ k1
   ·rw[Ko c] at ef;rw[Ko (by rw[KJ c];exact Ky)]
    exact⟨k1,hlt,ef,_,_,rfl,rfl⟩
  ·rintro σ H' ⟨k,_,ef,s3,s4,rfl⟩;have e:(wV ws).length=ws.length:=Ki ..;rw[e,LH] at ef;have ef':nF ws z p=none:=ef.symm;rw[ef'] at q;show N _ _;subst hN;nofun;exact q _ k
def iJ(ws:List (List Nat))(z:List Nat)(p:Nat):Option (Nat×Nat):=(nF ws z p).map λt=>(t,p+(ws.getD t []).length)
def eA{x:Nat×Nat}(hne:∀w∈ws,w≠[])(h:iJ ws z p=some x):x.1<ws.length/\x.2=p+(ws.getD x.1 []).length/\p<x.2/\x.2<=z.length:=by
 unfold iJ at h
 cases c:nF ws z p with
 |none=>rw[c] at h;cases h
 |some t =>
  rw[c] at h;cases h;obtain⟨h1,h2⟩:=eM c;have h3:=h2.length_le;rw[KQ] at h3;have h4:ws.getD t []≠[]:=by rw[Ks,Kg h1];exact hne _ (K9 h1)
  have h5:=Nr.mpr h4;exact⟨h1,rfl,by show p<p+_;lia,by show p+_<=_;lia⟩
def FZ(H:Hp)(v:V):Option (Nat×Nat)->Prop
 |none=>v=.aI
 |some x=>∃t,v=.ref t/\H t=some (.tup [.int (x.1:Nat),.int (x.2:Nat)])
def ie(K:W.Frag):Sp:=λvs H Q _=>∃(a:Addr) (ws:List (List Nat)) (z:List Nat) (p:Nat),vs=[.ref a,.str (wd z),.int (p:Nat)]/\bu K H a (wV ws)/\(∀w∈ws,w≠[])/\ws.length<=100/\z.length<=1000000/\∀v H',KB [] H H'->FZ H' v (iJ ws z p)->Q v H'
def zO(T:Txt K mg)(F:HasFn K mg "coded_at" gS ["code","bits","place"])(hthing_at:ao P w K mg base aY 1 "thing_at" ["code","bits","place"] (tM K)):ao P w K mg base aY 2 "coded_at" ["code","bits","place"] (ie K):=by
 refine F.fq jl (λvs H Q E h=>?_) (λf cdv A outer s H vs Q E hr h=>?_)
 ·obtain⟨a,ws,z,p,rfl,_⟩:=h;rfl
 ·have hu:=aU hr;obtain⟨a,ws,z,p,rfl,ha,hne,h100,hz,q⟩:=h;refine⟨_,(Z.ai (Z.se (i:=3) jl.nd (Z.fc hthing_at (Z.cons (Z.v 0) (Z.cons (Z.v 1) (Z.cons (Z.v 2) Z.nil)))))
   (Z.av (Z.ret (Z.Iu (Z.aS bY (Z.v 3) Z.aI) Z.aI (Z.tup (Z.cons (Z.v 3) (Z.cons (Z.op (Z.aH K rfl) (Z.v 2) (Z.cb (Z.bB K rfl) rfl T.b7 (by decide +kernel) (Z.cons (Z.ix (Z.oY K rfl) (Z.v 0) (Z.v 3)) Z.nil))) Z.nil))))))),?_⟩
  refine ar λN hN=>?_;nofun;refine⟨a,ws,z,p,rfl,ha,hne,h100,hz,λH1 k1=>?_⟩;subst hN;have ha1:=JT ha k1;unfold iJ at q
  cases c:nF ws z p with
  |none =>
   rw[c] at q;unfold Jj;nofun;exact q _ _ k1 rfl
  |some t =>
   rw[c] at q;obtain⟨h1,h2⟩:=eM c;unfold Jj;nofun;rw[Ko V.noConfusion];have h3:=h2.length_le;rw[KQ] at h3;refine⟨a,wV ws,_,.str (wd (ws.getD t [])),rfl,rfl,ha1,bw (by unfold wV;rw[Kn,Ks,Kg h1];rfl),?_⟩
   nofun;rw[ay];refine⟨Km (show _<=1000000 by lia) (by decide),by decide,λb hb=>q _ _ (k1.trans (KB.new hb)) ⟨b,rfl,?_⟩⟩
   rw[aa];rfl
def cH(z:List Nat):Prop:=∀c∈z,c=48\/c=49
def cH.cut(h:cH z)(a n:Nat):cH ((z.drop a).take n):=λc hc=>h c (List.mem_of_mem_drop (Ng hc))
def um(z:List Nat)(a b:Nat)(h1:a<=b)(h2:b<=z.length):Y.eW (wd z) (some (a:Int)) (some (b:Int))=wd ((z.drop a).take (b-a)):=by
 unfold Y.eW wd;congr 2;show Y.gz z (some (a:Int)) (some (b:Int))=_;unfold Y.gz;rw[HT.cP,HT.cP,MN h2,MN (Km h1 h2)]
def yp(ws:List (List Nat))(z:List Nat)(p:Nat):Option (Nat×Nat):=match iJ ws z p with
 |none=>none
 |some x=>if x.1=0 then some x else if x.2+(x.1-1)<=z.length then some (eO (49::(z.drop x.2).take (x.1-1)),x.2+(x.1-1)) else none
def Bx(c:Nat)(w:List Nat):wd [c]++wd w=wd (c::w):=yx (by
 show (#[c]++w.toArray).toList=_;rw[MB];rfl)
def sT(K:W.Frag):Sp:=λvs H Q _=>∃(a:Addr) (ws:List (List Nat)) (z:List Nat) (p:Nat),vs=[.ref a,.str (wd z),.int (p:Nat)]/\bu K H a (wV ws)/\(∀w∈ws,w≠[])/\ws.length<=20/\cH z/\z.length<=1000000/\∀v H',KB [] H H'->FZ H' v (yp ws z p)->Q v H'
def xO(T:Txt K mg)(F:HasFn K mg "number_at" fF ["code","bits","place"])(hcoded_at:ao P w K mg base aY 2 "coded_at" ["code","bits","place"] (ie K)):ao P w K mg base aY 3 "number_at" ["code","bits","place"] (sT K):=by
 refine F.fq fj (λvs H Q E h=>?_) (λf cdv A outer s H vs Q E hr h=>?_)
 ·obtain⟨a,ws,z,p,rfl,_⟩:=h;rfl
 ·have hu:=aU hr;obtain⟨a,ws,z,p,rfl,ha,hne,h20,hb,hz,q⟩:=h;refine⟨_,(Z.ai (Z.se (i:=3) fj.nd (Z.fc hcoded_at (Z.cons (Z.v 0) (Z.cons (Z.v 1) (Z.cons (Z.v 2) Z.nil)))))
   (Z.ai (Z.cS (Z.tw (Z.IH (Z.aS bY (Z.v 3) Z.aI) (Z.FN (Z.aS bz (Z.ix (Z.az K rfl hu) (Z.v 3) Z.int) Z.int)))) (Z.av (Z.ret (Z.v 3))) Z.ba)
   (Z.ai (Z.se (i:=4) fj.nd (Z.op cX (Z.op (Z.aH K rfl) (Z.ix (Z.az K rfl hu) (Z.v 3) Z.int) (Z.ix (Z.az K rfl hu) (Z.v 3) Z.int)) Z.int))
   (Z.ai (Z.cS (Z.aS CT (Z.v 4) (Z.cb (Z.bB K rfl) rfl T.b7 (by decide +kernel) (Z.cons (Z.v 1) Z.nil))) (Z.av (Z.ret Z.aI)) Z.ba)
   (Z.av (Z.ret (Z.tup (Z.cons (Z.ct lO rfl T.qI (by decide +kernel) (Z.cons (Z.op (Z.aH K rfl) Z.str (Z.slice Y.bZ (Z.v 1) (Z.gU (Z.ix (Z.az K rfl hu) (Z.v 3) Z.int)) (Z.gU (Z.v 4)))) (Z.cons Z.int Z.nil))) (Z.cons (Z.v 4) Z.nil))))))))),?_⟩
  refine ar λN hN=>?_;nofun;refine⟨a,ws,z,p,rfl,ha,hne,by lia,hz,λv H1 k1 o1=>?_⟩
  subst hN;refine ar λN hN=>?_;unfold yp at q
  cases c:iJ ws z p with
  |none =>
   rw[c] at q o1;obtain rfl:v=.aI:=o1;nofun;exact q _ _ k1 rfl
  |some x =>
   rw[c] at q o1;obtain⟨t,e⟩:=x;obtain⟨h1,_,h3,h4⟩:=eA hne c;obtain⟨b,rfl,hb1⟩:=o1;dsimp only at q h1 h3 h4 hb1;have sb:=aF hb1;have ne:¬ V.ref b=V.aI:=V.noConfusion;have a0:bS [V.int (t:Int),V.int (e:Int)] 0=some (.int (t:Int)):=rfl;have a1:bS [V.int (t:Int),V.int (e:Int)] 1=some (.int (e:Int)):=rfl;nofun;simp only[sb,a0,a1,if_neg ne];nofun;by_cases c0:t=0
   ·subst c0;rw[Ku rfl] at q;rw[Ku (by rfl)]
    exact q _ _ k1 ⟨b,rfl,hb1⟩
   ·rw[Ko c0] at q;have ci:¬ ((t:Nat):Int)=0:=by lia
    rw[Ko ci,hN];clear hN N;refine ar λN hN=>?_;nofun;simp only[sb,a0,a1];nofun;have eb:(e:Int)+(t:Int)-1=((e+(t-1):Nat):Int):=by lia
    rw[eb,hN];clear hN N;refine ar λN hN=>?_;nofun;refine⟨by rw[ay];exact Km hz (by decide),?_⟩
    rw[ay];by_cases cl:e+(t-1)<=z.length
    ·rw[Ku cl] at q;rw[Ko (by lia),hN];clear hN N
     nofun;simp only[sb,a0,a1];have hb2:=hb.cut e (t-1);have hll:((z.drop e).take (t-1)).length<=20:=by rw[KD];lia
     have hcl:(49::(z.drop e).take (t-1)).length<=21:=by rw[K2];lia
     refine⟨(e:Int),rfl,wd z,rfl,by rw[ay];exact Km hz (by decide),?_⟩
     rw[um z _ _ (by lia) cl,LC,show Str.ofString "1"=wd [49] from by decide +kernel]
     show _/\CZ [.str (wd [49]++wd ((z.drop e).take (t-1))),.int 2] H1 _;rw[Bx,ay,ay];refine⟨Km (show _<=21 by rw[LN];lia) (by decide),_,rfl,by rw[ay];exact Km hcl (by decide),λc hc=>?_,by simp[wd],by decide,λb2 hb2'=>?_⟩
     ·rcases Kv.mp (show c∈49::(z.drop e).take (t-1) from hc) with rfl|hc
      ·exact .inr rfl
      ·exact hb2 c hc
     ·exact q _ _ (k1.trans (KB.new hb2')) ⟨b2,rfl,by rw[aa];rfl⟩
    ·rw[Ko cl] at q;rw[Ku (by lia)]
     exact q _ _ k1 rfl
def bG:Nat->List Nat
 |0=>[48]
 |1=>[49,48]
 |_=>[49,49]
def aT:Nat->Nat
 |0=>4
 |1=>8
 |_=>16
def cU(k:Nat):Int:=if k=0 then 8 else if k=1 then 128 else 32768
def oF:List (List Nat):=[bG 0,bG 1,bG 2]
def oz{k:Nat}(h:k<3):k=0\/k=1\/k=2:=by lia
def r9:∀w∈oF,w≠[]:=by decide
def yX{k:Nat}(h:k<3):oF.getD k []=bG k:=by rcases oz h with rfl|rfl|rfl<;>rfl
def FF(k n:Nat):Int:=if cU k<=(n:Int) then (n:Int)-2*cU k else (n:Int)
def gA(z:List Nat)(p:Nat):Option (Int×Nat):=match iJ oF z p with
 |none=>none
 |some x=>if x.2+aT x.1<=z.length then some (FF x.1 (eO ((z.drop x.2).take (aT x.1))),x.2+aT x.1) else none
def Gs:[V.str (Str.ofString "0"),.str (Str.ofString "10"),.str (Str.ofString "11")]=wV oF:=by
 rw[show Str.ofString "0"=wd [48] from by decide +kernel,show Str.ofString "10"=wd [49,48] from by decide +kernel,show Str.ofString "11"=wd [49,49] from by decide +kernel]
 rfl
def J_(H:Hp)(v:V):Option (Int×Nat)->Prop
 |none=>v=.aI
 |some x=>∃t,v=.ref t/\H t=some (.tup [.int ((x.2:Int)+x.1),.int (x.2:Nat)])
def oM(K:W.Frag):Sp:=λvs H Q _=>∃(z:List Nat) (p:Nat),vs=[.str (wd z),.int (p:Nat)]/\cH z/\z.length<=1000000/\∀v H',KB [] H H'->J_ H' v (gA z p)->Q v H'
def vy(T:Txt K mg)(F:HasFn K mg "goal_at" iP ["bits","place"])(hcoded_at:ao P w K mg base aY 2 "coded_at" ["code","bits","place"] (ie K)):ao P w K mg base aY 3 "goal_at" ["bits","place"] (oM K):=by
 refine F.fq cY (λvs H Q E h=>?_) (λf cdv A outer s H vs Q E hr h=>?_)
 ·obtain⟨z,p,rfl,_⟩:=h;rfl
 ·have hu:=aU hr;obtain⟨z,p,rfl,hb,hz,q⟩:=h;obtain⟨aE,hg_HEADS,sE⟩:=T.Cc;obtain⟨aW,hg_WIDTHS,sW⟩:=T.yD;obtain⟨aV,hg_HALVES,sV⟩:=T.xy;have hr_HEADS:RelV (.ref aE) (.ref aE):=rfl;have hr_WIDTHS:RelV (.ref aW) (.ref aW):=rfl;have hr_HALVES:RelV (.ref aV) (.ref aV):=rfl;refine⟨_,(Z.ai (Z.se (i:=2) cY.nd (Z.fc hcoded_at (Z.cons (Z.glob rfl hg_HEADS hr_HEADS) (Z.cons (Z.v 0) (Z.cons (Z.v 1) Z.nil)))))
   (Z.ai (Z.cS (Z.aS bY (Z.v 2) Z.aI) (Z.av (Z.ret Z.aI)) Z.ba)
   (Z.ai (Z.se (i:=3) cY.nd (Z.ix (Z.az K rfl hu) (Z.v 2) Z.int))
   (Z.ai (Z.se (i:=4) cY.nd (Z.op (Z.aH K rfl) (Z.ix (Z.az K rfl hu) (Z.v 2) Z.int) (Z.ix (Z.oY K rfl) (Z.glob rfl hg_WIDTHS hr_WIDTHS) (Z.v 3))))
   (Z.ai (Z.cS (Z.aS CT (Z.v 4) (Z.cb (Z.bB K rfl) rfl T.b7 (by decide +kernel) (Z.cons (Z.v 0) Z.nil))) (Z.av (Z.ret Z.aI)) Z.ba)
   (Z.ai (Z.se (i:=5) cY.nd (Z.ct lO rfl T.qI (by decide +kernel) (Z.cons (Z.slice Y.bZ (Z.v 0) (Z.gU (Z.ix (Z.az K rfl hu) (Z.v 2) Z.int)) (Z.gU (Z.v 4))) (Z.cons Z.int Z.nil))))
   (Z.ai (Z.cS (Z.aS yW (Z.v 5) (Z.ix (Z.oY K rfl) (Z.glob rfl hg_HALVES hr_HALVES) (Z.v 3))) (Z.av (Z.se (i:=5) cY.nd (Z.op cX (Z.v 5) (Z.op bX Z.int (Z.ix (Z.oY K rfl) (Z.glob rfl hg_HALVES hr_HALVES) (Z.v 3)))))) Z.ba)
   (Z.av (Z.ret (Z.tup (Z.cons (Z.op (Z.aH K rfl) (Z.v 4) (Z.v 5)) (Z.cons (Z.v 4) Z.nil)))))))))))),?_⟩
  refine ar λN hN=>?_;nofun;refine⟨aE,oF,z,p,rfl,by rw[<- Gs];exact sE H,r9,by decide,hz,λv H1 k1 o1=>?_⟩
  subst hN;refine ar λN hN=>?_;unfold gA at q
  cases c:iJ oF z p with
  |none =>
   rw[c] at q o1;obtain rfl:v=.aI:=o1;nofun;exact q _ _ k1 rfl
  |some x =>
   rw[c] at q o1;obtain⟨k,e⟩:=x;obtain⟨h1,_,h3,h4⟩:=eA r9 c;obtain⟨b,rfl,hb1⟩:=o1;dsimp only at q h1 h3 h4 hb1;have hk:k<3:=h1;have sb:=aF hb1;have ne:¬ V.ref b=V.aI:=V.noConfusion;have a0:bS [V.int (k:Int),V.int (e:Int)] 0=some (.int (k:Int)):=rfl;have a1:bS [V.int (k:Int),V.int (e:Int)] 1=some (.int (e:Int)):=rfl;nofun;rw[if_neg ne,hN];clear hN N;refine ar λN hN=>?_;nofun;simp only[sb,a0,a1];subst hN;refine ar λN hN=>?_;nofun;simp only[sb,a0,a1];have aw:bS [V.int 4,.int 8,.int 16] (k:Int)=some (.int (aT k:Nat)):=by rcases oz hk with rfl|rfl|rfl<;>rfl
   have ah:bS [V.int 8,.int 128,.int 32768] (k:Int)=some (.int (cU k)):=by rcases oz hk with rfl|rfl|rfl<;>rfl
   have h16:aT k<=16/\0<aT k:=by rcases oz hk with rfl|rfl|rfl<;>decide
   refine⟨aW,_,_,_,rfl,rfl,sW H1,aw,?_⟩;show N [_,_,_,_,some (V.int ((e:Int)+(aT k:Nat))),none] H1;rw[show (e:Int)+(aT k:Nat)=((e+aT k:Nat):Int) by lia,hN];clear hN N
   refine ar λN hN=>?_;nofun;refine⟨by rw[ay];exact Km hz (by decide),?_⟩
   rw[ay];by_cases cl:e+aT k<=z.length
   ·rw[Ku cl] at q;rw[Ko (by lia),hN];clear hN N
    refine ar λN hN=>?_;nofun;simp only[sb,a0,a1];have hb2:=hb.cut e (aT k);have hl2:((z.drop e).take (aT k)).length=aT k:=by rw[KD,KQ];lia
    refine⟨(e:Int),rfl,wd z,rfl,by rw[ay];exact Km hz (by decide),?_⟩
    rw[um z _ _ (by lia) cl,LC]
    refine⟨_,rfl,by rw[ay,hl2];lia,hb2,λe0=>by have e1:(z.drop e).take (aT k)=[]:=e0;rw[e1] at hl2;simp at hl2;lia,?_⟩
    rw[show (wd ((z.drop e).take (aT k))).cps.toList=(z.drop e).take (aT k) from rfl];generalize eO ((z.drop e).take (aT k))=n at *;unfold FF at q;show N _ _;subst hN;refine ar λN hN=>?_;nofun;refine⟨aV,_,_,_,rfl,rfl,sV H1,ah,_,_,rfl,rfl,_,rfl,?_⟩;have fin:∀d:Int,d=(if cU k<=(n:Int) then (n:Int)-2*cU k else (n:Int))->N [some (.str (wd z)),some (.int (p:Nat)),some (.ref b),some (.int (k:Nat)),some (.int ((e+aT k:Nat):Int)),some (.int d)] H1:=λd ed=>by
     subst hN;nofun;refine⟨by decide,λb2 hb2'=>q _ _ (k1.trans (KB.new hb2')) ⟨b2,rfl,?_⟩⟩
     rw[aa,ed]
    by_cases ch:cU k<=(n:Int)
    ·rw[Ku (KY ch)];refine⟨aV,_,_,_,rfl,rfl,sV H1,ah,?_⟩;exact⟨.inl (by decide),_,_,rfl,rfl,fin _ (by rw[Ku ch])⟩
    ·rw[Ko (by rw[KJ ch];exact Ky)]
     exact fin _ (by rw[Ko ch])
   ·rw[Ko cl] at q;rw[Ku (by lia)]
    exact q _ _ k1 rfl
def BN(u:_root_.Fin 3):u=0\/u=1\/u=2:=by revert u;decide
def JJ{b:Nat}(h:b<8):b=0\/b=1\/b=2\/b=3\/b=4\/b=5\/b=6\/b=7:=by lia
inductive Row where
 |put (b n:Nat)|two (w:Fin 3) (a b:Nat)|one (w:Fin 2) (b:Nat)|jump (g:Nat)|zero (b g:Nat)|halt
 deriving DecidableEq
def d8(i:Nat):Str:=⟨#[97+i]⟩
def w2:Fin 3->Str
 |0=>"add"
 |1=>"sub"
 |2=>"copy"
def w1:Fin 2->Str
 |0=>"tell"
 |1=>"hear"
inductive Ir where
 |s (z:Str)|n (k:Nat)
def Row.ps:Row->List Ir
 |.put b n=>[.s "put",.s (d8 b),.n n]
 |.two w a b=>[.s (w2 w),.s (d8 a),.s (d8 b)]
 |.one w b=>[.s (w1 w),.s (d8 b)]
 |.jump g=>[.s "jump",.n g]
 |.zero b g=>[.s "zero",.s (d8 b),.n g]
 |.halt=>[.s "halt"]
def Row.Ok(size:Nat):Row->Prop
 |.put b n=>b<8/\n<65536
 |.two _ a b=>a<8/\b<8
 |.one _ b=>b<8
 |.jump g=>g<=size
 |.zero b g=>b<8/\g<=size
 |.halt=>True
def Row.Ok.mono{a b:Nat}{r:Row}(h:r.Ok a)(hm:a<=b):r.Ok b:=by
 cases r<;>simp only[Row.Ok] at h ⊢<;>lia
def x6{k:Int}(h0:0<=k)(h1:k<8):bS (Str.ofString "abcdefgh").cps.toList k=some (97+k.toNat):=by
 have e:(Str.ofString "abcdefgh").cps.toList=[97,98,99,100,101,102,103,104]:=by decide +kernel
 rw[e];obtain⟨n,rfl⟩:∃n:Nat,k=n:=⟨k.toNat,by lia⟩
 unfold bS jO;have hn:n<8:=by lia
 rw[Ku (by lia),Ku (by simp;lia)]
 show [97,98,99,100,101,102,103,104][((n:Nat):Int).toNat]?=some (97+((n:Nat):Int).toNat);rw[KU];rcases JJ hn with rfl|rfl|rfl|rfl|rfl|rfl|rfl|rfl<;>rfl
def aP(ls:List Int)(t:Nat):Nat:=(ls.getD t 0).toNat
def aC(ls:List Int):List Nat:=js ls (List.range ls.length)
def wordsOf(nx:List Nat->Nat->List Nat)(ls:List Int):List (List Nat):=(Cw.along nx (aP ls) (aC ls) (none,List.replicate ls.length [])).2
def fh(ls:List Int)(done:List Nat):Option (List Nat)×List (List Nat):=Cw.along Cw.dG (aP ls) done (none,List.replicate ls.length [])
def t6{v:List Nat}{n:Nat}(hv:v.length<=40)(hn:n<=40):(Cw.dG v n).length<=40:=by
 have h1:((v.reverse.dropWhile (· == 49)).reverse.dropLast).length<=39:=by
  rw[List.length_dropLast,M9];have:=(NC (· == 49) (l:=v.reverse)).length_le;rw[M9] at this;lia
 unfold Cw.dG Cw.pad;rw[Kj,K6,Kj,LN];lia
def ic(h:t∈aC ls):t<ls.length:=Ln.mp ((kE (by rw[KZ])).mem_iff.mp h)
def FU(ls:List Int)(done:List Nat):(fh ls done).2.length=ls.length:=by
 unfold fh;rw[Cw.gh,K6]
namespace Cw
def Dv(a b:List Nat):Prop:=∃u,u++[48] <+: a/\u++[49] <+: b
def oU{u v:List Nat}{c d:Nat}(h1:u++[c] <+: b)(h2:v++[d] <+: b)(hl:u.length<v.length):u++[c] <+: v:=by
 have h3:v <+: b:=(Oi v [d]).trans h2;exact MC h1 h3 (by rw[Kj];exact hl)
def Dv.trans{a c:List Nat}(h:Dv a b)(g:Dv b c):Dv a c:=by
 obtain⟨u,h1,h2⟩:=h;obtain⟨v,g1,g2⟩:=g;rcases Ow u.length v.length with e|e|e
 ·exact⟨u,h1,(oU h2 g1 e).trans ((Oi v [49]).trans g2)⟩
 ·have p1:(u++[49]).length=(v++[48]).length:=by rw[Kj,Kj,e];rfl
  have p2:u++[49]=v++[48]:=(MC h2 g1 (by lia)).eq_of_length p1
  have p3:[49]=[48]:=(List.append_inj' p2 rfl).2;exact absurd p3 (by decide)
 ·exact⟨v,(oU g1 h2 e).trans ((Oi u [48]).trans h1),g2⟩
def Dv.not{a:List Nat}(h:Dv a b):¬ a <+: b/\¬ b <+: a:=by
 obtain⟨u,h1,h2⟩:=h;have key:∀c,u++[48] <+: c->u++[49] <+: c->False:=λc p q=>by
  have e:u++[48]=u++[49]:=(MC p q (by simp)).eq_of_length (by simp)
  exact absurd (List.append_cancel_left e) (by decide)
 exact⟨λp=>key b (h1.trans p) h2,λp=>key a h1 (h2.trans p)⟩
def Dv.lt{a:List Nat}(h:Dv a b):a<b:=by
 obtain⟨u,⟨x,rfl⟩,⟨y,rfl⟩⟩:=h
 induction u with
 |nil=>exact List.Lex.rel (by decide)
 |cons c u ih=>exact List.Lex.cons ih
def B1{w:List Nat}{n:Nat}(hb:∀c∈w,c=48\/c=49)(h:w.all (· == 49)=false):Dv w (eN w n):=by
 obtain⟨p,k,rfl⟩:=parts hb h;unfold eN pad;rw[gu];exact⟨p,⟨List.replicate k 49,by simp⟩,⟨List.replicate k 48++List.replicate (n-(p++49::List.replicate k 48).length) 48,by simp⟩⟩
def la(ln:Nat->Nat)(a:Option (List Nat))(t:Nat):List Nat:=match a with
 |none=>List.replicate (ln t) 48
 |some v=>dG v (ln t)
def jC(ln:Nat->Nat):Option (List Nat)->List Nat->List (List Nat)
 |_,[]=>[]
 |a,t::r=>la ln a t::jC ln (some (la ln a t)) r
theorem wz:∀(order done:List Nat) (a:Option (List Nat)),(order.Pairwise λi j=>ln i<=ln j)->(∀t∈order,ln t<=40)->(∀v,a=some v->gX done v/\∀t∈order,v.length<=ln t)->(a=none->done=[])->Kr.ks 40 (done++order.map ln)<=2^40 ->
  (∀v,a=some v->∀x∈jC ln a order,Dv v x)/\(jC ln a order).Pairwise Dv/\∀(i t:Nat),order[i]?=some t->∃w,(jC ln a order)[i]?=some w/\w.length=ln t
 |[],_,_,_,_,_,_,_=>⟨λ_ _ x hx=>(by cases hx),List.Pairwise.nil,λi t e=>(by cases e)⟩
 |t::r,done,a,hp,h40,ha,hn,hk=>by
  obtain⟨p1,p2⟩:=K_.mp hp;have ht:=h40 t Kw;have hk':Kr.ks 40 ((done++[ln t])++r.map ln)<=2^40:=by rw[KN];exact hk
  have fin:∀w:List Nat,w=la ln a t->gX (done++[ln t]) w->w.length=ln t->(∀v,a=some v->Dv v w) ->
    (∀v,a=some v->∀x∈jC ln a (t::r),Dv v x)/\(jC ln a (t::r)).Pairwise Dv/\∀(i s:Nat),(t::r)[i]?=some s->∃w,(jC ln a (t::r))[i]?=some w/\w.length=ln s:=λw ew hH hl hd=>by
   obtain⟨q1,q2,q3⟩:=wz r (done++[ln t]) (some w) p2 (λx hx=>h40 x (Kx _ hx)) (λv e=>by cases e;exact⟨hH,λx hx=>by rw[hl];exact p1 x hx⟩) (λe=>by cases e) hk'
   have es:jC ln a (t::r)=w::jC ln (some w) r:=by rw[ew];rfl
   rw[es];refine⟨λv e x hx=>?_,K_.mpr ⟨λx hx=>q1 w rfl x hx,q2⟩,λi s e=>?_⟩
   ·rcases Kv.mp hx with rfl|hx
    ·exact hd v e
    ·exact (hd v e).trans (q1 w rfl x hx)
   ·cases i with
    |zero=>cases e;exact⟨w,rfl,hl⟩
    |succ i=>exact q3 i s (by simpa using e)
  cases a with
  |none =>
   have:=hn rfl;subst this;exact fin _ rfl (gX.first ht) (show (List.replicate (ln t) 48).length=ln t by rw[K6]) (λv e=>by cases e)
  |some v =>
   obtain⟨hv,hl⟩:=ha v rfl;have hvl:=hl t Kw;have hk2:Kr.ks 40 done+2^(40-ln t)<=2^40:=by
    rw[Kr.cF,Kr.cF] at hk';simp[Kr.ks] at hk'
    omega
   have z:=hv.zero (rest:=[]) hk2;have e:=mR hv.bits z hvl;refine fin _ rfl ?_ ?_ ?_
   ·show gX _ (dG v (ln t));rw[e];exact hv.next hvl ht hk2
   ·show (dG v (ln t)).length=_;rw[e];exact dD hvl
   ·intro u eu;cases eu;show Dv v (dG v (ln t));rw[e];exact B1 hv.bits z
theorem pG:∀(order:List Nat) (a:Option (List Nat)) (ws:List (List Nat)),order.Nodup->(∀t∈order,t<ws.length)->(∀(i t:Nat),order[i]?=some t->(along dG ln order (a,ws)).2[t]?=(jC ln a order)[i]?)/\∀t,t∉order->(along dG ln order (a,ws)).2[t]?=ws[t]?
 |[],_,_,_,_=>⟨λi t e=>(by cases e),λ_ _=>rfl⟩
 |t::r,a,ws,hn,hl=>by
  obtain⟨n1,n2⟩:=LV.mp hn;have ht:=hl t Kw;have ea:along dG ln (t::r) (a,ws)=along dG ln r (some (la ln a t),ws.set t (la ln a t)):=by cases a<;>rfl
  rw[ea];obtain⟨q1,q2⟩:=pG r (some (la ln a t)) (ws.set t (la ln a t)) n2 (λx hx=>by rw[Mt];exact hl x (Kx _ hx))
  refine⟨λi s e=>?_,λs hs=>?_⟩
  ·cases i with
   |zero =>
    cases e;exact (q2 t n1).trans (by rw[Mo ht];rfl)
   |succ i=>exact q1 i s (by simpa using e)
  ·have h1:s≠t:=λz=>hs (by rw[z];exact Kw)
   have h2:s∉r:=λz=>hs (Kx _ z);exact (q2 s h2).trans (by rw[MY (Lk h1)])
def Lx(p q:Int×Nat):Prop:=p.1<q.1\/(p.1=q.1/\p.2<q.2)
theorem zV{p:Int×Nat}:∀{l:List (Int×Nat)},l.Pairwise Lx->(∀q∈l,p.2<q.2)->(hZ p l).Pairwise Lx
 |[],_,_=>OJ _ _
 |q::r,h,hp=>by
  obtain⟨h1,h2⟩:=K_.mp h;have hq:=hp q Kw;unfold hZ;split
  ·rename_i c;refine K_.mpr ⟨λz hz=>?_,h⟩;have hz2:=hp z hz;have:q.1<=z.1:=by
    rcases Kv.mp hz with rfl|hz
    ·exact OV _
    ·have:=h1 z hz;unfold Lx at this;omega
   unfold Lx;omega
  ·rename_i c;refine K_.mpr ⟨λz hz=>?_,zV h2 λz hz=>hp z (Kx _ hz)⟩;rcases Kv.mp ((fY p r).mem_iff.mp hz) with rfl|hz
   ·unfold Lx;omega
   ·exact h1 z hz
theorem tT:∀{l:List (Int×Nat)},(l.Pairwise λp q=>p.2<q.2)->(dW l).Pairwise Lx
 |[],_=>.nil
 |p::r,h=>by
  obtain⟨h1,h2⟩:=K_.mp h;exact zV (tT h2) λq hq=>h1 q ((dE r).mem_iff.mp hq)
end Cw
structure Canon (ls:List Int) (W:List (List Nat)):Prop where
 len:W.length=ls.length
 Gv:∀t,t<ls.length->(W.getD t []).length=aP ls t
 part:∀s t,s<ls.length->t<ls.length->(ls.getD s 0<ls.getD t 0\/(ls.getD s 0=ls.getD t 0/\s<t))->Cw.Dv (W.getD s []) (W.getD t [])
def mJ(ls:List Int):ls.zip (List.range ls.length)=(List.range ls.length).map λt=>(ls.getD t 0,t):=by
 apply M6
 ·simp
 ·intro i h1 h2;simp at h1;simp[h1]
def canon(hL:jq ls)(hk:KS ls<=2^40):Canon ls (wordsOf Cw.dG ls):=by
 have hS:(Cw.Lx · ·)=(Cw.Lx · ·):=rfl;have hlx:(dW (ls.zip (List.range ls.length))).Pairwise Cw.Lx:=by
  refine Cw.tT ?_;rw[mJ];exact Mi.mpr NB
 have hmem:∀p∈dW (ls.zip (List.range ls.length)),p.1=ls.getD p.2 0/\p.2<ls.length:=λp hp=>by
  have:=(dE _).mem_iff.mp hp;rw[mJ] at this;obtain⟨t,ht,rfl⟩:=Ll.mp this;exact⟨rfl,Ln.mp ht⟩
 have hord:(aC ls).Pairwise λs t=>ls.getD s 0<ls.getD t 0\/(ls.getD s 0=ls.getD t 0/\s<t):=by
  unfold aC js;refine Mi.mpr (hlx.imp_of_mem λ{p q} hp hq h=>?_);rw[<- (hmem p hp).1,<- (hmem q hq).1];exact h
 have hperm:(aC ls).Perm (List.range ls.length):=kE (by rw[KZ])
 have hnd:(aC ls).Nodup:=hperm.nodup_iff.mpr OE;have hb:∀t,t<ls.length->1<=ls.getD t 0/\ls.getD t 0<=40:=λt ht=>by
  rw[Ks,Kg ht];have:=hL.2.2 _ (K9 ht);show 1<=ls[t]/\ls[t]<=40;lia
 have hmm:∀t∈aC ls,t<ls.length:=λt ht=>ic ht;have hks:Kr.ks 40 ([]++(aC ls).map (aP ls))<=2^40:=by
  rw[L8,Kr.ig (hperm.map (aP ls))];have e:(List.range ls.length).map (aP ls)=ls.map Int.toNat:=by
   apply M6
   ·simp
   ·intro i h1 h2;simp at h1;simp[aP,h1]
  rw[e];exact hk
 obtain⟨_,q2,q3⟩:=Cw.wz (ln:=aP ls) (aC ls) [] none (hord.imp_of_mem λ{s t} hs ht h=>by
  have:=hb s (hmm s hs);have:=hb t (hmm t ht);unfold aP;omega) (λt ht=>by have:=hb t (hmm t ht);unfold aP;omega) (λv e=>by cases e) (λ_=>rfl) hks
 obtain⟨a1,_⟩:=Cw.pG (ln:=aP ls) (aC ls) none (List.replicate ls.length []) hnd (λt ht=>by rw[K6];exact hmm t ht)
 have hat:∀t,t<ls.length->∃i w,(aC ls)[i]?=some t/\(Cw.jC (aP ls) none (aC ls))[i]?=some w/\w.length=aP ls t/\(wordsOf Cw.dG ls).getD t []=w:=λt ht=>by
  obtain⟨i,hi⟩:=NH.mp (hperm.mem_iff.mpr (Ln.mpr ht));obtain⟨w,hw,hl⟩:=q3 i t hi;refine⟨i,w,hi,hw,hl,?_⟩;unfold wordsOf;rw[Ks,a1 i t hi,hw];rfl
 refine⟨?_,λt ht=>?_,λs t hs ht h=>?_⟩
 ·unfold wordsOf;rw[Cw.gh,K6]
 ·obtain⟨i,w,_,_,hl,e⟩:=hat t ht;rw[e];exact hl
 ·obtain⟨i,w,h1,h2,_,e⟩:=hat s hs;obtain⟨j,v,g1,g2,_,e'⟩:=hat t ht;rw[e,e'];obtain⟨hi,rfl⟩:=Kl.mp h2;obtain⟨hj,rfl⟩:=Kl.mp g2;obtain⟨hi',ei⟩:=Kl.mp h1;obtain⟨hj',ej⟩:=Kl.mp g1;have hij:i<j:=by
   rcases Ow i j with c|c|c
   ·exact c
   ·subst c;have est:s=t:=ei.symm.trans ej;subst est
    exfalso;omega
   ·have:=Md.mp hord j i hj' hi' c;rw[ei,ej] at this
    exfalso;omega
  exact Md.mp q2 i j hi hj hij
def dg(n:Int):Nat:=48+(n % 2).toNat
def cT:Int->Nat->List Nat->List Nat
 |_,0,acc=>acc
 |n,k+1,acc=>cT (n / 2) k (dg n::acc)
theorem eV:∀(k:Nat) (n:Int) (acc:List Nat),(cT n k acc).length=k+acc.length
 |0,_,_=>by rw[cT,N2]
 |k+1,n,acc=>by rw[cT,eV k,K2];lia
def ER(n:Int):dg n=48\/dg n=49:=by
 unfold dg;have:n % 2=0\/n % 2=1:=by lia
 rcases this with e|e<;>rw[e]
 ·exact .inl rfl
 ·exact .inr rfl
theorem gO:∀(k:Nat) (n:Int) (acc:List Nat),(∀c∈acc,c=48\/c=49)->∀c∈cT n k acc,c=48\/c=49
 |0,_,_,h=>h
 |k+1,n,acc,h=>gO k (n / 2) (dg n::acc) λc hc=>by
  rcases Kv.mp hc with rfl|hc
  ·exact ER n
  ·exact h c hc
def HU(n:Int):bS (Str.ofString "01").cps.toList (n % 2)=some (dg n):=by
 have:n % 2=0\/n % 2=1:=by lia
 unfold dg;rcases this with e|e<;>rw[e]
 ·exact (by decide +kernel)
 ·exact (by decide +kernel)
def d7(a b:List Nat):wd a++wd b=wd (a++b):=by
 apply yx;show (a.toArray++b.toArray).toList=_;simp
def ny:Str.ofString ""=wd []:=by decide +kernel
def f9(n:Nat):Nat:=Builtin.Int.intBits (n:Int)
def kx(n:Nat):List Nat:=cT (n:Int) (f9 n) []
def n4{n:Nat}(h:n<65536):f9 n<17:=by
 unfold f9 Builtin.Int.intBits;split
 ·decide
 ·rename_i hz;have h0:n≠0:=λz=>hz (by rw[z];rfl)
  show (n:Int).natAbs.log2+1<17;rw[Int.natAbs_natCast];have:=(Nat.log2_lt (n:=n) (k:=16) h0).mpr (by lia)
  lia
def pM(k:Nat)(d:Int):List Nat:=bG k++cT d (aT k) []
def Row.wi:Row->Nat
 |.put _ _=>0
 |.two u _ _=>1+u
 |.one u _=>4+u
 |.jump _=>6
 |.zero _ _=>7
 |.halt=>8
def Row.uh(r:Row):r.wi<9:=by
 cases r with
 |two u a b=>exact (by decide:∀u:_root_.Fin 3,1+(u:Nat)<9) u
 |one u b=>exact (by decide:∀u:_root_.Fin 2,4+(u:Nat)<9) u
 |put b n=>exact (by decide:0<9)
 |jump g=>exact (by decide:6<9)
 |zero b g=>exact (by decide:7<9)
 |halt=>exact (by decide:8<9)
inductive Pk where
 |box (b:Nat)|num (n:Nat)|goal (g:Nat)
def Pk.kd:Pk->Str
 |.box _=>"box"
 |.num _=>"number"
 |.goal _=>"goal"
def Pk.Ok:Pk->Prop
 |.box b=>b<8
 |.num n=>n<65536
 |.goal _=>True
def Pk.Jk:Pk->List (Nat×Nat)
 |.box b=>[(2,b)]
 |.num n=>[(1,f9 n)]
 |.goal _=>[]
def Row.wd:Row->Str
 |.put _ _=>"put"
 |.two u _ _=>w2 u
 |.one u _=>w1 u
 |.jump _=>"jump"
 |.zero _ _=>"zero"
 |.halt=>"halt"
def Row.iI:Row->List Pk
 |.put b n=>[.box b,.num n]
 |.two _ a b=>[.box a,.box b]
 |.one _ b=>[.box b]
 |.jump g=>[.goal g]
 |.zero b g=>[.box b,.goal g]
 |.halt=>[]
def Row.yP{r:Row}{k:Nat}(h:r.Ok k):∀p∈r.iI,p.Ok:=by
 cases r with
 |put b n=>simp only[Row.iI,Kv,KO,Ma];exactλp z=>z.elim (λe=>e ▸ h.1) λe=>e ▸ h.2
 |two u a b=>simp only[Row.iI,Kv,KO,Ma];exactλp z=>z.elim (λe=>e ▸ h.1) λe=>e ▸ h.2
 |one u b=>simp only[Row.iI,Kv,KO,Ma];rintro p rfl;exact h
 |jump g=>simp only[Row.iI,Kv,KO,Ma];rintro p rfl;exact trivial
 |zero b g=>simp only[Row.iI,Kv,KO,Ma];exactλp z=>z.elim (λe=>e ▸ h.1) λe=>e ▸ trivial
 |halt=>simp[Row.iI]
def ng(r:Row):List (Nat×Nat):=(0,r.wi)::r.iI.flatMap Pk.Jk
def b8:List Str:=["put","add","sub","copy","tell","hear","jump","zero","halt"]
def Hh:∀k,k<9->∀m,m<k->b8[m]?≠b8[k]?:=by decide +kernel
def CW(r:Row):b8[r.wi]?=some r.wd/\∀m,m<r.wi->b8[m]?≠some r.wd:=by
 have h1:b8[r.wi]?=some r.wd:=by
  cases r with
  |two u a b=>exact (by decide +kernel:∀u:_root_.Fin 3,b8[1+(u:Nat)]?=some (w2 u)) u
  |one u b=>exact (by decide +kernel:∀u:_root_.Fin 2,b8[4+(u:Nat)]?=some (w1 u)) u
  |put b n=>rfl
  |jump g=>rfl
  |zero b g=>rfl
  |halt=>rfl
 exact⟨h1,λm hm=>by rw[<- h1];exact Hh _ r.uh m hm⟩
def IW{b:Nat}(h:b<8):Builtin.Str.occurrences (Str.ofString "abcdefgh") (d8 b) 0 (Str.ofString "abcdefgh").length 1=[b]:=by
 rcases JJ h with rfl|rfl|rfl|rfl|rfl|rfl|rfl|rfl<;>decide +kernel
def dc:List (Str×List Str):=[("put",["box","number"]),("add",["box","box"]),("sub",["box","box"]),("copy",["box","box"]),("tell",["box"]),("hear",["box"]),("jump",["goal"]),("zero",["box","goal"]),("halt",[])]
def HX:List Str:=["a","b","c","d","e","f","g","h"]
def Ek{b:Nat}(h:b<8):HX[b]?=some (d8 b)/\∀m,m<b->HX[m]?≠some (d8 b):=(by decide +kernel:∀b,b<8->HX[b]?=some (d8 b)/\∀m,m<b->HX[m]?≠some (d8 b)) b h
theorem jT:∀(o:List Nat) (a:Option (List Nat)) (ws:List (List Nat)),(∀t∈o,ln t<=40)->(∀v,a=some v->v.length<=40)->(∀x∈ws,x.length<=40)->∀x∈(Cw.along Cw.dG ln o (a,ws)).2,x.length<=40
 |[],_,_,_,_,h=>h
 |t::o,a,ws,ho,ha,hw=>by
  have ht:=ho t Kw;have h2:=λt h=>ho t (Kx _ h)
  cases a with
  |none =>
   refine jT o (some (List.replicate (ln t) 48)) _ h2 (λv e=>by cases e;rw[K6];exact ht) λx hx=>?_
   rcases L5 hx with z|z
   ·exact hw x z
   ·rw[z,K6];exact ht
  |some v =>
   have hv:=t6 (ha v rfl) ht;refine jT o (some (Cw.dG v (ln t))) _ h2 (λv e=>by cases e;exact hv) λx hx=>?_
   rcases L5 hx with z|z
   ·exact hw x z
   ·rw[z];exact hv
def ya(hL:jq ls):∀x∈wordsOf Cw.dG ls,x.length<=40:=by
 refine jT _ _ _ (λt ht=>?_) (λv e=>by cases e) λx hx=>by rw[(L9.mp hx).2];decide
 have h:=ic ht;have:=hL.2.2 _ (K9 h);unfold aP;rw[Ks,Kg h];show ls[t].toNat<=40;lia
def f_(ls:List Int):(wordsOf Cw.dG ls).length=ls.length:=(Cw.gh _ _).trans (K6 ..)
structure Cd (cd:List (List (List Nat))):Prop where
 ex:∃a b c,cd=[a,b,c]/\a.length=9/\b.length=17/\c.length=8
 le:∀ws∈cd,∀x∈ws,x.length<=40
def gK(cd:List (List (List Nat)))(p:Nat×Nat):List Nat:=(cd.getD p.1 []).getD p.2 []
def zH:Row->List Nat
 |.put _ n=>(kx n).tail
 |_=>[]
def cK(cd:List (List (List Nat)))(r:Row):List Nat:=(ng r).flatMap (gK cd)++zH r
def Bk(bk:List (List Int)):Prop:=∃a b c,bk=[a,b,c]/\a.length=9/\b.length=17/\c.length=8/\∀l∈bk,jq l/\mU l=true
def gx(bk:List (List Int)):List (List (List Nat)):=bk.map (wordsOf Cw.dG)
def Bk.cd{bk:List (List Int)}(h:Bk bk):Cd (gx bk):=by
 obtain⟨a,b,c,rfl,h1,h2,h3,h4⟩:=h;refine⟨⟨_,_,_,rfl,by rw[f_,h1],by rw[f_,h2],by rw[f_,h3]⟩,λws hw=>?_⟩
 obtain⟨l,hl,rfl⟩:=Ll.mp hw;exact ya (h4 l hl).1
theorem ou:∀l:List (List Nat),(Str.ofString "").join (l.map wd)=wd l.flatten
 |[]=>rfl
 |[x]=>by simp[Str.join]
 |x::y::r=>by
  show wd x++Str.ofString ""++(Str.ofString "").join ((y::r).map wd)=_;rw[ou (y::r),ny,d7,d7,Le];rfl
def EO{r:Row}{k:Nat}(h:r.Ok k):∀p∈ng r,(p.1=0/\p.2<9)\/(p.1=1/\p.2<17)\/(p.1=2/\p.2<8):=by
 intro p hp;unfold ng at hp;rcases Kv.mp hp with rfl|hp
 ·exact .inl ⟨rfl,r.uh⟩
 ·obtain⟨q,hq,hp⟩:=List.mem_flatMap.mp hp;have:=Row.yP h q hq
  cases q with
  |box b=>rw[K0.mp hp];exact .inr (.inr ⟨rfl,this⟩)
  |num n=>rw[K0.mp hp];exact .inr (.inl ⟨rfl,n4 this⟩)
  |goal n=>cases hp
def Cd.at{cd:List (List (List Nat))}(h:Cd cd){p:Nat×Nat}(hp:(p.1=0/\p.2<9)\/(p.1=1/\p.2<17)\/(p.1=2/\p.2<8)):cd[p.1]?=some (cd.getD p.1 [])/\(cd.getD p.1 [])[p.2]?=some (gK cd p)/\(gK cd p).length<=40:=by
 obtain⟨a,b,c,rfl,h1,h2,h3⟩:=h.ex;have key:∀(l:List (List Nat)) (i:Nat),i<l.length->l[i]?=some (l.getD i [])/\l.getD i []∈l:=λl i hi=>by
  rw[Ks,Kg hi];exact⟨rfl,K9 hi⟩
 obtain⟨x,y⟩:=p;rcases hp with ⟨rfl,hy⟩|⟨rfl,hy⟩|⟨rfl,hy⟩
 ·have:=key a y (by rw[h1];exact hy)
  exact⟨rfl,this.1,h.le a (by simp) _ this.2⟩
 ·have:=key b y (by rw[h2];exact hy)
  exact⟨rfl,this.1,h.le b (by simp) _ this.2⟩
 ·have:=key c y (by rw[h3];exact hy)
  exact⟨rfl,this.1,h.le c (by simp) _ this.2⟩
def B9(r:Row):(ng r).length<=3:=by cases r<;>simp[ng,Row.iI,Pk.Jk]
def zf{cd:List (List (List Nat))}{r:Row}{k:Nat}(hC:Cd cd)(h:r.Ok k):((ng r).flatMap (gK cd)).length<=120/\(zH r).length<=16:=by
 refine⟨?_,?_⟩
 ·have:∀l:List (Nat×Nat),(∀p∈l,(gK cd p).length<=40)->(l.flatMap (gK cd)).length<=40*l.length:=λl=>by
   induction l with
   |nil=>exactλ_=>Kp _
   |cons p l ih =>
    intro h;have h1:=h p Kw;have h2:=ih λq hq=>h q (Kx _ hq);rw[MR,Kj,K2];lia
  have h1:=this (ng r) λp hp=>(hC.at (EO h p hp)).2.2;have h2:=B9 r;lia
 ·cases r with
  |put b n =>
   have:=n4 (n:=n) h.2;show (kx n).tail.length<=16;rw[List.length_tail];unfold kx;rw[eV];simp only[Lo];lia
  |_=>exact K4 _
def nZ(l:List Nat):List Int:=l.map λk:Nat=>(k:Int)
def ow(l:List Nat):(nZ l).length=l.length:=Ki ..
def E4{l:List Nat}(h:Kr.ks 40 l<=2^40):mU (nZ l)=true:=by
 unfold mU KS nZ;rw[Mr,show (Int.toNat ∘ λk:Nat=>(k:Int))=id from funext λk=>KU k,List.map_id];exact KY h
structure Pt (l:List Nat):Prop where
 ks:Kr.ks 40 l=2^40
 le:∀x∈l,x+1<=l.length
 one:l=[0]\/∀x∈l,1<=x
def Pt.pos{l:List Nat}(h:Pt l):1<=l.length:=by
 cases l with
 |nil=>have:=h.ks;simp[Kr.ks] at this
 |cons=>simp
def Pt.next{l l3:List Nat}{a:Nat}(h:Pt l)(ha:a<l.length)(hl:l.length<=17)(hp:l3.Perm ((l[a]+1)::(l[a]+1)::l.eraseIdx a)):Pt l3/\l3.length=l.length+1:=by
 have hpm:(l[a]::l.eraseIdx a).Perm l:=by
  rw[NJ]
  conv=>rhs;rw[<- MV a l,<- List.getElem_cons_drop ha]
  exact O9.symm
 have hle:=l.length_eraseIdx_of_lt ha;have hx:=h.le _ (K9 ha);have h3:l3.length=l.length+1:=by
  rw[hp.length_eq,K2,K2,hle];lia
 have mem:∀y∈l3,y=l[a]+1\/y∈l.eraseIdx a:=λy hy=>by
  rcases Kv.mp (hp.mem_iff.mp hy) with z|z
  ·exact .inl z
  ·rcases Kv.mp z with z|z
   ·exact .inl z
   ·exact .inr z
 have mem2:∀y∈l.eraseIdx a,y∈l:=λy hy=>hpm.mem_iff.mp (Kx _ hy);refine⟨⟨?_,λy hy=>?_,.inr λy hy=>?_⟩,h3⟩
 ·have e1:=Kr.ig (L:=40) hpm;rw[h.ks,Kr.ks] at e1;rw[Kr.ig hp,Kr.ks,Kr.ks];have e2:2^(40-l[a])=2*2^(40-(l[a]+1)):=by rw[show 40-l[a]=(40-(l[a]+1))+1 by lia,P7];lia
  lia
 ·rw[h3];rcases mem y hy with rfl|z
  ·lia
  ·have:=h.le y (mem2 y z);lia
 ·rcases mem y hy with rfl|z
  ·lia
  ·rcases h.one with e|e
   ·subst e;have ha0:a=0:=by simpa using ha
    subst ha0;cases z
   ·exact e y (mem2 y z)
def AQ(l:List α)(n:Nat)(x:α):(iU l n x).length=l.length+1:=by
 unfold iU;rw[Kj,K2,KD,KQ];lia
def pF(l:List α)(n:Nat)(x:α):(iU l n x).Perm (x::l):=by
 unfold iU;refine O9.trans ?_;rw[MV]
theorem zL:∀{l:List Nat} {a z:Nat} (ha:a<l.length),l[a]<=z->Kr.ks 40 (l.set a z)<=Kr.ks 40 l
 |[],_,_,ha,_=>(nomatch ha)
 |x::l,0,z,_,h=>by
  have:2^(40-z)<=2^(40-x):=Mg (by decide) (by have:x<=z:=h;lia)
  simp only[Og,Kr.ks];lia
 |x::l,a+1,z,ha,h=>by
  have:=zL (l:=l) (a:=a) (z:=z) (by simpa using ha) (by simpa using h)
  simp only[List.set_cons_succ,Kr.ks];lia
def yw{β:Type}{f:α->β}{o m:List β}(h:o.Perm m):∀l:List α,l.map f=m->∃k:List α,k.map f=o/\k.Perm l:=by
 induction h with
 |nil =>
  intro l e
  cases l with
  |nil=>exact⟨[],rfl,.nil⟩
  |cons=>cases e
 |cons x p ih =>
  intro l e
  cases l with
  |nil=>cases e
  |cons a l =>
   obtain⟨rfl,e2⟩:=List.cons.inj e;obtain⟨k,e3,p3⟩:=ih l e2;exact⟨a::k,by rw[KA,e3],p3.cons a⟩
 |swap x y l0 =>
  intro l e;rcases l with _|⟨a,_|⟨b,l⟩⟩
  ·cases e
  ·cases e
  ·obtain⟨rfl,e2⟩:=List.cons.inj e;obtain⟨rfl,e3⟩:=List.cons.inj e2;exact⟨b::a::l,by rw[<- e3];rfl,.swap ..⟩
 |trans p q ih1 ih2 =>
  intro l e;obtain⟨k,e1,p1⟩:=ih2 l e;obtain⟨k',e2,p2⟩:=ih1 k e1;exact⟨k',e2,p2.trans p1⟩
theorem Ak{p:List Nat}(hp:p.Perm (List.range ls.length))(hr:p.Pairwise (SP.R λi=>ls.getD i 0)):aC ls=p:=by
 have ez:(List.range ls.length).map (λi=>(ls.getD i 0,i))=ls.zip (List.range ls.length):=by
  apply M6
  ·rw[Ki,KZ,OP,KZ,M4]
  ·intro i h1 h2;rw[Ki,KZ] at h1;rw[OB,Of,List.getElem_zip];simp[h1]
 have e1:p.map (λi=>(ls.getD i 0,i))=dW (ls.zip (List.range ls.length)):=by
  refine oV ?_ λa=>?_
  ·exact Mi.mpr (hr.imp λh=>h.le)
  ·have fl:∀l:List Nat,atK a (l.map λi=>(ls.getD i 0,i))=(l.filter λi=>decide (ls.getD i 0=a)).map λi=>(ls.getD i 0,i):=λl=>by
    unfold atK;rw[List.filter_map];rfl
   rw[<- ez,fl,fl];congr 1;refine OC (le:=(· < ·)) (λa b _ _ h g=>absurd h (Nat.lt_asymm g)) ?_ (NB.filter _) (hp.filter _);rw[List.pairwise_filter];refine hr.imp λ{i j} h hi hj=>?_;have hi:=Lr hi;have hj:=Lr hj;rcases h with h|h
   ·exfalso;have h':ls.getD i 0<ls.getD j 0:=h;lia
   ·exact h.2
 unfold aC js;rw[<- e1,Mr];exact List.map_id _
def oE(ls:List Int)(i:Nat):Int×Int:=(ls.getD i 0,(i:Int))
def vM{out:List (Int×Int)}(hp:out.Perm ((List.range ls.length).map (oE ls)))(hu:IA out):out=(aC ls).map (oE ls)/\(aC ls).Pairwise (SP.R λi=>ls.getD i 0):=by
 obtain⟨p,rfl,pp⟩:=yw hp (List.range ls.length) rfl;have hr:p.Pairwise (SP.R λi=>ls.getD i 0):=by
  have nd:p.Nodup:=pp.nodup_iff.mpr OE;unfold IA at hu;rw[Mi] at hu;refine (hu.and nd).imp λ{i j} h=>?_;have h1:¬ ((oE ls j).1<(oE ls i).1\/((oE ls j).1=(oE ls i).1/\(oE ls j).2<(oE ls i).2)):=of_decide_eq_false h.1;have h1':¬ (ls.getD j 0<ls.getD i 0\/(ls.getD j 0=ls.getD i 0/\(j:Int)<(i:Int))):=h1;show ls.getD i 0<ls.getD j 0\/(ls.getD i 0=ls.getD j 0/\i<j);have:=h.2;lia
 rw[Ak pp hr];exact⟨rfl,hr⟩
theorem FP(h:(aC ls).Pairwise (SP.R λi=>ls.getD i 0)):(aC ls).Pairwise λi j=>aP ls i<=aP ls j:=h.imp λ{i j} h=>by
 have h':ls.getD i 0<=ls.getD j 0:=h.le;unfold aP;lia
def vT:∀(k:Nat) (w acc:List Nat),w.length=k->(∀c∈w,c=48\/c=49)->cT (Cw.val w:Int) k acc=w++acc:=by
 intro k
 induction k with
 |zero=>intro w acc h _;rw[ME.mp h];rfl
 |succ k ih =>
  intro w acc h hb;obtain⟨v,c,rfl⟩:∃v c,w=v++[c]:=by
   rcases Ph w with e|⟨v,c,e⟩
   ·rw[e] at h;cases h
   ·exact⟨v,c,by rw[e,List.concat_eq_append]⟩
  have hc:=hb c (by simp)
  have ev:Cw.val (v++[c])=2*Cw.val v+(c-48):=by
   rw[Cw.iD];rcases hc with rfl|rfl
   ·simp[Cw.val];lia
   ·simp[Cw.val];lia
  rw[cT];have e1:((Cw.val (v++[c]):Nat):Int) / 2=(Cw.val v:Int):=by rw[ev];lia
  have e2:dg ((Cw.val (v++[c]):Nat):Int)=c:=by
   unfold dg;rw[ev];rcases hc with rfl|rfl
   ·have:((2*Cw.val v+(48-48):Nat):Int) % 2=0:=by lia
    rw[this];rfl
   ·have:((2*Cw.val v+(49-48):Nat):Int) % 2=1:=by lia
    rw[this];rfl
  rw[e1,e2,ih v (c::acc) (by rw[Kj,LN] at h;lia) (λx hx=>hb x (by simp[hx])),KN]
  rfl
def zK(ls:List Int):Kr.ks 40 ((aC ls).map (aP ls))=KS ls:=by
 unfold KS;refine Kr.ig ?_;have e:ls.map Int.toNat=(List.range ls.length).map (aP ls):=by
  apply M6
  ·simp
  ·intro i h1 h2;have hi:i<ls.length:=by simpa using h1
   simp[aP,hi]
 rw[e];exact (kE (by rw[KZ])).map _
structure At (ls:List Int) (done todo:List Nat) (a:Option (List Nat)) (n h:Int):Prop where
 all:done++todo=aC ls
 st:(a=none/\done=[]/\n=-1/\h=0)\/∃w,a=some w/\n=(Cw.val w:Int)/\h=(w.length:Int)/\Cw.gX (done.map (aP ls)) w/\∀t∈todo,w.length<=aP ls t
def la(a:Option (List Nat))(l:Nat):List Nat:=match a with|none=>List.replicate l 48|some v=>Cw.eN v l
def At.next{ls:List Int}{todo:List Nat}{a:Option (List Nat)}{n h:Int}{t:Nat}(x:At ls done (t::todo) a n h)(hL:jq ls)(ho:mU ls=true)(hu:(aC ls).Pairwise λi j=>aP ls i<=aP ls j):
  ∃d:Nat,(aP ls t:Int)-h=d/\d<=aP ls t/\(n+1)*2^d=(Cw.val (la a (aP ls t)):Int)/\(la a (aP ls t)).length=aP ls t/\(∀c∈la a (aP ls t),c=48\/c=49)/\At ls (done++[t]) todo (some (la a (aP ls t))) (Cw.val (la a (aP ls t)):Int) (aP ls t:Int):=by
 have hall:(done++[t])++todo=aC ls:=by rw[KN];exact x.all
 have htl:aP ls t<=40:=by
  have h:=ic (ls:=ls) (t:=t) (by rw[<- x.all];simp)
  have:=hL.2.2 _ (K9 h);unfold aP;rw[Ks,Kg h];show ls[t].toNat<=40;lia
 have hk:Kr.ks 40 ((done++[t]++todo).map (aP ls))<=2^40:=by rw[hall,zK];exact Lr ho
 rw[K7,K7,Kr.cF,Kr.cF] at hk;have hle:∀u∈todo,aP ls t<=aP ls u:=λu hu'=>by
  rw[<- x.all] at hu;exact (K_.mp (LG.mp hu).2.1).1 u hu'
 rcases x.st with ⟨rfl,rfl,rfl,rfl⟩|⟨w,rfl,rfl,rfl,hH,hw⟩
 ·refine⟨aP ls t,by lia,Kp _,?_,K6 ..,λc hc=>.inl (L9.mp hc).2,hall,.inr ⟨_,rfl,rfl,by rw[show la none (aP ls t)=List.replicate (aP ls t) 48 from rfl,K6],Cw.gX.first htl,λu hu'=>by rw[show la none (aP ls t)=List.replicate (aP ls t) 48 from rfl,K6];exact hle u hu'⟩⟩
  rw[show la none (aP ls t)=List.replicate (aP ls t) 48 from rfl,Cw.eX];simp
 ·have hwt:=hw t Kw;have hk2:Kr.ks 40 (done.map (aP ls))+2^(40-aP ls t)<=2^40:=by
   simp only[KA,MS,Kr.ks] at hk;lia
  have hz:=hH.zero (rest:=[]) hk2;have hN:=hH.next hwt htl hk2;refine⟨aP ls t-w.length,by lia,Nat.sub_le _ _,?_,Cw.dD hwt,Cw.mD hH.bits,hall,.inr ⟨_,rfl,rfl,by rw[show la (some w) (aP ls t)=Cw.eN w (aP ls t) from rfl,Cw.dD hwt],by rw[K7];exact hN,λu hu'=>by rw[show la (some w) (aP ls t)=Cw.eN w (aP ls t) from rfl,Cw.dD hwt];exact hle u hu'⟩⟩
  rw[show la (some w) (aP ls t)=Cw.eN w (aP ls t) from rfl,Cw.qu hH.bits hz];simp
def xa(n:Nat):∀c∈kx n,c=48\/c=49:=gO _ _ _ λc hc=>by cases hc
def BV(n:Nat):(kx n).length=f9 n:=by unfold kx;rw[eV];rfl
inductive Kd where
 |box|num|go
def Kd.s:Kd->Str
 |.box=>Str.ofString "box"
 |.num=>Str.ofString "number"
 |.go=>Str.ofString "goal"
inductive PV where
 |box (b:Nat)|num (n:Nat)|go (d:Int)
def u7(cd:List (List (List Nat)))(z:List Nat)(p:Nat):Kd->Option (PV×Nat)
 |.box=>(iJ (cd.getD 2 []) z p).map λx=>(.box x.1,x.2)
 |.num=>(yp (cd.getD 1 []) z p).map λx=>(.num x.1,x.2)
 |.go=>(gA z p).map λx=>(.go x.1,x.2)
structure n5 (cd:List (List (List Nat))):Prop where
 fJ:Cd cd
 pf:∀w∈cd,Pf w
def wC(i:Nat):List Kd:=[[Kd.box,.num],[.box,.box],[.box,.box],[.box,.box],[.box],[.box],[.go],[.box,.go],[]].getD i []
def je(cd:List (List (List Nat)))(z:List Nat):List Kd->Nat->Option (List (PV×Nat)×Nat)
 |[],p=>some ([],p)
 |k::ks,p=>(u7 cd z p k).bind λx=>(je cd z ks x.2).map λy=>(x::y.1,y.2)
structure RW where
 wi:Nat
 vs:List (PV×Nat)
def zY(cd:List (List (List Nat)))(z:List Nat)(p:Nat):Option (RW×Nat):=(iJ (cd.getD 0 []) z p).bind λx=>(je cd z (wC x.1) x.2).map λy=>(⟨x.1,y.1⟩,y.2)
def Iv(cd:List (List (List Nat)))(z:List Nat)(p:Int):Option (RW×Nat):=if p<0 then none else zY cd z p.toNat
def sX(cd:List (List (List Nat)))(z:List Nat)(p:Nat):Iv cd z (p:Int)=zY cd z p:=by
 unfold Iv;rw[Ko (by lia),KU]
def As(h:i<9):KTD.datumAt (b8.getD i (Str.ofString "")) dc=some ((wC i).map Kd.s):=by
 have:i=0\/i=1\/i=2\/i=3\/i=4\/i=5\/i=6\/i=7\/i=8:=by lia
 rcases this with rfl|rfl|rfl|rfl|rfl|rfl|rfl|rfl|rfl<;>decide +kernel
def zM{a:List Nat}(h:wd a=wd b):a=b:=Lg (λs:Str=>s.cps.toList) h
def Pf.nd(h:Pf ws):ws.Nodup:=by
 unfold List.Nodup;rw[Md];intro i j hi hj hij e;exact h.pre i j hi hj (KH hij) (by rw[e];exact List.prefix_refl _)
def uM(a:List Nat)(c:Nat):eO (a++[c])=eO a*2+(c-48):=by
 unfold eO;rw[List.foldl_append];rfl
def zN{c:Nat}(h:c=48\/c=49):Builtin.Str.occurrences (Str.ofString "01") ⟨#[c]⟩ 0 (Str.ofString "01").length 1=[c-48]:=by
 rcases h with rfl|rfl<;>decide +kernel
def i8(z:List Nat)(a b:Nat)(h:a<=b):Y.eW (wd z) (some (a:Int)) (some (b:Int))=wd ((z.drop a).take (b-a)):=by
 unfold Y.eW wd;congr 2;show Y.gz z (some (a:Int)) (some (b:Int))=_;unfold Y.gz;rw[HT.cP,HT.cP];rcases OF z.length a with c|c
 ·rw[Ni c,Ni (Km c h),Mn,OZ c,Px,Px]
 ·rw[MN c];rcases OF z.length b with d|d
  ·rw[Ni d,Lj (by rw[KQ];exact Kp _),Lj (by rw[KQ];lia)]
  ·rw[MN d]
def pre_take{y:List Nat}:y <+: z ↔ z.take y.length=y:=by
 rw[N6];exact eq_comm
def find3{n:Nat}(h:n<3):(List.range' n (3-n)).find? (λi=>decide (oF.getD i [] <+: z.drop p))=if bG n <+: z.drop p then some n else (List.range' (n+1) (3-(n+1))).find? λi=>decide (oF.getD i [] <+: z.drop p):=by
 rw[show 3-n=(3-(n+1))+1 by lia,M1,Mf,yX h]
 by_cases c:bG n <+: z.drop p
 ·rw[KY c,Ku c]
 ·rw[KJ c,Ko c]
def PV.n:PV->Int
 |.box b=>(b:Int)
 |.num n=>(n:Int)
 |.go d=>d
def Kd.c:Kd->Nat
 |.box=>98
 |.num=>110
 |.go=>103
structure JF (cd:List (List (List Nat))):Prop extends n5 cd where
 FC:∀ws∈cd,∀w∈ws,w.length<=20
def yR{x:Nat×Nat}(hne:∀w∈ws,w≠[])(h:yp ws z p=some x):p<x.2/\x.2<=z.length:=by
 unfold yp at h
 cases c:iJ ws z p with
 |none=>rw[c] at h;cases h
 |some y =>
  rw[c] at h;obtain⟨_,_,h3,h4⟩:=eA hne c;dsimp only at h
  split at h
  ·cases h;exact⟨h3,h4⟩
  ·split at h
   ·rename_i hl;cases h;exact⟨by show p<y.2+_;lia,hl⟩
   ·cases h
def CJ{x:Int×Nat}(h:gA z p=some x):p<x.2/\x.2<=z.length:=by
 unfold gA at h
 cases c:iJ oF z p with
 |none=>rw[c] at h;cases h
 |some y =>
  rw[c] at h;obtain⟨_,_,h3,h4⟩:=eA r9 c;dsimp only at h
  split at h
  ·rename_i hl;cases h;exact⟨by show p<y.2+_;lia,hl⟩
  ·cases h
def n6{cd:List (List (List Nat))}{k:Kd}{x:PV×Nat}(hR:n5 cd)(h:u7 cd z p k=some x):p<x.2/\x.2<=z.length/\(∀b,x.1=.box b->b<8):=by
 obtain⟨c0,c1,c2,rfl,l0,l1,l2⟩:=hR.fJ.ex;have n1:=(hR.pf c1 (by simp)).ne
 have n2:=(hR.pf c2 (by simp)).ne
 cases k with
 |box =>
  replace h:(iJ c2 z p).map (λx=>(PV.box x.1,x.2))=some x:=h
  cases c:iJ c2 z p with
  |none=>rw[c] at h;cases h
  |some y=>rw[c] at h;cases h;obtain⟨h1,_,h3,h4⟩:=eA n2 c;exact⟨h3,h4,λb e=>by cases e;lia⟩
 |num =>
  replace h:(yp c1 z p).map (λx=>(PV.num x.1,x.2))=some x:=h
  cases c:yp c1 z p with
  |none=>rw[c] at h;cases h
  |some y=>rw[c] at h;cases h;exact⟨(yR n1 c).1,(yR n1 c).2,λb e=>by cases e⟩
 |go =>
  replace h:(gA z p).map (λx=>(PV.go x.1,x.2))=some x:=h
  cases c:gA z p with
  |none=>rw[c] at h;cases h
  |some y=>rw[c] at h;cases h;exact⟨(CJ c).1,(CJ c).2,λb e=>by cases e⟩
def cH.app{x y:List Nat}(hx:cH x)(hy:cH y):cH (x++y):=λc hc=>(Ld.mp hc).elim (hx c) (hy c)
def cH.rep(n:Nat){v:Nat}(h:v=48\/v=49):cH (List.replicate n v):=λc hc=>by rw[(L9.mp hc).2];exact h
def AG{w:List Nat}{n:Nat}(h:cH w):cH (Cw.dG w n):=by
 unfold Cw.dG Cw.pad;refine cH.app (cH.app (λc hc=>h c ?_) λc hc=>.inr (K0.mp hc)) (cH.rep _ (.inl rfl));have h1:=Mm.mp (List.dropLast_subset _ hc);exact Mm.mp ((NC _).subset h1)
def v8{o:List Nat}:∀{a:Option (List Nat)} {ws:List (List Nat)},(∀v,a=some v->cH v)->(∀x∈ws,cH x)->∀x∈(Cw.along Cw.dG ln o (a,ws)).2,cH x:=by
 induction o with
 |nil=>exactλ_ h=>h
 |cons t o ih =>
  intro a ws ha hw
  cases a with
  |none =>
   refine ih (a:=some (List.replicate (ln t) 48)) (λv e=>by cases e;exact cH.rep _ (.inl rfl)) λx hx=>?_
   rcases L5 hx with z|z
   ·exact hw x z
   ·rw[z];exact cH.rep _ (.inl rfl)
  |some v =>
   have hv:=AG (n:=ln t) (ha v rfl);refine ih (a:=some (Cw.dG v (ln t))) (λv e=>by cases e;exact hv) λx hx=>?_
   rcases L5 hx with z|z
   ·exact hw x z
   ·rw[z];exact hv
def vk(ls:List Int):∀x∈wordsOf Cw.dG ls,cH x:=v8 (λv e=>by cases e) λx hx=>by rw[(L9.mp hx).2];exactλc hc=>by cases hc
def yh{cd:List (List (List Nat))}(h:∀ws∈cd,∀w∈ws,cH w)(r:Row):cH (cK cd r):=by
 have at2:∀p,cH (gK cd p):=λp=>by
  unfold gK;rw[Ks,Ks]
  cases e:cd[p.1]? with
  |none=>exactλc hc=>by cases hc
  |some ws =>
   show cH (ws[p.2]?.getD [])
   cases e2:ws[p.2]? with
   |none=>exactλc hc=>by cases hc
   |some w=>exact h ws (Li e) w (Li e2)
 unfold cK;refine cH.app (λc hc=>?_) ?_
 ·obtain⟨p,_,hp⟩:=List.mem_flatMap.mp hc;exact at2 p c hp
 ·cases r with
  |put b n=>exactλc hc=>xa n c (List.mem_of_mem_tail hc)
  |two=>exactλc hc=>by cases hc
  |one=>exactλc hc=>by cases hc
  |jump=>exactλc hc=>by cases hc
  |zero=>exactλc hc=>by cases hc
  |halt=>exactλc hc=>by cases hc
def EM(bk:List (List Int)):∀ws∈gx bk,∀w∈ws,cH w:=λws hw=>by
 obtain⟨l,_,rfl⟩:=Ll.mp hw;exact vk l
def qd{cd:List (List (List Nat))}(hC:Cd cd){r:Row}{k:Nat}(hr:r.Ok k):(cK cd r).length<=136:=by
 have:=zf hC hr;unfold cK;rw[Kj];lia
inductive b6 where
 |put (b n:Nat)|two (w:Fin 3) (a b:Nat)|one (w:Fin 2) (b:Nat)|jump (g:Int)|zero (b:Nat) (g:Int)|halt
inductive Bd where
 |s (z:Str)|n (k:Int)
def b6.ps:b6->List Bd
 |.put b n=>[.s "put",.s (d8 b),.n (n:Nat)]
 |.two w a b=>[.s (w2 w),.s (d8 a),.s (d8 b)]
 |.one w b=>[.s (w1 w),.s (d8 b)]
 |.jump g=>[.s "jump",.n g]
 |.zero b g=>[.s "zero",.s (d8 b),.n g]
 |.halt=>[.s "halt"]
def b6.Ok:b6->Prop
 |.put b _=>b<8
 |.two _ a b=>a<8/\b<8
 |.one _ b=>b<8
 |.jump _=>True
 |.zero b _=>b<8
 |.halt=>True
def b6.rel(e:Int):b6->b6
 |.jump g=>.jump (g-e)
 |.zero b g=>.zero b (g-e)
 |r=>r
def nY(x:RW×Nat):b6:=match x.1.vs with
 |[(.box b,_)]=>.one (if x.1.wi=4 then 0 else 1) b
 |[(.go d,e)]=>.jump ((e:Int)+d)
 |[(.box a,_),(.box b,_)]=>.two (if x.1.wi=1 then 0 else if x.1.wi=2 then 1 else 2) a b
 |[(.box b,_),(.num n,_)]=>.put b n
 |[(.box b,_),(.go d,e)]=>.zero b ((e:Int)+d)
 |_=>.halt
def Iz{cd:List (List (List Nat))}{k:Kd}{y:List (PV×Nat)×Nat}(h:je cd z [k] p=some y):∃x,u7 cd z p k=some x/\y=([x],x.2):=by
 obtain⟨x,hx,h⟩:=MF.mp h;cases h;exact⟨x,hx,rfl⟩
def GS{cd:List (List (List Nat))}{k l:Kd}{y:List (PV×Nat)×Nat}(h:je cd z [k,l] p=some y):∃x x',u7 cd z p k=some x/\u7 cd z x.2 l=some x'/\y=([x,x'],x'.2):=by
 obtain⟨x,hx,h⟩:=MF.mp h;obtain⟨y',hy,rfl⟩:=K8.mp h;obtain⟨x',hx',rfl⟩:=Iz hy;exact⟨x,x',hx,hx',rfl⟩
def eI{cd:List (List (List Nat))}{x:PV×Nat}(hR:n5 cd)(h:u7 cd z p .box=some x):∃b e,x=(.box b,e)/\b<8:=by
 have h8:=(n6 hR h).2.2;obtain⟨v,_,rfl⟩:=K8.mp h;exact⟨_,_,rfl,h8 _ rfl⟩
def E7{cd:List (List (List Nat))}{x:PV×Nat}(h:u7 cd z p .num=some x):∃n e,x=(.num n,e):=by
 obtain⟨v,_,rfl⟩:=K8.mp h;exact⟨_,_,rfl⟩
def C_{cd:List (List (List Nat))}{x:PV×Nat}(h:u7 cd z p .go=some x):∃d e,x=(.go d,e):=by
 obtain⟨v,_,rfl⟩:=K8.mp h;exact⟨_,_,rfl⟩
def DV{cd:List (List (List Nat))}{ks:List Kd}{y:List (PV×Nat)×Nat}(hR:n5 cd)(h:je cd z ks p=some y):p<=y.2/\(p<=z.length->y.2<=z.length):=by
 induction ks generalizing p y with
 |nil=>cases h;exact⟨Kp _,id⟩
 |cons k ks ih =>
  rw[je] at h;obtain⟨x,hx,h⟩:=MF.mp h;obtain⟨y',hy,rfl⟩:=K8.mp h;obtain⟨i1,i2⟩:=ih hy;obtain⟨j1,j2,_⟩:=n6 hR hx;exact⟨by show p<=y'.2;lia,λ_=>i2 j2⟩
def yM(hL:jq ls)(ho:mU ls=true):Pf (wordsOf Cw.dG ls):=by
 have hc:=canon hL (Lr ho);have hg:∀(i:Nat) (h:i<(wordsOf Cw.dG ls).length),(wordsOf Cw.dG ls)[i]=(wordsOf Cw.dG ls).getD i []:=λi h=>by
  rw[Ks,Kg h];rfl
 refine⟨λw hw e=>?_,λi j hi hj hne hp=>?_⟩
 ·obtain⟨i,hi,rfl⟩:=Nj.mp hw;have hi':i<ls.length:=by rw[<- hc.len];exact hi
  have h1:=hc.Gv i hi';rw[<- hg i hi,e,Lo] at h1;unfold aP at h1;rw[Ks,Kg hi'] at h1;have h2:=hL.2.2 _ (K9 hi');have h1':0=(ls[i]).toNat:=h1;lia
 ·have hi':i<ls.length:=by rw[<- hc.len];exact hi
  have hj':j<ls.length:=by rw[<- hc.len];exact hj
  rw[hg i hi,hg j hj] at hp;have:(ls.getD i 0<ls.getD j 0\/(ls.getD i 0=ls.getD j 0/\i<j))\/(ls.getD j 0<ls.getD i 0\/(ls.getD j 0=ls.getD i 0/\j<i)):=by lia
  rcases this with h|h
  ·exact (hc.part i j hi' hj' h).not.1 hp
  ·exact (hc.part j i hj' hi' h).not.2 hp
def Ci{bk:List (List Int)}(h:Bk bk):∀ws∈gx bk,Pf ws:=λws hw=>by
 obtain⟨l,hl,rfl⟩:=Ll.mp hw;obtain⟨a,b,c,e,_,_,_,h4⟩:=h;exact yM (h4 l hl).1 (h4 l hl).2
def oP{bk:List (List Int)}(h:Bk bk):JF (gx bk):=by
 refine⟨⟨h.cd,Ci h⟩,λws hw w hw2=>?_⟩;obtain⟨l,hl,rfl⟩:=Ll.mp hw;obtain⟨a,b,c,e,_,_,_,h4⟩:=h;have hc:=canon (h4 l hl).1 (Lr (h4 l hl).2);obtain⟨i,hi,rfl⟩:=Nj.mp hw2;have hi':i<l.length:=by rw[<- hc.len];exact hi
 have h1:=hc.Gv i hi';rw[Ks,Kg hi] at h1;unfold aP at h1;rw[Ks,Kg hi'] at h1;have h2:=(h4 l hl).1.2.2 _ (K9 hi');have h3:((wordsOf Cw.dG l)[i]).length=(l[i]).toNat:=h1;lia
def mG(cs:List Nat):(Str.ofString "").join (cs.map λc=>wd [c])=wd cs:=by
 have:=ou (cs.map λc=>[c]);rw[Mr] at this;rw[show (cs.map λc=>wd [c])=cs.map (wd ∘ λc=>[c]) from rfl,this];congr 1
 induction cs with
 |nil=>rfl
 |cons c cs ih=>rw[KA,LU,ih (by rw[<- Mr];exact ou _)];rfl
def Ir.v:Ir->V
 |.s z=>.str z
 |.n k=>.int (k:Nat)
def Row.vs(r:Row):List V:=r.ps.map Ir.v
def Pk.v:Pk->V
 |.box b=>.str (d8 b)
 |.num n=>.int (n:Nat)
 |.goal g=>.int (g:Nat)
def Row.Ib(r:Row):r.vs=.str r.wd::r.iI.map Pk.v:=by cases r<;>rfl
def PV.v(behind:Nat):PV->V
 |.box b=>.str (d8 b)
 |.num n=>.int (n:Int)
 |.go d=>.int ((behind:Int)+d)
def PV.l:PV->V
 |.box b=>.str (d8 b)
 |.num n=>.int (n:Int)
 |.go d=>.int d
def RW.v(r:RW):List V:=.str (b8.getD r.wi (Str.ofString ""))::r.vs.map λx=>x.1.v x.2
def RW.l(r:RW):List V:=.str (b8.getD r.wi (Str.ofString ""))::r.vs.map λx=>x.1.l
def Bd.v:Bd->V
 |.s z=>.str z
 |.n k=>.int k
def b6.vs(r:b6):List V:=r.ps.map Bd.v
def BR{cd:List (List (List Nat))}{x:RW×Nat}(hR:n5 cd)(h:zY cd z p=some x):(nY x).Ok/\x.1.v=(nY x).vs/\x.1.l=((nY x).rel x.2).vs/\p<x.2/\x.2<=z.length:=by
 obtain⟨c0,c1,c2,rfl,l0,l1,l2⟩:=hR.fJ.ex;obtain⟨v,hv,h⟩:=MF.mp h;obtain⟨y,hy,rfl⟩:=K8.mp h;obtain⟨w1,_,w3,w4⟩:=eA (hR.pf c0 (by simp)).ne hv
 obtain⟨i1,i2⟩:=DV hR hy;obtain⟨wi,e⟩:=v;dsimp only at *;refine and_assoc.mp (and_assoc.mp ⟨?_,by show p<y.2;lia,i2 w4⟩)
 have far:∀(e:Nat) (d:Int),(e:Int)+d-(e:Int)=d:=λe d=>by lia
 have:wi=0\/wi=1\/wi=2\/wi=3\/wi=4\/wi=5\/wi=6\/wi=7\/wi=8:=by lia
 rcases this with rfl|rfl|rfl|rfl|rfl|rfl|rfl|rfl|rfl
 ·obtain⟨x,x',hx,hx',rfl⟩:=GS hy;obtain⟨b,e,rfl,hb⟩:=eI hR hx;obtain⟨n,e',rfl⟩:=E7 hx';exact⟨⟨hb,rfl⟩,rfl⟩
 ·obtain⟨x,x',hx,hx',rfl⟩:=GS hy;obtain⟨b,e,rfl,hb⟩:=eI hR hx;obtain⟨n,e',rfl,hb'⟩:=eI hR hx';exact⟨⟨⟨hb,hb'⟩,rfl⟩,rfl⟩
 ·obtain⟨x,x',hx,hx',rfl⟩:=GS hy;obtain⟨b,e,rfl,hb⟩:=eI hR hx;obtain⟨n,e',rfl,hb'⟩:=eI hR hx';exact⟨⟨⟨hb,hb'⟩,rfl⟩,rfl⟩
 ·obtain⟨x,x',hx,hx',rfl⟩:=GS hy;obtain⟨b,e,rfl,hb⟩:=eI hR hx;obtain⟨n,e',rfl,hb'⟩:=eI hR hx';exact⟨⟨⟨hb,hb'⟩,rfl⟩,rfl⟩
 ·obtain⟨x,hx,rfl⟩:=Iz hy;obtain⟨b,e,rfl,hb⟩:=eI hR hx;exact⟨⟨hb,rfl⟩,rfl⟩
 ·obtain⟨x,hx,rfl⟩:=Iz hy;obtain⟨b,e,rfl,hb⟩:=eI hR hx;exact⟨⟨hb,rfl⟩,rfl⟩
 ·obtain⟨x,hx,rfl⟩:=Iz hy;obtain⟨d,e,rfl⟩:=C_ hx;refine⟨⟨trivial,rfl⟩,?_⟩;show [_,V.int d]=[_,.int ((e:Int)+d-(e:Int))];rw[far];rfl
 ·obtain⟨x,x',hx,hx',rfl⟩:=GS hy;obtain⟨b,e,rfl,hb⟩:=eI hR hx;obtain⟨d,e',rfl⟩:=C_ hx';refine⟨⟨hb,rfl⟩,?_⟩;show [_,_,V.int d]=[_,_,.int ((e':Int)+d-(e':Int))];rw[far];rfl
 ·cases hy;exact⟨⟨trivial,rfl⟩,rfl⟩
def all_true(n:Nat):mW n n (λ_=>true)=true:=iQ rfl λ_ _=>rfl
def no:nK:=λ_=>False
def fS(xs:List V)(v:V):bS (xs++[v]) (-1)=some v:=by
 have hl:(xs++[v]).length=xs.length+1:=by rw[Kj];rfl
 unfold bS jO;rw[Ko (by decide),hl,Ku (by lia),show (-1+((xs.length+1:Nat):Int)).toNat=xs.length by lia]
 show (xs++[v])[xs.length]?=_;rw[KL (Kp _),LH];rfl
def yY(xs:List V)(k:Nat):fE xs (some (k:Int)) none=xs.drop k:=by
 unfold fE;rw[HT.dk,HT.cP];rcases OF k xs.length with h|h
 ·rw[MN h,Lj (by rw[KQ];exact Kp _)]
 ·rw[Ni h,Mn,OZ h,Px]
def bR:Row->Option Nat
 |.jump g=>some g
 |.zero _ g=>some g
 |_=>none
def xA{w:Nat}(d:Int):(pM w d).length=(bG w).length+aT w:=by
 unfold pM;rw[Kj,eV];rfl
def uD(cd:List (List (List Nat)))(r:Row)(w:Nat)(d:Int):List Nat:=cK cd r++(match bR r with|none=>[]|some _=>pM w d)
def Row.m(g:Int):Row->b6
 |.put b n=>.put b n
 |.two u a b=>.two u a b
 |.one u b=>.one u b
 |.jump _=>.jump g
 |.zero b _=>.zero b g
 |.halt=>.halt
def GB:Nat->Nat
 |0=>5
 |1=>10
 |_=>18
def addW:Option Nat->Nat->Nat
 |none,_=>0
 |some _,w=>GB w
def wk:Nat->List Nat->List (Option Nat)->List Nat->List Nat
 |a,s::ss,g::gs,w::ws=>a::wk (a+s+addW g w) ss gs ws
 |a,_,_,_=>[a]
def xZ(a:Nat)(ss:List Nat)(gs:List (Option Nat))(ws:List Nat):∃l,wk a ss gs ws=a::l:=by
 unfold wk;split
 ·exact⟨_,rfl⟩
 ·exact⟨_,rfl⟩
theorem tQ:∀(ss:List Nat) (gs:List (Option Nat)) (ws:List Nat) (a:Nat),gs.length=ss.length->ws.length=ss.length->(wk a ss gs ws).length=ss.length+1
 |[],_,_,_,_,_=>by unfold wk;rfl
 |s::ss,[],_,_,h,_=>by cases h
 |s::ss,_::_,[],_,_,h=>by cases h
 |s::ss,g::gs,w::ws,a,h1,h2=>by
  rw[wk,K2,tQ ss gs ws _ (Nat.succ.inj h1) (Nat.succ.inj h2)];rfl
theorem zv:∀(ss:List Nat) (gs:List (Option Nat)) (ws:List Nat) (a k:Nat) (s:Nat) (g:Option Nat) (w:Nat),ss[k]?=some s->gs[k]?=some g->ws[k]?=some w->(wk a ss gs ws).getD (k+1) 0=(wk a ss gs ws).getD k 0+s+addW g w
 |[],_,_,_,_,_,_,_,h,_,_=>by simp at h
 |s::ss,[],_,_,_,_,_,_,_,h,_=>by simp at h
 |s::ss,_::_,[],_,_,_,_,_,_,_,h=>by simp at h
 |s::ss,g::gs,w::ws,a,0,s',g',w',h1,h2,h3=>by
  simp at h1 h2 h3;subst h1;subst h2;subst h3;rw[wk];obtain⟨l,e⟩:=xZ (a+s+addW g w) ss gs ws;rw[e];rfl
 |s::ss,g::gs,w::ws,a,k+1,s',g',w',h1,h2,h3=>by
  rw[wk];have:=zv ss gs ws (a+s+addW g w) k s' g' w' (by simpa using h1) (by simpa using h2) (by simpa using h3)
  simpa using this
def Eo(sp:List Nat)(t k:Nat):Int:=(sp.getD t 0:Int)-(sp.getD (k+1) 0:Int)
def J9(w:Nat)(d:Int):Bool:=decide (-cU w<=d) && decide (d<cU w)
def IE(ss:List Nat)(gs:List (Option Nat))(ws:List Nat):Prop:=∀(k t w:Nat),gs[k]?=some (some t)->ws[k]?=some w->J9 w (Eo (wk 0 ss gs ws) t k)=true
def CK(cd:List (List (List Nat)))(rs:List Row):List Nat:=rs.map λr=>(cK cd r).length
def HI(sp:List Nat)(k w:Nat):Option Nat->List Nat
 |none=>[]
 |some t=>pM w (Eo sp t k)
def CU(cd:List (List (List Nat)))(sp:List Nat):Nat->List Row->List Nat->List Nat
 |k,r::rs,w::ws=>cK cd r++HI sp k w (bR r)++CU cd sp (k+1) rs ws
 |_,_,_=>[]
theorem mf:∀(k:Nat) (n:Int) (acc:List Nat),cT (n % 2^k) k acc=cT n k acc
 |0,_,_=>rfl
 |k+1,n,acc=>by
  have e1:(n % 2^(k+1)) % 2=n % 2:=Int.emod_emod_of_dvd n ⟨2^k,by rw[P8];lia⟩
  have e2:(n % 2^(k+1)) / 2=(n / 2) % 2^k:=by
   rw[P8,Int.mul_comm];have h:=Int.emod_add_mul_ediv n (2*2^k);have h2:n / (2*2^k)=n / 2 / 2^k:=(Int.ediv_ediv_of_nonneg (by decide)).symm
   rw[Int.emod_def,Int.emod_def,h2];rw[show n-2*2^k*(n / 2 / 2^k)=n+2*(-(2^k*(n / 2 / 2^k))) by rw[Int.mul_neg,Int.mul_assoc];lia]
   rw[Int.add_mul_ediv_left _ _ (by decide)]
   lia
  show cT ((n % 2^(k+1)) / 2) k (dg (n % 2^(k+1))::acc)=cT (n / 2) k (dg n::acc);rw[e2,mf k (n / 2)];unfold dg;rw[e1]
def AX{w:Nat}(h:w<3)(d:Int):(pM w d).length=GB w:=by
 rw[xA];rcases oz h with rfl|rfl|rfl<;>rfl
structure Laid (cd:List (List (List Nat))) (rs:List Row) (ws sp z:List Nat):Prop where
 hR:n5 cd
 len:ws.length=rs.length
 le:rs.length<=64
 ok:∀r∈rs,r.Ok rs.length
 lt:∀w∈ws,w<3
 jr:sp=wk 0 (CK cd rs) (rs.map bR) ws
 fit:IE (CK cd rs) (rs.map bR) ws
 hz:z=CU cd sp 0 rs ws
section
variable {cd:List (List (List Nat))} {rs:List Row} {ws sp z:List Nat}
def Laid.sl(L:Laid cd rs ws sp z):sp.length=rs.length+1:=by
 rw[L.jr,tQ _ _ _ _ (by unfold CK;rw[Ki,Ki]) (by unfold CK;rw[Ki];exact L.len)]
 unfold CK;rw[Ki]
def Er(sp:List Nat)(k:Nat)(r:Row):Int:=match bR r with|none=>0|some t=>Eo sp t k
def Laid.row(L:Laid cd rs ws sp z){k:Nat}(hk:k<rs.length):∃w,ws[k]?=some w/\w<3/\sp.getD (k+1) 0=sp.getD k 0+(uD cd rs[k] w (Er sp k rs[k])).length/\CU cd sp k (rs.drop k) (ws.drop k)=uD cd rs[k] w (Er sp k rs[k])++CU cd sp (k+1) (rs.drop (k+1)) (ws.drop (k+1))/\∀t,bR rs[k]=some t->w<3/\-cU w<=Er sp k rs[k]/\Er sp k rs[k]<cU w:=by
 have hw:k<ws.length:=by rw[L.len];exact hk
 have ew:=Kg hw;have lw:=L.lt _ (K9 hw);have er:=Kg hk;have okr:=L.ok _ (K9 hk);refine⟨ws[k],ew,lw,?_,?_,?_⟩
 ·have:=zv (CK cd rs) (rs.map bR) ws 0 k (cK cd rs[k]).length (bR rs[k]) ws[k] (by unfold CK;rw[Kn,er];rfl) (by rw[Kn,er];rfl) ew
  rw[<- L.jr] at this;rw[this,uD,Kj,Nat.add_assoc];congr 2
  cases e:bR rs[k] with
  |none=>rfl
  |some t=>exact (AX lw _).symm
 ·rw[LL hk,LL hw,CU,uD];congr 2;unfold HI Er
  cases e:bR rs[k] with
  |none=>rfl
  |some t=>rfl
 ·intro t et;have hf:=L.fit k t ws[k] (by rw[Kn,er];exact Lg some et) ew
  rw[<- L.jr] at hf;unfold J9 at hf;rw[Lz] at hf;unfold Er;rw[et];exact⟨lw,Lr hf.1,Lr hf.2⟩
theorem Laid.at(L:Laid cd rs ws sp z):∀k,k<=rs.length->z.drop (sp.getD k 0)=CU cd sp k (rs.drop k) (ws.drop k)/\sp.getD k 0<=z.length
 |0,_=>by
  have e:sp.getD 0 0=0:=by
   rw[L.jr];obtain⟨l,e⟩:=xZ 0 (CK cd rs) (rs.map bR) ws;rw[e];rfl
  rw[e,LI];exact⟨L.hz,K4 _⟩
 |k+1,hk=>by
  obtain⟨h1,h2⟩:=L.at k (by lia)
  obtain⟨w,_,_,e1,e2,_⟩:=L.row (show k<rs.length by lia)
  rw[e2] at h1;have hl:=Lg List.length h1;rw[KQ,Kj] at hl;refine⟨?_,by lia⟩
  rw[e1,<- List.drop_drop,h1,List.drop_left]
def Laid.pos(L:Laid cd rs ws sp z){k w:Nat}{d:Int}(hk:k<rs.length):0<(uD cd rs[k] w d).length:=by
 have g0:=L.hR.fJ.at (p:=(0,rs[k].wi)) (.inl ⟨rfl,rs[k].uh⟩);obtain⟨c0,c1,c2,e,l0,l1,l2⟩:=L.hR.fJ.ex;have hne:gK cd (0,rs[k].wi)≠[]:=by
  refine (L.hR.pf c0 (by rw[e];simp)).ne _ ?_
  have:=g0.2.1;rw[e] at this ⊢;exact Li this
 unfold uD cK ng;rw[Kj,Kj,MR,Kj];have:=Nr.mpr hne;lia
def Laid.up(L:Laid cd rs ws sp z){k:Nat}(hk:k<rs.length):sp.getD k 0<sp.getD (k+1) 0:=by
 obtain⟨w,_,_,e1,_⟩:=L.row hk;have:=L.pos (w:=w) (d:=Er sp k rs[k]) hk;lia
theorem Laid.mono(L:Laid cd rs ws sp z):∀(i d:Nat),i+d+1<=rs.length->sp.getD i 0<sp.getD (i+d+1) 0
 |i,0,h=>L.up (by lia)
 |i,d+1,h=>Nz (L.mono i d (by lia)) (L.up (show i+d+1<rs.length by lia))
def Laid.last(L:Laid cd rs ws sp z):z.length=sp.getD rs.length 0:=by
 obtain⟨h1,h2⟩:=L.at rs.length (Kp _);rw[Mn] at h1;have hl:=Lg List.length h1;rw[KQ,show (CU cd sp rs.length [] (ws.drop rs.length)).length=0 by unfold CU;rfl] at hl
 lia
end
def bC(H:Hp)(p dq:Addr)(n:Nat):Prop:=∃(cells:List Int) (i t z:Int),H p=some (.lst [.ref dq,.int i,.int t,.int z])/\H dq=some (.lst (iV cells))/\(∀c∈cells,0<=c)/\0<=i/\i<=cells.length/\cells.length<=63/\0<=t/\t<=n
def bC.mono{p:Addr}{n m:Nat}(h:bC H p dq n)(hm:n<=m):bC H p dq m:=by
 obtain⟨cells,i,t,z,h1,h2,h3,h4,h5,h6,h7,h8⟩:=h;exact⟨cells,i,t,z,h1,h2,h3,h4,h5,h6,h7,by lia⟩
def bC.keep{p:Addr}{n:Nat}(h:bC H p dq n)(k:KB ex H H')(n1:p∉ex)(n2:dq∉ex):bC H' p dq n:=by
 obtain⟨cells,i,t,z,h1,h2,h3⟩:=h;exact⟨cells,i,t,z,k _ _ h1 n1,k _ _ h2 n2,h3⟩
def bC.kb{p:Addr}{n:Nat}(h:bC H p dq n)(k:KB [] H H'):bC H' p dq n:=h.keep k (by simp) (by simp)
def bC.lst{p:Addr}{n:Nat}(h:bC H p dq n):∀b∈[p,dq],∃ys,H b=some (.lst ys):=by
 obtain⟨cells,i,t,z,h1,h2,h3⟩:=h;intro b hb;simp only[Kv,KO,Ma] at hb;rcases hb with rfl|rfl
 ·exact⟨_,h1⟩
 ·exact⟨_,h2⟩
def bC.new{p l:Addr}{n:Nat}(h:bC H p dq n)(hl:H l=none):l∉[p,dq]:=λz=>by
 obtain⟨ys,e⟩:=h.lst l z;rw[hl] at e;cases e
def bC.tup{p:Addr}{n:Nat}(h:bC H p dq n)(k:KB [p,dq] H H')(e:H a=some (.tup xs)):H' a=some (.tup xs):=ED k h.lst e
def CN:Sp:=λvs H Q _=>∃c k:Int,vs=[.int c,.int k]/\0<=k/\k<2^60/\∀v:Int,Q (.int v) H
def Eh(F:HasFn K mg "_law_mix" gN ["number","turn"]):ao P w K mg base aY 1 "_law_mix" ["number","turn"] CN:=by
 refine F.fq fD (λvs H Q E h=>?_) (λf cdv A outer s H vs Q E hr h=>?_)
 ·obtain⟨c,k,rfl,_⟩:=h;rfl
 ·obtain⟨c,k,rfl,h0,h1,q⟩:=h;have hu:=aU hr;refine⟨_,(Z.ai (Z.se (i:=2) fD.nd (Z.op dM (Z.op (Z.aH K rfl) (Z.op (Z.aH K rfl) (Z.op (Z.aH K rfl) (Z.op dM (Z.v 0) Z.int) (Z.op bX (Z.op bX Z.int (Z.v 1)) (Z.v 1))) (Z.op bX Z.int (Z.v 1))) Z.int) Z.int))
   (Z.ai (Z.se (i:=2) fD.nd (Z.op dM (Z.op bX (Z.v 2) (Z.v 2)) Z.int))
   (Z.av (Z.ret (Z.op nQ (Z.op dM (Z.op (Z.aH K rfl) (Z.op bX (Z.v 2) Z.int) (Z.v 1)) Z.int) Z.int))))),?_⟩
  refine ar λN hN=>?_;nofun;refine⟨by decide,.inl (by decide),.inr ⟨by lia,by lia⟩,.inl (by decide),by decide,?_⟩
  subst hN;generalize hx:(c % 1999999927+7001*k*k+40009*k+17) % 2147483629=x;have hx1:0<=x/\x<2147483629:=by rw[<- hx];exact⟨OR _ (by decide),Oj _ (by decide)⟩
  refine ar λN hN=>?_;nofun;refine⟨.inl ⟨by lia,by lia⟩,by decide,?_⟩
  subst hN;generalize hy:x*x % 2147483587=y;have hy1:0<=y/\y<2147483587:=by rw[<- hy];exact⟨OR _ (by decide),Oj _ (by decide)⟩
  nofun;exact⟨.inr (by decide),by decide,⟨by decide,by decide⟩,q _⟩
def xK(K:W.Frag):Sp:=λvs H Q _=>∃(a:Addr) (ns:List Int),vs=[.ref a]/\a_ K H a (ns.map V.int)/\∀p dq H',bC H' p dq 0->KB [] H H'->H p=none->H dq=none->Q (.ref p) H'
theorem AB(T:Txt K mg)(F:HasFn K mg "_law_deck" dX ["script"]):ao P w K mg base aY 1 "_law_deck" ["script"] (xK K):=by
 refine F.fq nr (λvs H Q E h=>?_) (λf cdv A outer s H vs Q E hr h=>?_)
 ·obtain⟨a,ns,rfl,_⟩:=h;rfl
 ·obtain⟨a,ns,rfl,hS,q⟩:=h;have hu:=aU hr;refine⟨_,(Z.av (Z.ret (Z.lst (Z.cons (Z.xU (osc:=af dX) (ON:=["script"]) (own:=["cell"]) (N:=["cell","script"]) (aA.of rfl (by decide +kernel)) (Z.any K rfl (Z.slice (Z.CQ K rfl) (Z.v 0) Z.p9 (Z.gU Z.int))) (λnd _ _ _ _=>(Z.aM (i:=0) nd rfl (by right))) (λ_ _ _ _=>Z.tF) (λ_ _ _ _=>(Z.cb yv rfl T.Ht (by decide +kernel) (Z.cons (Z.v 0) Z.nil)))) (Z.cons Z.int (Z.cons Z.int (Z.cons (Z.op dM (Z.op (Z.aH K rfl) (Z.cb (Z.HE K rfl rfl) rfl T.Hw (by decide +kernel) (Z.cons (Z.slice (Z.CQ K rfl) (Z.v 0) Z.p9 (Z.gU Z.int)) Z.nil)) (Z.op bX Z.int (Z.cb (Z.DG K rfl) rfl T.b7 (by decide +kernel) (Z.cons (Z.v 0) Z.nil)))) Z.int) Z.nil))))))),?_⟩
  have ec:fE (ns.map V.int) none (some 63)=iV (ns.take 63):=by
   unfold fE iV;rw[HT.dk,show HT.bM (ns.map V.int).length (ns.map V.int).length (some 63)=min 63 (ns.map V.int).length from HT.cP _ _ 63,Ki,NP,LI,<- Py];congr 1;rw[List.take_eq_take_iff];lia
  have hm:(ns.take 63).length<=63:=by rw[KD];lia
  generalize ns.take 63=ms at ec hm;nofun;refine⟨a,_,rfl,hS,λc hc=>?_⟩;rw[ec];obtain⟨k1,s1⟩:=e8 hc (.lst (iV ms));generalize upd H c _=H1 at *;simp only[au s1];refine kK (xs:=iV ms) (Km (show _<=63 by rw[bF];exact hm) (by decide)) (λD i ys H'=>H' D=some (.lst ys)/\KB [] H1 H'/\H1 D=none/\∃bs:List Int,ys=iV bs/\bs.length=i/\∀b∈bs,0<=b) (λD hD=>⟨aa,KB.new hD,hD,[],rfl,rfl,λb hb=>nomatch hb⟩) (λD i ys H' h=>⟨h.1,by obtain⟨_,_,_,bs,rfl,e,_⟩:=h;rw[bF,e]⟩) (λD i ys H' h=>a_.of (h.2.1 _ _ s1 (by simp))) ?_ ?_
  ·rintro D i ys H' x R hx ⟨g1,g2,g3,bs,rfl,g4,g5⟩ k;obtain⟨hi,rfl⟩:=jM hx;nofun;refine k _ _ g1 ⟨aa,λb o e _=>?_,g3,bs++[_],(ni bs [_]).symm,by rw[Kj,g4];rfl,λb hb=>?_⟩
   ·rw[ae (aq e g3)];exact g2 b o e (by simp)
   ·rcases Ld.mp hb with z|z
    ·exact g5 b z
    ·rw[K0.mp z];split<;>lia
  ·rintro D ys H' ⟨g1,g2,g3,bs,rfl,g4,g5⟩;rw[bF] at g4;refine⟨a,_,rfl,(k1.trans g2).HG (by simp) hS,λd hd=>?_⟩
   rw[ec];obtain⟨k2,s2⟩:=e8 hd (.lst (iV ms));generalize upd H' d _=H2 at *;have kk:=(k1.trans g2).trans k2;refine⟨d,ms,rfl,a_.of s2,.ref a,_,rfl,.inl ⟨_,kk.HG (by simp) hS,rfl⟩,.inl (by decide),by decide,by decide,λp hp=>?_⟩
   have gD:=k2.n g1;exact q p D _ ⟨bs,0,0,_,aa,by rw[ae (aq gD hp)];exact gD,g5,by decide,by lia,by lia,by decide,by decide⟩ (kk.trans (KB.new hp)) (kk.free (by simp) hp) (k1.free (by simp) g3)
def e9:Sp:=λvs H Q _=>∃(p dq:Addr) (m:Int) (n:Nat),vs=[.ref p,.int m]/\bC H p dq n/\n<2^50/\0<m/\m<2^30/\∀(v:Nat) H',(v:Int)<m->bC H' p dq (n+1)->KB [p,dq] H H'->Q (.int (v:Nat)) H'
def Az(T:Txt K mg)(F:HasFn K mg "_law_draw" fK ["deck","most"])(h_law_mix:ao P w K mg base aY 1 "_law_mix" ["number","turn"] CN):ao P w K mg base aY 2 "_law_draw" ["deck","most"] e9:=by
 refine F.fq i7 (λvs H Q E h=>?_) (λf cdv A outer s H vs Q E hr h=>?_)
 ·obtain⟨p,dq,m,n,rfl,_⟩:=h;rfl
 ·obtain⟨p,c,m,n,rfl,⟨cells,i,t,z,hp,hc,hn0,i0,i1,k63,t0,t1⟩,hn,hm0,hm1,q⟩:=h;have hu:=aU hr;have hcp:c≠p:=by
   rintro rfl;rw[hp] at hc
   cases cells<;>cases hc
  have sp:=au hp;have fin:∀(a:Int) (H':Hp),bC H' p c (n+1)->KB [p,c] H H'->Q (.int (a % m)) H':=λa H' D k=>by
   have h0:=OR a (Int.ne_of_gt hm0);have h1:=Oj a hm0;have:=q (a % m).toNat H' (by lia) D k
   rwa [Int.toNat_of_nonneg h0] at this
  refine⟨_,(Z.ai (Z.asg (Z.op (Z.aH K rfl) (Z.ix (Z.az K rfl hu) (Z.v 0) Z.int) Z.int) (Z.q_ (Z.v 0) Z.int))
   (Z.ai (Z.cS (Z.aS bz (Z.ix (Z.az K rfl hu) (Z.v 0) Z.int) (Z.cb (Z.bB K rfl) rfl T.b7 (by decide +kernel) (Z.cons (Z.ix (Z.az K rfl hu) (Z.v 0) Z.int) Z.nil))) (Z.av (Z.ret (Z.op dM (Z.fc h_law_mix (Z.cons (Z.ix (Z.az K rfl hu) (Z.v 0) Z.int) (Z.cons (Z.ix (Z.az K rfl hu) (Z.v 0) Z.int) Z.nil))) (Z.v 1)))) Z.ba)
   (Z.ai (Z.se (i:=2) i7.nd (Z.ix (Z.az K rfl hu) (Z.ix (Z.az K rfl hu) (Z.v 0) Z.int) (Z.ix (Z.az K rfl hu) (Z.v 0) Z.int)))
   (Z.ai (Z.cS (Z.aS iE (Z.v 2) (Z.op DE Z.int Z.int)) (Z.ai (Z.asg (Z.op (Z.aH K rfl) (Z.ix (Z.az K rfl hu) (Z.v 0) Z.int) Z.int) (Z.q_ (Z.v 0) Z.int))
   (Z.av (Z.ret (Z.op dM (Z.fc h_law_mix (Z.cons (Z.v 2) (Z.cons (Z.ix (Z.az K rfl hu) (Z.v 0) Z.int) Z.nil))) (Z.v 1))))) Z.ba)
   (Z.ai (Z.asg (Z.op nQ (Z.v 2) (Z.v 1)) (Z.q_ (Z.ix (Z.az K rfl hu) (Z.v 0) Z.int) (Z.ix (Z.az K rfl hu) (Z.v 0) Z.int)))
   (Z.av (Z.ret (Z.op dM (Z.v 2) (Z.v 1))))))))),?_⟩
  have x1:jO 4 1=some 1:=by decide
  have x2:jO 4 2=some 2:=by decide
  refine ar λN hN=>?_;exists sp,hp,x2;have k1:KB [p,c] H (upd H p (.lst [.ref c,.int i,.int (t+1),.int z])):=KB.set (by simp)
  have p1:upd H p (.lst [.ref c,.int i,.int (t+1),.int z]) p=_:=aa;have c1:upd H p (.lst [.ref c,.int i,.int (t+1),.int z]) c=some (.lst (iV cells)):=by rw[ae hcp];exact hc
  generalize upd H p (.lst [.ref c,.int i,.int (t+1),.int z])=H1 at *;have s1:=au p1;have sc:=au c1;subst hN;refine ar λN hN=>?_;exists s1,sc,bF;by_cases e1:i=(cells.length:Nat)
  ·exists Ku e1,s1;refine⟨_,_,rfl,by lia,by lia,λv=>?_⟩
   nofun;exact⟨hm0,fin v H1 ⟨cells,i,t+1,z,p1,c1,hn0,i0,i1,k63,by lia,by lia⟩ k1⟩
  ·rw[Ko e1,hN];clear hN N;obtain⟨j,rfl⟩:∃j:Nat,i=(j:Int):=⟨i.toNat,by lia⟩
   have hj:j<cells.length:=by lia
   have aj:=lY hj;have hv0:=hn0 _ (K9 hj);refine ar λN hN=>?_;exists s1,sc,aj;generalize cells[j]=v at *;subst hN;refine ar λN hN=>?_;nofun;refine⟨⟨by decide,by decide,by decide⟩,?_⟩
   by_cases e2:v<10^(18:Int).toNat
   ·rw[Ku e2];exists s1,p1,x1;have k2:KB [p,c] H1 (upd H1 p (.lst [.ref c,.int ((j:Int)+1),.int (t+1),.int z])):=KB.set (by simp)
    have p2:upd H1 p (.lst [.ref c,.int ((j:Int)+1),.int (t+1),.int z]) p=_:=aa;have c2:upd H1 p (.lst [.ref c,.int ((j:Int)+1),.int (t+1),.int z]) c=some (.lst (iV cells)):=by rw[ae hcp];exact c1
    generalize upd H1 p (.lst [.ref c,.int ((j:Int)+1),.int (t+1),.int z])=H2 at *;refine⟨_,_,rfl,by lia,by lia,λv=>?_⟩
    nofun;exact⟨hm0,fin v H2 ⟨cells,(j:Int)+1,t+1,z,p2,c2,hn0,by lia,by lia,k63,by lia,by lia⟩ (k1.trans k2)⟩
   ·rw[Ko e2,hN];clear hN N;have xj:jO (iV cells).length (j:Int)=some j:=by rw[nB (by lia) (by rw[bF];lia)];simp
    refine ar λM hM=>?_;exists s1,c1,xj;refine⟨⟨hm0,by lia⟩,?_⟩
    rw[Di];have k2:KB [p,c] H1 (upd H1 c (.lst (iV (cells.set j (v / m))))):=KB.set (by simp)
    have c2:upd H1 c (.lst (iV (cells.set j (v / m)))) c=_:=aa;have p2:upd H1 c (.lst (iV (cells.set j (v / m)))) p=_:=(ae hcp.symm).trans p1;generalize upd H1 c (.lst (iV (cells.set j (v / m))))=H2 at *;subst hM;nofun;refine⟨hm0,fin v H2 ⟨cells.set j (v / m),j,t+1,z,p2,c2,λx hx=>?_,by lia,by rw[Mt];lia,by rw[Mt];exact k63,by lia,by lia⟩ (k1.trans k2)⟩
    rcases L5 hx with hx|rfl
    ·exact hn0 x hx
    ·exact Int.ediv_nonneg hv0 (by lia)
def Hb(l:List Nat)(a:Nat):(iV (nZ l)).eraseIdx a=iV (nZ (l.eraseIdx a)):=by
 unfold iV nZ;simp only[NJ,K7,Py,List.map_drop]
def xJ(l:List Nat)(n k:Nat):iU (iV (nZ l)) n (V.int (k:Int))=iV (nZ (iU l n k)):=by
 unfold iU iV nZ;simp only[K7,Py,List.map_drop,KA]
def cx(l:List Nat):(iV (nZ l)).length=l.length:=by rw[bF,ow]
def rG(K:W.Frag):Sp:=λvs H Q _=>∃(p dq:Addr) (m n:Nat),vs=[.ref p,.int (m:Nat)]/\bC H p dq n/\n<2^40/\2<=m/\m<=17/\∀(ls:List Int) (a:Addr) H',bC H' p dq (n+60)->KB [p,dq] H H'->H' a=some (.tup (iV ls))->ls.length=m->jq ls->mU ls=true->Q (.ref a) H'
def wL(T:Txt K mg)(F:HasFn K mg "_law_lengths" dJ ["deck","many"])(h_law_draw:ao P w K mg base aY 2 "_law_draw" ["deck","most"] e9):ao P w K mg base aY 3 "_law_lengths" ["deck","many"] (rG K):=by
 refine F.fq bT (λvs H Q E h=>?_) (λf cdv A outer s H vs Q E hr h=>?_)
 ·obtain⟨p,dq,m,n,rfl,_⟩:=h;rfl
 ·have hu:=aU hr;obtain⟨p,dq,m,n,rfl,hd,hn,hm2,hm,q⟩:=h;refine⟨_,(Z.ai (Z.se (i:=2) bT.nd (Z.lst (Z.cons Z.int Z.nil)))
   (Z.ai (Z.dO KP rfl (Z.lH rfl T.cB (Z.cons (Z.op cX (Z.v 1) Z.int) Z.nil)) (Z.aM (i:=3) bT.nd rfl (by right)) (Z.ai (Z.se (i:=4) bT.nd (Z.op (Z.aH K rfl) (Z.bm K rfl PySem.F.plainAttrs_list PySem.F.slot_list_pop PySem.F.type_list_pop y9 (Z.v 2) (Z.cons (Z.fc h_law_draw (Z.cons (Z.v 0) (Z.cons (Z.cb (Z.bB K rfl) rfl T.b7 (by decide +kernel) (Z.cons (Z.v 2) Z.nil)) Z.nil))) Z.nil)) Z.int))
   (Z.ai (Z.expr (Z.bm K rfl PySem.F.plainAttrs_list PySem.F.slot_list_insert PySem.F.type_list_insert mh (Z.v 2) (Z.cons (Z.fc h_law_draw (Z.cons (Z.v 0) (Z.cons (Z.op (Z.aH K rfl) (Z.cb (Z.bB K rfl) rfl T.b7 (by decide +kernel) (Z.cons (Z.v 2) Z.nil)) Z.int) Z.nil))) (Z.cons (Z.v 4) Z.nil))))
   (Z.av (Z.expr (Z.bm K rfl PySem.F.plainAttrs_list PySem.F.slot_list_insert PySem.F.type_list_insert mh (Z.v 2) (Z.cons (Z.fc h_law_draw (Z.cons (Z.v 0) (Z.cons (Z.op (Z.aH K rfl) (Z.cb (Z.bB K rfl) rfl T.b7 (by decide +kernel) (Z.cons (Z.v 2) Z.nil)) Z.int) Z.nil))) (Z.cons (Z.v 4) Z.nil))))))))
   (Z.ai (Z.cS (Z.aS bz (Z.fc h_law_draw (Z.cons (Z.v 0) (Z.cons Z.int Z.nil))) Z.int) (Z.ai (Z.se (i:=5) bT.nd (Z.fc h_law_draw (Z.cons (Z.v 0) (Z.cons (Z.v 1) Z.nil))))
   (Z.av (Z.asg (Z.cb (mO rfl) rfl T.C3 (by decide +kernel) (Z.cons Z.int (Z.cons (Z.op (Z.aH K rfl) (Z.op (Z.aH K rfl) (Z.ix (Z.az K rfl hu) (Z.v 2) (Z.v 5)) Z.int) (Z.fc h_law_draw (Z.cons (Z.v 0) (Z.cons Z.int Z.nil)))) Z.nil))) (Z.q_ (Z.v 2) (Z.v 5))))) Z.ba)
   (Z.av (Z.ret (Z.ct (Z.d4 K rfl) rfl T.cJ (by decide +kernel) (Z.cons (Z.v 2) Z.nil))))))),?_⟩
  refine ar λN hN=>?_;nofun;refine⟨by decide,λd hd0=>?_⟩
  obtain⟨k1,s1⟩:=e8 hd0 (.lst [.int 0]);generalize upd H d _=H1 at *;have nd:=hd.new hd0;have dp:p≠d:=λz=>nd (by simp[z])
  have ddq:dq≠d:=λz=>nd (by simp[z])
  subst hN;refine ar λN hN=>?_;nofun;refine⟨by lia,by lia,?_⟩
  have setD:∀{G:Hp} {n:Nat} {o:HO},bC G p dq n->bC (upd G d o) p dq n:=λh=>h.keep (KB.set (ex:=[d]) (by simp)) (by simpa using dp) (by simpa using ddq)
  have keep:∀{G G':Hp},KB [p,dq] H G->KB [p,dq] G G'->KB [p,dq] H G':=λa b=>a.trans b;have keepD:∀{G:Hp} {o:HO},KB [p,dq] H G->KB [p,dq] H (upd G d o):=λa b o e z=>by rw[ae (aq e hd0)];exact a b o e z
  refine bP (λi σ H'=>∃(l:List Nat) (o3 o4:Option V),Pt l/\l.length=i+1/\bC H' p dq (n+3*i)/\KB [p,dq] H H'/\H' d=some (.lst (iV (nZ l)))/\σ=[some (.ref p),some (.int (m:Nat)),some (.ref d),o3,o4,none]) ⟨[0],none,none,⟨by decide,by simp,.inl rfl⟩,rfl,hd.kb k1,k1.all,s1,rfl⟩ ?_ ?_
  ·rintro i σ H' hi ⟨l,o3,o4,hl,hli,hD,hk,gd,rfl⟩;unfold aO;refine ar λM hM=>?_;exists au gd,cx;refine⟨.inl ⟨rfl,_,a_.of gd⟩,p,dq,_,_,rfl,hD,by lia,by lia,by lia,λa H2 ha D2 k2=>?_⟩
   have ha':a<l.length:=by lia
   have hle:=l.length_eraseIdx_of_lt ha';have gd2:=k2 _ _ gd nd;have six:seqIndex? (a:Int) (iV (nZ l)).length=some a:=by
    rw[cx];unfold seqIndex?;simp;lia
   have enZ:(iV (nZ l))[a]?=some (.int ((l[a]:Nat):Int)):=by unfold iV nZ;rw[Kn,Kn,Kg ha'];rfl
   refine⟨d,_,_,a,_,rfl,rfl,gd2,by lia,by lia,six,enZ,?_⟩
   rw[Hb];have D3:=setD (o:=.lst (iV (nZ (l.eraseIdx a)))) D2;have K3:=keepD (o:=.lst (iV (nZ (l.eraseIdx a)))) (hk.trans k2);have g3:upd H2 d (.lst (iV (nZ (l.eraseIdx a)))) d=_:=aa;generalize upd H2 d (.lst (iV (nZ (l.eraseIdx a))))=H3 at *;nofun;rw[show ((l[a]:Nat):Int)+1=((l[a]+1:Nat):Int) from rfl,hM];clear hM M;refine ar λM hM=>?_;exists au g3,cx,hle;refine⟨.inl ⟨rfl,_,a_.of g3⟩,p,dq,_,_,rfl,D3,by lia,by lia,by lia,λv H4 hv D4 k4=>?_⟩
   have g4:=k4 _ _ g3 nd;refine⟨d,_,_,_,rfl,rfl,g4,by lia,by lia,Lf (show _<=20 by rw[cx];lia) (by decide),?_⟩
   rw[cx,xJ,hle];generalize hl2:iU (l.eraseIdx a) (min (v:Int).toNat (l.length-1)) (l[a]+1)=l2;have le2:l2.length=l.length:=by rw[<- hl2,AQ,hle];lia
   have pe2:l2.Perm ((l[a]+1)::l.eraseIdx a):=by rw[<- hl2];exact pF ..
   clear hl2;have D5:=setD (o:=.lst (iV (nZ l2))) D4;have K5:=keepD (o:=.lst (iV (nZ l2))) (K3.trans k4);have g5:upd H4 d (.lst (iV (nZ l2))) d=_:=aa;generalize upd H4 d (.lst (iV (nZ l2)))=H5 at *;subst hM;dsimp only;refine lh λM hM=>?_;exists au g5,cx;refine⟨.inl ⟨rfl,_,a_.of g5⟩,p,dq,_,_,rfl,D5,by lia,by lia,by lia,λv H6 hv D6 k6=>?_⟩
   have g6:=k6 _ _ g5 nd;refine⟨d,_,_,_,rfl,rfl,g6,by lia,by lia,Lf (show _<=20 by rw[cx];lia) (by decide),?_⟩
   rw[cx,xJ];obtain⟨hP3,hL3⟩:=hl.next ha' (by lia) ((pF l2 (min (v:Int).toNat l2.length) (l[a]+1)).trans (List.Perm.cons _ pe2))
   rw[hM];exact⟨_,some _,some _,hP3,by lia,(setD D6).mono (by lia),keepD (K5.trans k6),aa,rfl⟩
  ·rintro σ H' ⟨l,o3,o4,hl,hli,hD,hk,gd,rfl⟩;have hlm:l.length=m:=by lia
   show N _ _;subst hN;have h1:∀x∈l,1<=x:=by
    rcases hl.one with e|e
    ·exfalso;rw[e] at hlm;simp at hlm;lia
    ·exact e
   have fin:∀(l:List Nat) (G:Hp),G d=some (.lst (iV (nZ l)))->KB [p,dq] H G->l.length=m->(∀x∈l,1<=x/\x<=20)->Kr.ks 40 l<=2^40->bC G p dq (n+60)->∀t,G t=none->Q (.ref t) (upd G t (.tup (iV (nZ l)))):=λl G hg hK a b c e t ht=>by
    refine q (nZ l) t _ (e.kb (KB.new ht)) (hK.trans (KB.new ht)) aa (by rw[ow];exact a) ⟨by rw[ow];lia,by rw[ow];lia,λx hx=>?_⟩ (E4 c)
    obtain⟨y,hy,rfl⟩:=Ll.mp hx;have:=b y hy;exact⟨by lia,by lia⟩
   refine ar λN hN=>?_;nofun;refine⟨p,dq,2,_,rfl,hD,by lia,by decide,by decide,λv H2 hv D2 k2=>?_⟩
   have g2:=k2 _ _ gd nd;by_cases c:(v:Int)=0
   ·exists Ku c;refine⟨p,dq,(m:Nat),_,rfl,D2,by lia,by lia,by lia,λa H3 ha D3 k3=>?_⟩
    have g3:=k3 _ _ g2 nd;have ha':a<l.length:=by lia
    have ea:bS (iV (nZ l)) (a:Int)=some (.int ((l[a]:Nat):Int)):=bw (by unfold iV nZ;rw[Kn,Kn,Kg ha'];rfl)
    exists au g3,ea;refine⟨p,dq,5,_,rfl,D3,by lia,by decide,by decide,λv H4 hv D4 k4=>?_⟩
    have g4:=k4 _ _ g3 nd;obtain⟨nz,enz,hnz⟩:∃nz:Nat,(if ((l[a]:Nat):Int)+1+(v:Int)<20 then ((l[a]:Nat):Int)+1+(v:Int) else 20)=(nz:Int)/\l[a]<=nz/\nz<=20:=by
     have:=hl.le _ (K9 ha');by_cases c:((l[a]:Nat):Int)+1+(v:Int)<20
     ·rw[Ku c];exact⟨l[a]+1+v,by lia,by lia,by lia⟩
     ·rw[Ko c];exact⟨20,rfl,by lia,by lia⟩
    have ei:jO (iV (nZ l)).length (a:Int)=some a:=by rw[cx,nB (by lia) (by lia)];simp
    exists enz,g4,ei;have es:(iV (nZ l)).set a (.int (nz:Int))=iV (nZ (l.set a nz)):=by unfold iV nZ;rw[MW,MW]
    rw[es];have D5:=setD (o:=.lst (iV (nZ (l.set a nz)))) D4;have K5:=keepD (o:=.lst (iV (nZ (l.set a nz)))) ((hk.trans k2).trans (k3.trans k4));have g5:upd H4 d (.lst (iV (nZ (l.set a nz)))) d=_:=aa;generalize upd H4 d (.lst (iV (nZ (l.set a nz))))=H5 at *;subst hN;exists au g5;refine fin _ H5 g5 K5 (by rw[Mt];exact hlm) (λx hx=>?_) (Km (zL ha' hnz.1) (P0 hl.ks)) (D5.mono (by lia))
    rcases L5 hx with hx|rfl
    ·exact⟨h1 x hx,by have:=hl.le x hx;lia⟩
    ·exact⟨by have:=h1 _ (K9 ha');lia,hnz.2⟩
   ·exists Ko c;subst hN;exists au g2;exact fin l H2 g2 (hk.trans k2) hlm (λx hx=>⟨h1 x hx,by have:=hl.le x hx;lia⟩) (P0 hl.ks) (D2.mono (by lia))
def CV(K:W.Frag):Sp:=λvs H Q _=>∃(a:Addr) (ls:List Int),vs=[.ref a]/\(H a=some (.tup (iV ls))\/H a=some (.lst (iV ls)))/\jq ls/\∀H',KB [] H H'->Q (.bl (mU ls)) H'
def rq(h:H a=some (.tup xs)\/H a=some (.lst xs)):∃b,sq H a=some (b,xs):=h.elim (λh=>⟨_,aF h⟩) λh=>⟨_,au h⟩
def w_(ha:H a=some (.tup (iV ls))\/H a=some (.lst (iV ls)))(hn:ls.length<64)(q:∀ns':List Int,ns'.Perm ls->ns'.Pairwise (·<=·)->∀l,H l=none->Q (.ref l) (upd H l (.lst (ns'.map V.int)))):Y.zP K [.ref a] H Q:=ha.elim (λh=>.inl ⟨a,ls,rfl,bu.of h,hn,q⟩) λh=>.inr ⟨a,ls,rfl,a_.of h,hn,q⟩
def Ex(T:Txt K mg)(F:HasFn K mg "can_be" j_ ["lengths"]):ao P w K mg base aY 1 "can_be" ["lengths"] (CV K):=by
 refine F.fq cg (λvs H Q E h=>?_) (λf cdv A outer s H vs Q E hr h=>?_)
 ·obtain⟨a,ls,rfl,_⟩:=h;rfl
 ·have hu:=aU hr;obtain⟨a,ls,rfl,ha,hL,q⟩:=h;refine⟨_,(Z.ai (Z.se (i:=1) cg.nd Z.int)
   (Z.ai (Z.se (i:=2) cg.nd Z.int)
   (Z.ai (Z.se (i:=3) cg.nd (Z.cb (Z.bB K rfl) rfl T.b7 (by decide +kernel) (Z.cons (Z.v 0) Z.nil)))
   (Z.ai (Z.dO KP rfl (Z.any K rfl (Z.cb (Y.r_ K rfl) rfl T.kO (by decide +kernel) (Z.cons (Z.v 0) Z.nil))) (Z.aM (i:=4) cg.nd rfl (by right)) (Z.ai (Z.cS (Z.aS bz (Z.v 1) Z.int) (Z.av (Z.ret Z.bl)) Z.ba)
   (Z.ai (Z.r8 KP (Z.tw (Z.Dq (Z.aS iE (Z.v 2) (Z.v 4)) (Z.xD (Z.aS iE (Z.v 1) (Z.v 3))))) (Z.ai (Z.se (i:=1) cg.nd (Z.op bX (Z.v 1) Z.int))
   (Z.av (Z.se (i:=2) cg.nd (Z.op (Z.aH K rfl) (Z.v 2) Z.int)))))
   (Z.ai (Z.cS (Z.aS yW (Z.v 1) (Z.v 3)) (Z.av (Z.ret Z.bl)) Z.ba)
   (Z.ai (Z.se (i:=1) cg.nd (Z.op cX (Z.v 1) Z.int))
   (Z.av (Z.se (i:=3) cg.nd (Z.op cX (Z.v 3) Z.int))))))))
   (Z.av (Z.ret Z.bl)))))),?_⟩
  refine ar λN hN=>?_;nofun;subst hN;refine ar λN hN=>?_;nofun;subst hN;obtain⟨kd,hsq⟩:=rq ha;refine ar λN hN=>?_;exists hsq;subst hN;refine ar λN hN=>?_;nofun;refine w_ ha (by have:=hL.2.1;lia) λrs hp hs l hl=>?_
  obtain⟨k1,s1⟩:=e8 hl (.lst (rs.map V.int));generalize upd H l _=H1 at *;simp only[au s1];refine gn (xs:=iV rs) (λi σ H'=>∃(f d n:Int) (s4:Option V),H1=H'/\(∀x∈rs.drop i,1<=x/\x<=40/\d<=x)/\0<=f/\0<=d/\n=(rs.drop i).length/\(mU ls=true ↔ Kr.fit ((rs.drop i).map Int.toNat) f.toNat d.toNat 40)/\σ=[some (.ref a),some (.int f),some (.int d),some (.int n),s4]) ⟨1,0,_,none,rfl,λx hx=>by have:=hL.2.2 x (hp.mem_iff.mp hx);lia,by decide,by decide,by rw[LI,hp.length_eq,bF],?_,rfl⟩ ?_ ?_ ?_
  ·unfold mU KS Kr.fit;rw[MQ,LI,Kr.ig (hp.map Int.toNat),show (1:Int).toNat*2^(40-(0:Int).toNat)=2^40 from rfl]
  ·rintro i σ H' _ ⟨f,d,n,s4,rfl,_⟩;exact a_.of s1
  ·rintro i x σ H' hx ⟨f,d,n,s4,rfl,hb,f0,d0,hn,hi,rfl⟩;obtain⟨hir,rfl⟩:=jM hx;have ed:=LL hir;have hs2:(rs.drop i).Pairwise (·<=·):=List.Pairwise.drop hs;rw[ed] at hb hn hi hs2;generalize rs[i]=l at *;generalize rs.drop (i+1)=r at *;obtain⟨hl1,hl2,hl3⟩:=hb l (by simp)
   have hle:∀x∈r,l<=x:=(K_.mp hs2).1;unfold aO;refine ar λM hM=>?_;by_cases hf:f=0
   ·exists Ku hf;have:mU ls=false:=by
     cases c:mU ls with
     |false=>rfl
     |true=>have:=hi.mp c;rw[hf] at this;exact absurd this Kr.wA
    rw[this] at q;exact q _ k1
   ·exists Ko hf;subst hM;refine ar λM hM=>?_;refine⟨λm σ H'=>H1=H'/\∃f d:Int,0<f/\0<=d/\d<=l/\m=(l-d).toNat/\(mU ls=true ↔ Kr.fit ((l::r).map Int.toNat) f.toNat d.toNat 40)/\σ=[some (.ref a),some (.int f),some (.int d),some (.int n),some (.int l)],⟨_,rfl,f,d,by lia,d0,hl3,rfl,hi,rfl⟩,?_⟩
    rintro m σ H' ⟨rfl,f,d,f0,d0,dl,rfl,hi,rfl⟩;have after:(d=l\/n<=f)->M [some (.ref a),some (.int f),some (.int d),some (.int n),some (.int l)] H1:=λhc=>by
     subst hM;refine ar λM hM=>?_;by_cases h3:n<=f
     ·exists Ku h3;have:mU ls=true:=hi.mpr (Kr.sH (λx hx=>by
       obtain⟨y,hy,rfl⟩:=Ll.mp hx;rcases Kv.mp hy with rfl|hy
       ·lia
       ·have:=hle y hy;lia) (by rw[Ki];lia))
      rw[this] at q;exact q _ k1
     ·exists Ko h3;subst hM;refine ar λM hM=>?_;nofun;subst hM;refine lh λM hM=>?_;nofun;rw[hM];have hd:d=l:=hc.resolve_right h3;subst hd;refine⟨f-1,d,n-1,some _,rfl,λx hx'=>⟨(hb x (by simp[hx'])).1,(hb x (by simp[hx'])).2.1,hle x hx'⟩,by lia,d0,by rw[hn,K2];lia,?_,rfl⟩
      rw[hi,KA,Kr.xV (by lia),show (f-1).toNat=f.toNat-1 by lia]
    by_cases c1:d<l
    ·by_cases c2:f<n
     ·exists Ku c1,Ku c2;refine⟨λσ' H'=>∃m',m'<(l-d).toNat/\(H1=H'/\∃f d:Int,0<f/\0<=d/\d<=l/\m'=(l-d).toNat/\(mU ls=true ↔ Kr.fit ((l::r).map Int.toNat) f.toNat d.toNat 40)/\σ'=[some (.ref a),some (.int f),some (.int d),some (.int n),some (.int l)]),λ_ _ h=>h,?_⟩;refine⟨.inr (by decide),?_⟩
      refine⟨_,?_,rfl,f*2,d+1,by lia,by lia,by lia,rfl,?_,rfl⟩
      ·lia
      ·rw[hi,Kr.sN (l:=l.toNat) (by lia) (by lia),show (f*2).toNat=f.toNat*2 by lia,show (d+1).toNat=d.toNat+1 by lia]
     ·exists Ku c1,Ko c2;exact after (.inr (by lia))
    ·exists Ko c1;exact after (.inl (by lia))
  ·rintro σ H' ⟨f,d,n,s4,rfl,_,_,_,_,hi,rfl⟩;rw[bF,Mn] at hi;show N _ _;subst hN;nofun;have:mU ls=true:=hi.mpr (K4 _);rw[this] at q;exact q _ k1
def JA:Option (List Nat)->V
 |none=>.aI
 |some w=>.str (wd w)
def ot(ws:List (List Nat)):(wV ws).length=ws.length:=Ki ..
def xM(K:W.Frag):Sp:=λvs H Q _=>∃(a:Addr) (ls:List Int),vs=[.ref a]/\H a=some (.tup (iV ls))/\jq ls/\mU ls=true/\∀b H',KB [] H H'->H' b=some (.tup (wV (wordsOf Cw.dG ls)))->Q (.ref b) H'
def Bt(T:Txt K mg)(F:HasFn K mg "code_of" c_ ["lengths"])(hcan_be:ao P w K mg base aY 1 "can_be" ["lengths"] (CV K))(hword_behind:ao P w K mg base aY 1 "word_behind" ["ahead","length"] HM):ao P w K mg base aY 4 "code_of" ["lengths"] (xM K):=by
 obtain⟨c,Pt,htab,hcc⟩:=T.pH.ex;refine F.IG dI (λvs H Q E h=>?_) (λf cdv A outer s H vs Q E hr hm fJ h=>?_)
 ·obtain⟨a,ls,rfl,_⟩:=h;rfl
 ·have:=hcc _ _ ⟨hm,fJ⟩;subst this;have hu:=aU hr;obtain⟨a,ls,rfl,ha,hL,ho,q⟩:=h;refine⟨_,(Z.ai (Z.cS (Z.xP (Z.qK K rfl (Z.fc hcan_be (Z.cons (Z.v 0) Z.nil)))) (Z.av Z.Ke) Z.ba)
   (Z.ai (Z.sec (j:=1) dI.nd (osc:=af c_) (ON:=["lengths","words","ahead","thing"]) (own:=["length"]) (N:=["length","lengths","words","ahead","thing"]) (aA.of rfl (by decide +kernel)) (Z.any K rfl (Z.v 0)) (λnd _ _ _ _=>(Z.aM (i:=0) nd rfl (by right))) (λ_ _ _ _=>Z.tF) (λ_ _ _ _=>Z.str))
   (Z.ai (Z.se (i:=2) dI.nd Z.aI)
   (Z.ai (Z.dO KP rfl (Z.any K rfl (Z.HD (k:=0) (j:=0) K rfl (by decide) htab rfl rfl rfl rfl rfl T.kO (Z.cons (Z.ct Y.pC rfl T.cB (by decide +kernel) (Z.cons (Z.cb (Z.bB K rfl) rfl T.b7 (by decide +kernel) (Z.cons (Z.v 0) Z.nil)) Z.nil)) Z.nil) (hr.mono (by decide)) rfl (by decide) rfl rfl rfl rfl rfl rfl rfl (λ_ _ _ _=>rfl))) (Z.aM (i:=3) dI.nd rfl (by right)) (Z.ai (Z.asg (Z.fc hword_behind (Z.cons (Z.v 2) (Z.cons (Z.ix (Z.az K rfl hu) (Z.v 0) (Z.v 3)) Z.nil))) (Z.q_ (Z.v 1) (Z.v 3)))
   (Z.av (Z.se (i:=2) dI.nd (Z.ix (Z.az K rfl hu) (Z.v 1) (Z.v 3))))))
   (Z.av (Z.ret (Z.ct (Z.d4 K rfl) rfl T.cJ (by decide +kernel) (Z.cons (Z.v 1) Z.nil)))))))),?_⟩
  refine ar λN hN=>?_;nofun;refine⟨a,ls,rfl,.inl ha,hL,λH1 k1=>?_⟩;exists ho,Bool.not_true;rw[Ko (λz=>Bool.noConfusion z),hN];clear hN N;have ha1:=k1.n ha;refine ar λN hN=>?_;exists aF ha1;refine d5 (xs:=iV ls) (Km (show _<=20 by rw[bF];exact hL.2.1) (by decide)) (λD i ys H'=>H' D=some (.lst ys)/\ys=wV (List.replicate i [])/\KB [] H1 H'/\H1 D=none) (λD hD=>⟨aa,rfl,KB.new hD,hD⟩) (λD i ys H' h=>⟨h.1,by rw[h.2.1,ot,K6]⟩) (λD i ys H' h=>bu.of (h.2.2.1 _ _ ha1 (by simp))) ?_ ?_
  ·rintro D i ys H' x R hx ⟨g1,rfl,g3,g4⟩ kk;nofun;refine kk _ _ g1 ⟨aa,?_,λb o e _=>?_,g4⟩
   ·rw[List.replicate_succ',wV,wV,K7];rfl
   ·rw[ae (aq e g4)];exact g3 b o e (by simp)
  rintro D ys H2 ⟨g1,rfl,g3,g4⟩;rw[bF] at g1;show N _ _;subst hN;refine ar λN hN=>?_;nofun;subst hN;have h02:=k1.trans g3;have D0:H D=none:=k1.free (by simp) g4
  have ha2:=h02.n ha;refine ar λN hN=>?_;exists aF ha2;refine .inl ⟨_,rfl,λr hr0=>?_⟩;have k3:KB [] H2 (upd H2 r (.lJ 0 ((iV ls).length:Nat))):=KB.new hr0;have s3:upd H2 r (.lJ 0 ((iV ls).length:Nat)) r=some (.lJ 0 (ls.length:Nat)):=by rw[aa,bF]
  generalize upd H2 r (.lJ 0 ((iV ls).length:Nat))=H3 at *;have le:(jW ls.length).length=ls.length:=by rw[Ki,KZ]
  have ha3:=k3.n ha2;refine⟨r,jW ls.length,ls,rfl,⟨ls.length,s3,rfl⟩,le.symm,by rw[le];have:=hL.2.1;lia,λi v k e1 e2 H' g=>?_,λH4 l g hl=>?_⟩
  ·have hi:i<ls.length:=(Kl.mp e2).1;have e3:(jW ls.length)[i]?=some (.int (i:Int)):=by simp[hi]
   rw[e3] at e1;cases e1;exact⟨_,a,iV ls,rfl,rfl,bu.of (g.same _ _ ha3),bw (by unfold iV;rw[Kn,e2];rfl)⟩
  have eo:js ls (jW ls.length)=(aC ls).map λk=>V.int ((k:Nat):Int):=Cj ..;rw[eo];have k4:KB [] H3 (upd H4 l (.lst ((aC ls).map λk=>V.int ((k:Nat):Int)))):=λb o e _=>by rw[ae (aq (g.same _ _ e) hl)];exact g.same _ _ e
  have s4:upd H4 l (.lst ((aC ls).map λk=>V.int ((k:Nat):Int))) l=_:=aa;have gD4:=k4.n (k3.n g1);have lD:l≠D:=λz=>by
   have:=g.same _ _ (k3.n g1);rw[<- z,hl] at this;cases this
  generalize upd H4 l (.lst ((aC ls).map λk=>V.int ((k:Nat):Int)))=H5 at *;have h05:KB [] H H5:=h02.trans (k3.trans k4);have a5:a≠D:=λz=>by rw[z,D0] at ha;cases ha
  clear k3 k4 g hl hr0 s3 ha3 le eo g1 h02 ha2 g3 g4 ha1 k1;refine gn (xs:=(aC ls).map λk=>V.int ((k:Nat):Int)) (λi σ H'=>∃o:Option V,i<=(aC ls).length/\(∀v,(fh ls ((aC ls).take i)).1=some v->v.length<=40)/\H' D=some (.lst (wV (fh ls ((aC ls).take i)).2))/\H' l=some (.lst ((aC ls).map λk=>V.int ((k:Nat):Int)))/\KB [] H H'/\σ=[some (.ref a),some (.ref D),some (JA (fh ls ((aC ls).take i)).1),o]) ⟨none,K4 _,(λv z=>by cases z),gD4,s4,h05,rfl⟩ (λi σ H' _ h=>by obtain⟨o,_,_,_,h,_⟩:=h;exact a_.of h) ?_ ?_
  ·rintro i x σ H' hx ⟨o,hi,hw,gD,gl,h0,rfl⟩;have hio:i<(aC ls).length:=by have:=(Kl.mp hx).1;rw[Ki] at this;exact this
   obtain rfl:x=.int (((aC ls)[i]:Nat):Int):=by
    rw[Kn,Kg hio] at hx;exact (Option.some.inj hx).symm
   have hth:(aC ls)[i]<ls.length:=ic (K9 hio);have eT:(aC ls).take (i+1)=(aC ls).take i++[(aC ls)[i]]:=by rw[L6,Kg hio];rfl
   rw[eT];generalize (aC ls)[i]=th at *;generalize (aC ls).take i=done at *;have ex:bS (iV ls) (th:Int)=some (.int ls[th]):=lY hth;have hlt:=hL.2.2 _ (K9 hth);have en:ls[th]=((aP ls th:Nat):Int):=by
    unfold aP;rw[Ks,Kg hth];simp;lia
   have hn20:aP ls th<=40:=by lia
   have eD:fh ls (done++[th])=Cw.along Cw.dG (aP ls) [th] (fh ls done):=Cw.fv _ _ _;have hwl:(fh ls done).2.length=ls.length:=FU ls done;have gt:=aF (h0.n ha);obtain⟨n,hn⟩:∃n,aP ls th=n:=⟨_,rfl⟩;rw[hn] at en hn20;have fin:∀y:List Nat,y.length<=40->fh ls (done++[th])=(some y,(fh ls done).2.set th y)->∀M,M=(λσ H'=>∃o:Option V,i+1<=(aC ls).length/\(∀v,(fh ls (done++[th])).1=some v->v.length<=40)/\H' D=some (.lst (wV (fh ls (done++[th])).2))/\H' l=some (.lst ((aC ls).map λk=>V.int ((k:Nat):Int)))/\KB [] H H'/\σ=[some (.ref a),some (.ref D),some (JA (fh ls (done++[th])).1),o])->M [some (.ref a),some (.ref D),some (.str (wd y)),some (.int (th:Nat))] (upd H' D (.lst ((wV (fh ls done).2).set th (.str (wd y))))):=λy hy e M hM=>by
    rw[hM,e];refine⟨some _,hio,λv z=>by cases z;exact hy,?_,by rw[ae lD];exact gl,λb u e _=>by rw[ae (aq e D0)];exact h0.n e,rfl⟩
    rw[aa];unfold wV;rw[MW]
   have xk:jO (wV (fh ls done).2).length (th:Int)=some th:=by rw[nB (by lia) (by rw[ot,hwl];lia),KU]
   have setI:∀y:List Nat,bS ((wV (fh ls done).2).set th (.str (wd y))) (th:Int)=some (.str (wd y)):=λy=>bw (Mo (by rw[ot,hwl];exact hth))
   unfold aO;refine ar λM hM=>?_;exists gt,ex
   cases hs:(fh ls done).1 with
   |none =>
    refine⟨n,hn20,.inl ⟨by rw[en];rfl,?_⟩⟩
    exists gD,xk;subst hM;dsimp only;refine lh λM hM=>?_;exists setI;refine fin _ (by rw[List.length_replicate];exact hn20) ?_ M hM
    rw[eD];generalize fh ls done=st at *;obtain⟨x,ws⟩:=st;obtain rfl:x=none:=hs;subst hn;rfl
   |some v =>
    refine⟨n,hn20,.inr ⟨v,by rw[en];rfl,hw v hs,?_⟩⟩
    exists gD,xk;subst hM;dsimp only;refine lh λM hM=>?_;exists setI;refine fin _ (t6 (hw v hs) hn20) ?_ M hM;rw[eD];generalize fh ls done=st at *;obtain⟨x,ws⟩:=st;obtain rfl:x=some v:=hs;subst hn;rfl
  ·rintro σ H' ⟨o,_,_,gD,_,h0,rfl⟩;rw[Ki,Lq] at gD;show N _ _;subst hN;exists au gD;exactλb hb=>q b _ (h0.trans (KB.new hb)) aa
def BZ(H:Hp)(ca:Addr)(cd:List (List (List Nat))):Prop:=∃a0 a1 a2,H ca=some (.lst [.ref a0,.ref a1,.ref a2])/\H a0=some (.tup (wV (cd.getD 0 [])))/\H a1=some (.tup (wV (cd.getD 1 [])))/\H a2=some (.tup (wV (cd.getD 2 [])))
def BZ.keep{ca:Addr}{cd:List (List (List Nat))}(h:BZ H ca cd)(k:KB ex H H')(n:ca∉ex)(hx:∀b∈ex,∀xs,H b≠some (.tup xs)):BZ H' ca cd:=by
 obtain⟨a0,a1,a2,h1,h2,h3,h4⟩:=h;exact⟨a0,a1,a2,k _ _ h1 n,k _ _ h2 λz=>hx _ z _ h2,k _ _ h3 λz=>hx _ z _ h3,k _ _ h4 λz=>hx _ z _ h4⟩
def BZ.kb{ca:Addr}{cd:List (List (List Nat))}(h:BZ H ca cd)(k:KB [] H H'):BZ H' ca cd:=h.keep k (by simp) (by simp)
def Il(H:Hp)(v:V):Option (PV×Nat)->Prop
 |none=>v=.aI
 |some x=>∃t,v=.ref t/\H t=some (.tup [x.1.v x.2,.int (x.2:Nat)])
def Gk{b:Nat}(h:b<8):bS [V.str "a",.str "b",.str "c",.str "d",.str "e",.str "f",.str "g",.str "h"] (b:Int)=some (.str (d8 b)):=by
 show bS (HX.map V.str) (b:Int)=_;exact bw (by rw[Kn,(Ek h).1];rfl)
def pY(K:W.Frag):Sp:=λvs H Q _=>∃(ca:Addr) (cd:List (List (List Nat))) (z:List Nat) (p:Nat) (k:Kd),vs=[.str k.s,.ref ca,.str (wd z),.int (p:Nat)]/\BZ H ca cd/\n5 cd/\cH z/\z.length<=1000000/\∀v H',KB [] H H'->Il H' v (u7 cd z p k)->Q v H'
def vg(T:Txt K mg)(F:HasFn K mg "part_at" iM ["kind","codes","bits","place"])(hcoded_at:ao P w K mg base aY 2 "coded_at" ["code","bits","place"] (ie K))(hnumber_at:ao P w K mg base aY 3 "number_at" ["code","bits","place"] (sT K))(hgoal_at:ao P w K mg base aY 3 "goal_at" ["bits","place"] (oM K)):ao P w K mg base aY 4 "part_at" ["kind","codes","bits","place"] (pY K):=by
 obtain⟨u1,hg_OF_CLASSES,hr_OF_CLASSES⟩:=T.nW;obtain⟨u2,hg_OF_BOXES,hr_OF_BOXES⟩:=T.qQ;obtain⟨aB,hg_BOXES,sB⟩:=T.A6;have hr_BOXES:RelV (.ref aB) (.ref aB):=rfl;refine F.fq kQ (λvs H Q E h=>?_) (λf cdv A outer s H vs Q E hr h=>?_)
 ·obtain⟨ca,cd,z,p,k,rfl,_⟩:=h;rfl
 ·have hu:=aU hr;obtain⟨ca,cd,z,p,k,rfl,hc,hR,hb,hz,q⟩:=h;refine⟨_,(Z.ai (Z.cS (Z.aS bz (Z.v 0) Z.str) (Z.av (Z.ret (Z.fc hnumber_at (Z.cons (Z.ix (Z.az K rfl hu) (Z.v 1) (Z.glob rfl hg_OF_CLASSES hr_OF_CLASSES)) (Z.cons (Z.v 2) (Z.cons (Z.v 3) Z.nil)))))) Z.ba)
   (Z.ai (Z.cS (Z.aS bz (Z.v 0) Z.str) (Z.av (Z.ret (Z.fc hgoal_at (Z.cons (Z.v 2) (Z.cons (Z.v 3) Z.nil))))) Z.ba)
   (Z.ai (Z.se (i:=4) kQ.nd (Z.fc hcoded_at (Z.cons (Z.ix (Z.az K rfl hu) (Z.v 1) (Z.glob rfl hg_OF_BOXES hr_OF_BOXES)) (Z.cons (Z.v 2) (Z.cons (Z.v 3) Z.nil)))))
   (Z.av (Z.ret (Z.Iu (Z.aS bY (Z.v 4) Z.aI) Z.aI (Z.tup (Z.cons (Z.ix (Z.oY K rfl) (Z.glob rfl hg_BOXES hr_BOXES) (Z.ix (Z.az K rfl hu) (Z.v 4) Z.int)) (Z.cons (Z.ix (Z.az K rfl hu) (Z.v 4) Z.int) Z.nil))))))))),?_⟩
  obtain⟨c0,c1,c2,rfl,l0,l1,l2⟩:=hR.fJ.ex;have n1:=(hR.pf c1 (by simp)).ne
  have n2:=(hR.pf c2 (by simp)).ne
  obtain⟨a0,a1,a2,g,g0,g1,g2⟩:=hc;have sg:=au g;refine ar λN hN=>?_
  cases k with
  |box =>
   replace q:∀v H',KB [] H H'->Il H' v ((iJ c2 z p).map λx=>(.box x.1,x.2))->Q v H':=q
   exists Ko (by decide +kernel:¬ Kd.s .box=Str.ofString "number")
   subst hN;refine ar λN hN=>?_;exists Ko (by decide +kernel:¬ Kd.s .box=Str.ofString "goal")
   subst hN;refine ar λN hN=>?_;exists sg;refine⟨a2,c2,z,p,rfl,bu.of g2,n2,by lia,hz,λv H1 k1 o1=>?_⟩
   subst hN
   cases c:iJ c2 z p with
   |none =>
    rw[c] at q o1;obtain rfl:v=.aI:=o1;nofun;exact q _ _ k1 rfl
   |some x =>
    rw[c] at q o1;have hb:=(eA n2 c).1;obtain⟨t,rfl,ht⟩:=o1;exists Ko (show ¬ V.ref t=V.aI from V.noConfusion),aF ht;refine⟨aB,_,_,_,rfl,rfl,sB H1,Gk (show x.1<8 by lia),?_⟩
    exists aF ht;exact⟨by decide,λb2 hb2=>q _ _ (k1.trans (KB.new hb2)) ⟨b2,rfl,aa⟩⟩
  |num =>
   replace q:∀v H',KB [] H H'->Il H' v ((yp c1 z p).map λx=>(.num x.1,x.2))->Q v H':=q
   exists Ku (show Kd.s .num=Str.ofString "number" from rfl),sg;refine⟨a1,c1,z,p,rfl,bu.of g1,n1,by lia,hb,hz,λv H1 k1 o1=>q v H1 k1 ?_⟩
   cases c:yp c1 z p with
   |none=>rw[c] at o1;exact o1
   |some x=>rw[c] at o1;exact o1
  |go =>
   replace q:∀v H',KB [] H H'->Il H' v ((gA z p).map λx=>(.go x.1,x.2))->Q v H':=q
   exists Ko (by decide +kernel:¬ Kd.s .go=Str.ofString "number")
   subst hN;refine ar λN hN=>?_;exists Ku (show Kd.s .go=Str.ofString "goal" from rfl);refine⟨z,p,rfl,hb,hz,λv H1 k1 o1=>q v H1 k1 ?_⟩
   cases c:gA z p with
   |none=>rw[c] at o1;exact o1
   |some x=>rw[c] at o1;exact o1
def Jp(H:Hp)(v:V):Option (RW×Nat)->Prop
 |none=>v=.aI
 |some x=>∃t r,v=.ref t/\H t=some (.tup [.ref r,.int (x.2:Nat)])/\H r=some (.tup x.1.v)
def nR(K:W.Frag):Sp:=λvs H Q _=>∃(ca:Addr) (cd:List (List (List Nat))) (z:List Nat) (p:Int),vs=[.ref ca,.str (wd z),.int p]/\BZ H ca cd/\n5 cd/\cH z/\z.length<=1000000/\∀v H',KB [] H H'->Jp H' v (Iv cd z p)->Q v H'
def ij:=dc
def zd(T:Txt K mg)(F:HasFn K mg "row_at" jF ["codes","bits","place"])(hcoded_at:ao P w K mg base aY 2 "coded_at" ["code","bits","place"] (ie K))(hpart_at:ao P w K mg base aY 4 "part_at" ["kind","codes","bits","place"] (pY K)):ao P w K mg base aY 5 "row_at" ["codes","bits","place"] (nR K):=by
 obtain⟨u1,hg_OF_WORDS,hr_OF_WORDS⟩:=T.sO;obtain⟨dS,hg_SHAPES,hd0⟩:=T.pP;have hd_SHAPES:lG K dS ij:=hd0;have hr_SHAPES:RelV (.ref dS) (.ref dS):=rfl;clear hd0;refine F.fq cG (λvs H Q E h=>?_) (λf cdv A outer s H vs Q E hr h=>?_)
 ·obtain⟨ca,cd,z,p,rfl,_⟩:=h;rfl
 ·have hu:=aU hr;obtain⟨ca,cd,z,p,rfl,hc,hR,hb,hz,q⟩:=h;refine⟨_,(Z.ai (Z.cS (Z.aS iE (Z.v 2) Z.int) (Z.av (Z.ret Z.aI)) Z.ba)
   (Z.ai (Z.se (i:=3) cG.nd (Z.fc hcoded_at (Z.cons (Z.ix (Z.az K rfl hu) (Z.v 0) (Z.glob rfl hg_OF_WORDS hr_OF_WORDS)) (Z.cons (Z.v 1) (Z.cons (Z.v 2) Z.nil)))))
   (Z.ai (Z.cS (Z.aS bY (Z.v 3) Z.aI) (Z.av (Z.ret Z.aI)) Z.ba)
   (Z.ai (Z.se (i:=4) cG.nd (Z.ix (Z.az K rfl hu) (Z.ct (qT (D:=ij) K rfl rfl) rfl T.yJ (by decide +kernel) (Z.cons (Z.glob rfl hg_SHAPES hr_SHAPES) Z.nil)) (Z.ix (Z.az K rfl hu) (Z.v 3) Z.int)))
   (Z.ai (Z.se (i:=5) cG.nd (Z.lst (Z.cons (Z.v 4) Z.nil)))
   (Z.ai (Z.se (i:=6) cG.nd (Z.ix (Z.az K rfl hu) (Z.v 3) Z.int))
   (Z.ai (Z.dO KP rfl (Z.seq K rfl (Z.JH K rfl rfl hg_SHAPES hd_SHAPES (Z.v 4))) (Z.aM (i:=7) cG.nd rfl (by right)) (Z.ai (Z.se (i:=8) cG.nd (Z.fc hpart_at (Z.cons (Z.v 7) (Z.cons (Z.v 0) (Z.cons (Z.v 1) (Z.cons (Z.v 6) Z.nil))))))
   (Z.ai (Z.cS (Z.aS bY (Z.v 8) Z.aI) (Z.av (Z.ret Z.aI)) Z.ba)
   (Z.ai (Z.expr (Z.app K (Z.v 5) (Z.cons (Z.ix (Z.az K rfl hu) (Z.v 8) Z.int) Z.nil)))
   (Z.av (Z.se (i:=6) cG.nd (Z.ix (Z.az K rfl hu) (Z.v 8) Z.int)))))))
   (Z.av (Z.ret (Z.tup (Z.cons (Z.ct (Z.d4 K rfl) rfl T.cJ (by decide +kernel) (Z.cons (Z.v 5) Z.nil)) (Z.cons (Z.v 6) Z.nil)))))))))))),?_⟩
  refine ar λN hN=>?_;by_cases hp:p<0
  ·unfold Iv at q;rw[Ku hp] at q;exists Ku hp;exact q _ _ (KB.refl _ _) rfl
  obtain⟨p,rfl⟩:∃p':Nat,p=(p':Int):=⟨p.toNat,by lia⟩
  rw[sX] at q;exists Ko hp;subst hN;refine ar λN hN=>?_;obtain⟨c0,c1,c2,rfl,l0,l1,l2⟩:=hR.fJ.ex;have n0:=(hR.pf c0 (by simp)).ne
  have hc':=hc;obtain⟨a0,a1,a2,g,g0,g1,g2⟩:=hc';exists au g;refine⟨a0,c0,z,p,rfl,bu.of g0,n0,by lia,hz,λv H1 k1 o1=>?_⟩
  subst hN;refine ar λN hN=>?_;unfold zY at q
  replace q:∀v H',KB [] H H'->Jp H' v ((iJ c0 z p).bind λx=>(je [c0,c1,c2] z (wC x.1) x.2).map λy=>(⟨x.1,y.1⟩,y.2))->Q v H':=q
  cases c:iJ c0 z p with
  |none =>
   rw[c] at q o1;obtain rfl:v=.aI:=o1;nofun;exact q _ _ k1 rfl
  |some x =>
   rw[c] at q o1;obtain⟨wi,e⟩:=x;have h9:wi<9:=by have:=(eA n0 c).1;dsimp only at this;lia
   replace q:∀v H',KB [] H H'->Jp H' v ((je [c0,c1,c2] z (wC wi) e).map λy=>(⟨wi,y.1⟩,y.2))->Q v H':=q
   obtain⟨t,rfl,ht⟩:=o1;dsimp only at ht;exists if_neg (show ¬ V.ref t=V.aI from V.noConfusion);subst hN;refine ar λN hN=>?_;have ak:bS (ij.map λp=>V.str p.1) (wi:Int)=some (.str (b8.getD wi (Str.ofString ""))):=bw (by
    show (b8.map V.str)[wi]?=_;rw[Kn,Ks,Kg (show wi<b8.length from h9)];rfl)
   nofun;refine⟨dS,rfl,hd_SHAPES,by decide,λl hl=>?_⟩
   obtain⟨k2,s2⟩:=e8 hl (.lst (ij.map λp=>V.str p.1));generalize upd H1 l _=H2 at *;have ht2:=k2.n ht;exists aF ht2,au s2,ak;have h02:KB [] H H2:=k1.trans k2;clear k1 k2 s2 hl ht ak;subst hN;have hlen:(wC wi).length<=2:=by
    have:wi=0\/wi=1\/wi=2\/wi=3\/wi=4\/wi=5\/wi=6\/wi=7\/wi=8:=by lia
    rcases this with rfl|rfl|rfl|rfl|rfl|rfl|rfl|rfl|rfl<;>decide
   have e1:=As h9;generalize hps:wC wi=ks0 at *;generalize hw9:b8.getD wi (Str.ofString "")=W at *;refine ar λN hN=>?_;nofun;refine⟨by decide,λrl hrl=>?_⟩
   obtain⟨k3,s3⟩:=e8 hrl (.lst [.str W]);generalize upd H2 rl _=H3 at *;have hrl0:H rl=none:=h02.free (by simp) hrl
   have h03:KB [] H H3:=h02.trans k3;have ht3:=k3.n ht2;subst hN;refine ar λN hN=>?_;exists aF ht3;subst hN;refine ar λN hN=>?_;nofun;refine⟨W,_,rfl,e1,λpk kt=>?_⟩;have st:∀H,bu K H pk ((ks0.map Kd.s).map V.str):=λH=>.inr kt;refine .inr ⟨⟨_,st H3⟩,?_⟩;have kL:∀{H4 H5:Hp},KB [rl] H4 H5->KB [rl] H H4->KB [] H H5:=λa b c o e _=>a _ _ (b _ _ e (by simpa using aq e hrl0)) (by simpa using aq e hrl0)
   refine jE (xs:=(ks0.map Kd.s).map V.str) (λi σ H'=>∃(acc:List (PV×Nat)) (a:Nat) (o7 o8:Option V),i<=ks0.length/\(je [c0,c1,c2] z ks0 e=(je [c0,c1,c2] z (ks0.drop i) a).map λy=>(acc++y.1,y.2))/\acc.length=i/\H' rl=some (.lst (.str W::acc.map λx=>x.1.v x.2))/\KB [] H H'/\σ=[some (.ref ca),some (.str (wd z)),some (.int (p:Nat)),some (.ref t),some (.str W),some (.ref rl),some (.int (a:Nat)),o7,o8]) ⟨[],e,none,none,K4 _,by rw[LI];cases je [c0,c1,c2] z ks0 e<;>rfl,rfl,s3,h03,rfl⟩ (λi σ H' _ _=>st H') ?_ ?_
   ·rintro i x σ H' hx ⟨acc,a,o7,o8,hi,ep,hacc,hrl',h0',rfl⟩;have hi2:i<ks0.length:=by have:=(Kl.mp hx).1;rw[Ki,Ki] at this;exact this
    obtain rfl:x=.str (ks0[i]).s:=by
     rw[Kn,Kn,Kg hi2] at hx;exact (Option.some.inj hx).symm
    rw[LL hi2,je] at ep;generalize ks0[i]=k at *;unfold aO;refine ar λM hM=>?_;nofun;refine⟨ca,[c0,c1,c2],z,a,k,rfl,hc.kb h0',hR,hb,hz,λv H5 k5 o5=>?_⟩;subst hM;have h05:=h0'.trans k5
    cases c3:u7 [c0,c1,c2] z a k with
    |none =>
     rw[c3] at ep o5;obtain rfl:v=.aI:=o5;have ep':je [c0,c1,c2] z ks0 e=none:=ep;rw[ep'] at q;refine ar λM hM=>?_;nofun;exact q _ _ h05 rfl
    |some x =>
     rw[c3] at ep o5;obtain⟨t5,rfl,ht5⟩:=o5;refine ar λM hM=>?_;exists Ko (show ¬ V.ref t5=V.aI from V.noConfusion);subst hM;refine ar λM hM=>?_;exists aF ht5;have hr5:=k5.n hrl';refine⟨.inl ⟨rfl,_,a_.of hr5⟩,rl,_,_,rfl,rfl,hr5,KI (show _<4 by rw[K2,Ki];lia) (by decide),?_⟩
     subst hM;have nt:t5≠rl:=λz=>by rw[z,hr5] at ht5;cases ht5
     have e6:(V.str W::acc.map λx=>x.1.v x.2)++[x.1.v x.2]=.str W::(acc++[x]).map λx=>x.1.v x.2:=by rw[K7];rfl
     rw[e6];have s6:upd H5 rl (.lst (.str W::(acc++[x]).map λx=>x.1.v x.2)) rl=_:=aa;have ht6:=(ae (o:=HO.lst (.str W::(acc++[x]).map λx=>x.1.v x.2)) (H:=H5) nt).trans ht5;have h06:KB [] H (upd H5 rl (.lst (.str W::(acc++[x]).map λx=>x.1.v x.2))):=λc o e _=>by rw[ae (aq e hrl0)];exact h05.n e
     generalize upd H5 rl (.lst (.str W::(acc++[x]).map λx=>x.1.v x.2))=H6 at *;dsimp only;refine lh λM hM=>?_;exists aF ht6;rw[hM];refine⟨acc++[x],x.2,some _,some _,hi2,?_,by rw[List.length_append,hacc];rfl,s6,h06,rfl⟩
     rw[ep,M_]
     cases je [c0,c1,c2] z (ks0.drop (i+1)) x.2 with
     |none=>rfl
     |some y=>show some (acc++(x::y.1),y.2)=some ((acc++[x])++y.1,y.2);rw[KN];rfl
   ·rintro σ H' ⟨acc,a,o7,o8,_,ep,_,hrl',h0',rfl⟩;rw[Ki,Ki,Mn] at ep;have ep':je [c0,c1,c2] z ks0 e=some (acc,a):=by rw[ep];show some (acc++[],a)=_;rw[Le]
    rw[ep'] at q;show N _ _;subst hN;exists au hrl';intro rt hrt;obtain⟨k7,s7⟩:=e8 hrt (.tup (.str W::acc.map λx=>x.1.v x.2));generalize upd H' rt _=H7 at *;refine⟨by decide,λtt htt=>q _ _ ((h0'.trans k7).trans (KB.new htt)) ⟨tt,rt,rfl,aa,?_⟩⟩
    rw[ae (aq s7 htt),s7];show some (HO.tup (V.str W::_))=some (.tup (RW.v ⟨wi,acc⟩));unfold RW.v;rw[hw9]
def NT(ex:List Addr)(H:Hp):Prop:=∀b∈ex,∀xs,H b≠some (.tup xs)
def NT.nil(H:Hp):NT [] H:=λb hb=>nomatch hb
def bC.nt{p:Addr}{n:Nat}(h:bC H p dq n):NT [p,dq] H:=λb hb xs e=>by
 obtain⟨ys,e'⟩:=h.lst b hb;rw[e] at e';cases e'
def sk(H:Hp)(b:Addr)(bk:List (List Int)):Prop:=∃as:List Addr,H b=some (.tup (as.map V.ref))/\as.length=bk.length/\∀(i:Nat) (a:Addr),as[i]?=some a->H a=some (.tup (iV (bk.getD i [])))
def sk.keep{b:Addr}{bk:List (List Int)}(h:sk H b bk)(k:KB ex H H')(hx:NT ex H):sk H' b bk:=by
 obtain⟨as,h1,h2,h3⟩:=h;exact⟨as,k _ _ h1 λz=>hx _ z _ h1,h2,λi a e=>k _ _ (h3 i a e) λz=>hx _ z _ (h3 i a e)⟩
def sk.kb{b:Addr}{bk:List (List Int)}(h:sk H b bk)(k:KB [] H H'):sk H' b bk:=h.keep k (NT.nil _)
def qF{l:List α}(h:l.length=3):∃a b c,l=[a,b,c]:=by
 rcases l with _|⟨a,_|⟨b,_|⟨c,_|⟨d,l⟩⟩⟩⟩<;>first|exact⟨_,_,_,rfl⟩ | (exfalso;revert h;simp)
def nS(K:W.Frag):Sp:=λvs H Q _=>∃(b:Addr) (bk:List (List Int)),vs=[.ref b]/\sk H b bk/\Bk bk/\∀ca H',H ca=none->KB [] H H'->BZ H' ca (gx bk)->Q (.ref ca) H'
def xn(T:Txt K mg)(F:HasFn K mg "codes_of" fe ["book"])(hcode_of:ao P w K mg base aY 4 "code_of" ["lengths"] (xM K)):ao P w K mg base aY 6 "codes_of" ["book"] (nS K):=by
 refine F.fq oI (λvs H Q E h=>?_) (λf cdv A outer s H vs Q E hr h=>?_)
 ·obtain⟨b,bk,rfl,_⟩:=h;rfl
 ·have hu:=aU hr;obtain⟨b,bk,rfl,hb,hB,q⟩:=h;obtain⟨as,hb1,hb2,hb3⟩:=hb;obtain⟨l0,l1,l2,rfl,_,_,_,hl⟩:=hB;refine⟨_,(Z.av (Z.ret (Z.xU (osc:=af fe) (ON:=["book"]) (own:=["lengths"]) (N:=["lengths","book"]) (aA.of rfl (by decide +kernel)) (Z.any K rfl (Z.v 0)) (λnd _ _ _ _=>(Z.aM (i:=0) nd rfl (by right))) (λ_ _ _ _=>Z.tF) (λ_ _ _ _=>(Z.fc hcode_of (Z.cons (Z.v 0) Z.nil)))))),?_⟩
  exists aF hb1;refine d5 (xs:=as.map V.ref) (Km (show _<=3 by rw[Ki,hb2];exact Kp 3) (by decide)) (λD i ys H'=>H D=none/\H' D=some (.lst ys)/\KB [] H H'/\∃cs:List Addr,ys=cs.map V.ref/\cs.length=i/\∀(j:Nat) (c:Addr),cs[j]?=some c->H' c=some (.tup (wV (wordsOf Cw.dG (List.getD [l0,l1,l2] j []))))) (λD hD=>⟨hD,aa,KB.new hD,[],rfl,rfl,λj c e=>nomatch e⟩) (λD i ys H' h=>⟨h.2.1,by obtain⟨_,_,_,cs,rfl,e,_⟩:=h;rw[Ki,e]⟩) (λD i ys H' h=>bu.of (h.2.2.1 _ _ hb1 (by simp))) ?_ ?_
  ·rintro D i ys H' x R hx ⟨g0,g1,g2,cs,rfl,g4,g5⟩ kk;obtain⟨a,ea,rfl⟩:∃a,as[i]?=some a/\x=.ref a:=by
    rw[Kn] at hx;obtain⟨a,e,rfl⟩:=K8.mp hx;exact⟨a,e,rfl⟩
   have hi:i<3:=by have:=(Kl.mp ea).1;rw[hb2] at this;exact this
   have hm:List.getD [l0,l1,l2] i []∈[l0,l1,l2]:=by
    rcases oz hi with rfl|rfl|rfl<;>simp
   nofun;refine⟨a,_,rfl,g2.n (hb3 i a ea),(hl _ hm).1,(hl _ hm).2,λc H5 k5 e5=>?_⟩;have gD:=k5.n g1;have cD:c≠D:=λz=>by rw[z,gD] at e5;cases e5
   refine kk _ _ gD ⟨g0,aa,λu o e _=>by rw[ae (aq e g0)];exact k5.n (g2.n e),cs++[c],by rw[K7];rfl,by rw[Kj,g4];rfl,λj d e=>?_⟩
   rcases Lm j cs.length with hj|hj
   ·rw[KR hj] at e;have e6:=k5.n (g5 j d e);rw[ae (λz=>by rw[z,gD] at e6;cases e6)];exact e6
   ·rw[KL hj] at e;obtain⟨hj2,rfl⟩:=Kl.mp e;have:j=i:=by simp at hj2;lia
    subst this;rw[ae (show _≠D by simpa using cD)]
    simpa using e5
  ·rintro D ys H' ⟨g0,g1,g2,cs,rfl,g4,g5⟩;rw[Ki,hb2] at g4;obtain⟨c0,c1,c2,rfl⟩:=qF g4;exact q D H' g0 g2 ⟨c0,c1,c2,g1,g5 0 c0 rfl,g5 1 c1 rfl,g5 2 c2 rfl⟩
def yZ(K:W.Frag):Sp:=λvs H Q _=>∃(p dq:Addr) (n:Nat),vs=[.ref p]/\bC H p dq n/\n<2^38/\∀(bk:List (List Int)) (b:Addr) H',bC H' p dq (n+200)->KB [p,dq] H H'->sk H' b bk->Bk bk->Q (.ref b) H'
def B4(T:Txt K mg)(F:HasFn K mg "_law_book" dR ["deck"])(h_law_draw:ao P w K mg base aY 2 "_law_draw" ["deck","most"] e9)(h_law_lengths:ao P w K mg base aY 3 "_law_lengths" ["deck","many"] (rG K)):ao P w K mg base aY 4 "_law_book" ["deck"] (yZ K):=by
 refine F.fq nE (λvs H Q E h=>?_) (λf cdv A outer s H vs Q E hr h=>?_)
 ·obtain⟨p,dq,n,rfl,_⟩:=h;rfl
 ·have hu:=aU hr;obtain⟨p,dq,n,rfl,hd,hn,q⟩:=h;refine⟨_,(Z.ai (Z.cS (Z.aS bz (Z.fc h_law_draw (Z.cons (Z.v 0) (Z.cons Z.int Z.nil))) Z.int) (Z.av (Z.ret (Z.tup (Z.cons (Z.op (Y.nO K rfl) (Z.tup (Z.cons Z.int Z.nil)) Z.int) (Z.cons (Z.op (Y.nO K rfl) (Z.tup (Z.cons Z.int Z.nil)) Z.int) (Z.cons (Z.op (Y.nO K rfl) (Z.tup (Z.cons Z.int Z.nil)) Z.int) Z.nil)))))) Z.ba)
   (Z.av (Z.ret (Z.ct (Z.d4 K rfl) rfl T.cJ (by decide +kernel) (Z.cons (Z.xU (osc:=af dR) (ON:=["deck"]) (own:=["many"]) (N:=["many","deck"]) (aA.of rfl (by decide +kernel)) (Z.any K rfl (Z.tup (Z.consts rfl))) (λnd _ _ _ _=>(Z.aM (i:=0) nd rfl (by right))) (λ_ _ _ _=>Z.tF) (λ_ _ _ _=>(Z.fc h_law_lengths (Z.cons (Z.v 1) (Z.cons (Z.v 0) Z.nil))))) Z.nil))))),?_⟩
  refine ar λN hN=>?_;nofun;refine⟨p,dq,4,_,rfl,hd,by lia,by decide,by decide,λv H1 hv D1 k1=>?_⟩
  by_cases c:(v:Int)=0
  ·exists Ku c;have rep:∀(G:Hp) (j k:Int) (Q:VK),1<k->k<=20->(∀t u G',KB [] G G'->G t=none->u≠t->G' u=some (.tup (iV (List.replicate k.toNat j)))->Q (.ref u) G')->(0+1<=sizeLine/\∀t,G t=none->Y.CA K (.ref t) (.int k) (upd G t (.tup [.int j])) Q):=λG j k Q h1 h2 q=>by
    refine⟨by decide,λt ht=>.inr ⟨t,k,_,rfl,rfl,bu.of aa,by simp,(show 1<=1000 by decide),h1,by lia,λu hu=>?_⟩⟩
    have e:(List.replicate k.toNat [V.int j]).flatten=iV (List.replicate k.toNat j):=by
     unfold iV;rw[Oh];generalize k.toNat=m
     induction m with
     |zero=>rfl
     |succ m ih=>rw[Lc,LU,ih];rfl
    rw[e];have ut:u≠t:=λz=>by rw[z,aa] at hu;cases hu
    exact q t u _ ((KB.new ht).trans (KB.new hu)) ht ut aa
   refine rep H1 4 9 _ (by decide) (by decide) λt1 u1 G1 g1 _ _ e1=>?_
   refine rep G1 5 17 _ (by decide) (by decide) λt2 u2 G2 g2 _ _ e2=>?_
   refine rep G2 3 8 _ (by decide) (by decide) λt3 u3 G3 g3 _ _ e3=>⟨by decide,λb hb=>?_⟩
   have kk:KB [] H1 (upd G3 b (.tup [.ref u1,.ref u2,.ref u3])):=((g1.trans g2).trans g3).trans (KB.new hb);have up:∀{x:Addr} {o:HO},G3 x=some o->upd G3 b (.tup [.ref u1,.ref u2,.ref u3]) x=some o:=λe=>by rw[ae (aq e hb)];exact e
   refine q [List.replicate 9 4,List.replicate 17 5,List.replicate 8 3] b _ ((D1.kb kk).mono (by lia)) (k1.trans kk.all) ⟨[u1,u2,u3],aa,rfl,λi a e=>?_⟩ ⟨_,_,_,rfl,rfl,rfl,rfl,λl hl=>?_⟩
   ·have hi:i<3:=(Kl.mp e).1;rcases oz hi with rfl|rfl|rfl
    ·cases e;exact up (g3.n (g2.n e1))
    ·cases e;exact up (g3.n e2)
    ·cases e;exact up e3
   have rr:∀(n:Nat) (k:Int),0<n->n<=20->1<=k->k<=20->jq (List.replicate n k):=λn k a b c d=>⟨by rw[K6];exact a,by rw[K6];exact b,λx hx=>by rw[(L9.mp hx).2];lia⟩
   rcases Kv.mp hl with rfl|hl
   ·exact⟨rr 9 4 (by decide) (by decide) (by decide) (by decide),by decide +kernel⟩
   ·rcases Kv.mp hl with rfl|hl
    ·exact⟨rr 17 5 (by decide) (by decide) (by decide) (by decide),by decide +kernel⟩
    ·rw[K0.mp hl];exact⟨rr 8 3 (by decide) (by decide) (by decide) (by decide),by decide +kernel⟩
  ·exists Ko c;subst hN;nofun;refine⟨by decide,λt ht=>?_⟩
   obtain⟨k2,s2⟩:=e8 ht (.tup [.int 9,.int 17,.int 8]);generalize upd H1 t _=H2 at *;have D2:=D1.kb k2;refine d5 (xs:=iV [9,17,8]) (by decide) (λD i ys H'=>H2 D=none/\H' D=some (.lst ys)/\bC H' p dq (n+1+60*i)/\KB [p,dq] H2 H'/\∃(as:List Addr) (done:List (List Int)),ys=as.map V.ref/\as.length=i/\done.map List.length=[9,17,8].take i/\(∀l∈done,jq l/\mU l=true)/\∀(j:Nat) (a:Addr),as[j]?=some a->H' a=some (.tup (iV (done.getD j [])))) (λD hD=>⟨hD,aa,D2.kb (KB.new hD),KB.new hD,[],[],rfl,rfl,rfl,(λl h=>nomatch h),λj a e=>nomatch e⟩) (λD i ys H' h=>⟨h.2.1,by obtain⟨_,_,_,_,as,_,rfl,e,_⟩:=h;rw[Ki,e]⟩) (λD i ys H' h=>bu.of (h.2.2.2.1 _ _ s2 λz=>D2.nt _ z _ s2)) ?_ ?_
   ·rintro D i ys H' x R hx ⟨g0,g1,gd,gk,as,done,rfl,ga,gl,gok,gat⟩ kk;obtain⟨hi,rfl⟩:=jM hx;have nD:=D2.new g0;have dl:done.length=i:=by
     have:=Lg List.length gl;rw[Ki,KD] at this;have h3:([9,17,8]:List Nat).length=3:=rfl;have hi3:i<3:=hi;lia
    have key:∀m:Nat,2<=m->m<=17->([9,17,8]:List Nat).take (i+1)=([9,17,8]:List Nat).take i++[m]->rG K [.ref p,.int (m:Nat)] H' R E0:=λm m2 m17 em=>by
     refine⟨p,dq,m,_,rfl,gd,by have:i<3:=hi;lia,m2,m17,λls a H5 D5 k5 e5 l1 l2 l3=>?_⟩
     have gD:=k5 _ _ g1 nD;have aD:a≠D:=λz=>by rw[z,gD] at e5;cases e5
     have pD:p≠D:=λz=>nD (by simp[z])
     have qD:dq≠D:=λz=>nD (by simp[z])
     refine kk _ _ gD ⟨g0,aa,(D5.keep (KB.set (ex:=[D]) (by simp)) (by simpa using pD) (by simpa using qD)).mono (by lia),λu o e z=>by rw[ae (aq e g0)];exact k5 _ _ (gk _ _ e z) z,as++[a],done++[ls],by rw[K7];rfl,by rw[Kj,ga];rfl,by rw[K7,gl,em];rw[KA,l1];rfl,λl hl=>?_,λj b e=>?_⟩
     ·rcases Ld.mp hl with hl|hl
      ·exact gok l hl
      ·rw[K0.mp hl];exact⟨l2,l3⟩
     ·rcases Lm j as.length with hj|hj
      ·rw[KR hj] at e;have e6:=gd.tup k5 (gat j b e);rw[ae (λz=>by rw[z,gD] at e6;cases e6),e6,Ks,Ks,KR (by lia)]
      ·rw[KL hj] at e;obtain⟨hj2,rfl⟩:=Kl.mp e;have hj3:j=as.length:=by simp at hj2;lia
       subst hj3;simp only[LH,Mp];rw[ae aD,e5,Ks,KL (by lia),show as.length-done.length=0 by lia]
       rfl
    nofun;rcases oz (show i<3 from hi) with rfl|rfl|rfl
    ·exact key 9 (by decide) (by decide) rfl
    ·exact key 17 (by decide) (by decide) rfl
    ·exact key 8 (by decide) (by decide) rfl
   ·rintro D ys H' ⟨g0,g1,gd,gk,as,done,rfl,ga,gl,gok,gat⟩;exists au g1;intro b hb;have gl':done.map List.length=[9,17,8]:=gl;have h3:done.length=3:=by have:=Lg List.length gl';rw[Ki] at this;exact this
    obtain⟨x,y,z,rfl⟩:=qF h3;simp only[KA,MS,List.cons.injEq] at gl';refine q [x,y,z] b _ ((gd.kb (KB.new hb)).mono (by show n+1+60*3<=_;lia)) (k1.trans (k2.all.trans (gk.trans (KB.new hb)))) ⟨as,aa,by rw[ga];rfl,λj a e=>?_⟩ ⟨x,y,z,rfl,gl'.1,gl'.2.1,gl'.2.2.1,gok⟩
    have:=gat j a e;rw[ae (aq this hb)];exact this
def ph:Sp:=λvs H Q _=>∃(p dq:Addr) (n:Nat),vs=[.ref p]/\bC H p dq n/\n<2^40/\∀(v:Nat) H',bC H' p dq (n+2)->KB [p,dq] H H'->v<65536->Q (.int (v:Nat)) H'
def wb(T:Txt K mg)(F:HasFn K mg "_law_number" ee ["deck"])(h_law_draw:ao P w K mg base aY 2 "_law_draw" ["deck","most"] e9):ao P w K mg base aY 3 "_law_number" ["deck"] ph:=by
 refine F.fq dA (λvs H Q E h=>?_) (λf cdv A outer s H vs Q E hr h=>?_)
 ·obtain⟨p,dq,n,rfl,_⟩:=h;rfl
 ·have hu:=aU hr;obtain⟨p,dq,n,rfl,hd,hn,q⟩:=h;refine⟨_,(Z.ai (Z.se (i:=1) dA.nd (Z.fc h_law_draw (Z.cons (Z.v 0) (Z.cons Z.int Z.nil))))
   (Z.ai (Z.cS (Z.aS bz (Z.v 1) Z.int) (Z.av (Z.ret Z.int)) Z.ba)
   (Z.ai (Z.se (i:=2) dA.nd (Z.op En Z.int (Z.op cX (Z.v 1) Z.int)))
   (Z.av (Z.ret (Z.op (Z.aH K rfl) (Z.v 2) (Z.fc h_law_draw (Z.cons (Z.v 0) (Z.cons (Z.v 2) Z.nil))))))))),?_⟩
  refine ar λN hN=>?_;nofun;refine⟨p,dq,17,n,rfl,hd,by lia,by decide,by decide,λz H1 hz D1 k1=>?_⟩
  subst hN;refine ar λN hN=>?_;by_cases a0:(z:Int)=0
  ·exists Ku a0;exact q 0 H1 (D1.mono (by lia)) k1 (by decide)
  ·exists Ko a0;subst hN;refine ar λN hN=>?_;nofun;refine⟨⟨by lia,by lia,by decide⟩,?_⟩
   subst hN;obtain⟨j,ej,hj⟩:∃j:Nat,((z:Int)-1).toNat=j/\j<=15:=⟨_,rfl,by lia⟩
   rw[ej,Int.one_mul];have p1:(0:Int)<2^j:=Int.pow_pos (by decide)
   have p2:(2:Int)^j<=2^15:=by
    have:2^j<=2^15:=Mg (by decide) hj
    exact_mod_cast this
   generalize (2:Int)^j=t at p1 p2;nofun;refine⟨p,dq,t,n+1,rfl,D1,by lia,p1,by lia,λv H2 hv D2 k2=>?_⟩
   nofun;obtain⟨k,ek⟩:∃k:Nat,t+(v:Int)=k:=⟨(t+(v:Int)).toNat,by lia⟩
   rw[ek];exact q k H2 D2 (k1.trans k2) (by lia)
def two8{c:Nat}(h1:(c:Int)<2):∃m:Int,bS [V.int 2,.int 8] (c:Int)=some (.int m)/\0<m/\m<=8:=by
 have:c=0\/c=1:=by lia
 rcases this with rfl|rfl
 ·exact⟨2,rfl,by decide,by decide⟩
 ·exact⟨8,rfl,by decide,by decide⟩
def qf{p:Addr}{n:Nat}(D:bC H p dq n)(hn:n<2^49)(q:∀b H',b<8->bC H' p dq (n+2)->KB [p,dq] H H'->Q (.str (d8 b)) H'):
  0+1+1<=sizeLine/\∀m,H m=none->e9 [.ref p,.int 2] (upd H m (.lst [.int 2,.int 8])) (λy H2=>B0 K (.ref m) y H2 λx H1=>e9 [.ref p,x] H1 (λy H2=>B0 K (.str (Str.ofString "abcdefgh")) y H2 Q) E0) E0:=by
 refine⟨by decide,λm hm=>⟨p,dq,2,n,rfl,D.kb (KB.new hm),by lia,by decide,by decide,λd H2 hd D2 k2=>?_⟩⟩
 have s2:=au (k2 m _ aa (D.new hm));have kk:KB [p,dq] H H2:=(KB.new hm).trans k2;obtain⟨x,ha,x0,x8⟩:=two8 hd;exists s2,ha;refine⟨p,dq,x,n+1,rfl,D2,by lia,x0,by lia,λy H3 hy D3 k3=>?_⟩
 have hb:=x6 (show 0<=(y:Int) by lia) (show (y:Int)<8 by lia)
 exists hb;exact⟨by decide +kernel,q y H3 (by lia) D3 (kk.trans k3)⟩
def C9(K:W.Frag):Sp:=λvs H Q _=>∃(p dq:Addr) (many n:Nat),vs=[.ref p,.int (many:Nat)]/\bC H p dq n/\n<2^38/\many<1000/\∀(r:Row) (a:Addr) H',r.Ok many->H' a=some (.tup r.vs)->bC H' p dq (n+5)->KB [p,dq] H H'->Q (.ref a) H'
def FL(T:Txt K mg)(F:HasFn K mg "_law_row" gP ["deck","goals"])(h_law_draw:ao P w K mg base aY 2 "_law_draw" ["deck","most"] e9)(h_law_number:ao P w K mg base aY 3 "_law_number" ["deck"] ph):ao P w K mg base aY 4 "_law_row" ["deck","goals"] (C9 K):=by
 refine F.fq dU (λvs H Q E h=>?_) (λf cdv A outer s H vs Q E hr h=>?_)
 ·obtain⟨p,dq,many,n,rfl,_⟩:=h;rfl
 ·have hu:=aU hr;obtain⟨p,dq,many,n,rfl,hd,hn,hmy,q⟩:=h;refine⟨_,(Z.ai (Z.se (i:=2) dU.nd (Z.lst (Z.consts rfl)))
   (Z.ai (Z.se (i:=3) dU.nd (Z.ix (Z.az K rfl hu) (Z.v 2) (Z.fc h_law_draw (Z.cons (Z.v 0) (Z.cons Z.int Z.nil)))))
   (Z.ai (Z.se (i:=4) dU.nd (Z.ix (Z.az K rfl hu) Z.str (Z.fc h_law_draw (Z.cons (Z.v 0) (Z.cons (Z.ix (Z.az K rfl hu) (Z.lst (Z.consts rfl)) (Z.fc h_law_draw (Z.cons (Z.v 0) (Z.cons Z.int Z.nil)))) Z.nil)))))
   (Z.ai (Z.cS (Z.aS bz (Z.v 3) Z.str) (Z.av (Z.ret (Z.tup (Z.cons (Z.v 3) (Z.cons (Z.v 4) (Z.cons (Z.fc h_law_number (Z.cons (Z.v 0) Z.nil)) Z.nil)))))) Z.ba)
   (Z.ai (Z.cS (Z.aS (Z.Ct K rfl hu) (Z.v 3) (Z.tup (Z.consts rfl))) (Z.av (Z.ret (Z.tup (Z.cons (Z.v 3) (Z.cons (Z.v 4) (Z.cons (Z.ix (Z.az K rfl hu) Z.str (Z.fc h_law_draw (Z.cons (Z.v 0) (Z.cons (Z.ix (Z.az K rfl hu) (Z.lst (Z.consts rfl)) (Z.fc h_law_draw (Z.cons (Z.v 0) (Z.cons Z.int Z.nil)))) Z.nil)))) Z.nil)))))) Z.ba)
   (Z.ai (Z.cS (Z.aS (Z.Ct K rfl hu) (Z.v 3) (Z.tup (Z.consts rfl))) (Z.av (Z.ret (Z.tup (Z.cons (Z.v 3) (Z.cons (Z.v 4) Z.nil))))) Z.ba)
   (Z.ai (Z.cS (Z.aS bz (Z.v 3) Z.str) (Z.av (Z.ret (Z.tup (Z.cons (Z.v 3) (Z.cons (Z.fc h_law_draw (Z.cons (Z.v 0) (Z.cons (Z.op (Z.aH K rfl) (Z.v 1) Z.int) Z.nil))) Z.nil))))) Z.ba)
   (Z.ai (Z.cS (Z.aS bz (Z.v 3) Z.str) (Z.av (Z.ret (Z.tup (Z.cons (Z.v 3) (Z.cons (Z.v 4) (Z.cons (Z.fc h_law_draw (Z.cons (Z.v 0) (Z.cons (Z.op (Z.aH K rfl) (Z.v 1) Z.int) Z.nil))) Z.nil)))))) Z.ba)
   (Z.av (Z.ret (Z.tup (Z.cons (Z.v 3) Z.nil)))))))))))),?_⟩
  refine ar λN hN=>?_;nofun;refine⟨by decide,λl hl=>?_⟩
  have k1:KB [] H (upd H l (.lst [.str (Str.ofString "put"),.str (Str.ofString "put"),.str (Str.ofString "add"),.str (Str.ofString "sub"),.str (Str.ofString "copy"),.str (Str.ofString "tell"),.str (Str.ofString "tell"),.str (Str.ofString "hear"),.str (Str.ofString "jump"),.str (Str.ofString "zero"),.str (Str.ofString "zero"),.str (Str.ofString "halt")])):=KB.new hl;have s1:upd H l (.lst [.str (Str.ofString "put"),.str (Str.ofString "put"),.str (Str.ofString "add"),.str (Str.ofString "sub"),.str (Str.ofString "copy"),.str (Str.ofString "tell"),.str (Str.ofString "tell"),.str (Str.ofString "hear"),.str (Str.ofString "jump"),.str (Str.ofString "zero"),.str (Str.ofString "zero"),.str (Str.ofString "halt")]) l=_:=aa;generalize upd H l _=H1 at *;have D1:=hd.kb k1;have nl:=hd.new hl;subst hN;refine ar λN hN=>?_;nofun;refine⟨p,dq,12,n,rfl,D1,by lia,by decide,by decide,λc H2 hc D2 k2=>?_⟩
  have s2:=k2 _ _ s1 nl;obtain⟨v,hv,ha⟩:=EA (xs:=[V.str (Str.ofString "put"),.str (Str.ofString "put"),.str (Str.ofString "add"),.str (Str.ofString "sub"),.str (Str.ofString "copy"),.str (Str.ofString "tell"),.str (Str.ofString "tell"),.str (Str.ofString "hear"),.str (Str.ofString "jump"),.str (Str.ofString "zero"),.str (Str.ofString "zero"),.str (Str.ofString "halt")]) (i:=c) hc;exists au s2,ha;have kk2:KB [p,dq] H H2:=k1.all.trans k2;clear ha hc k1 k2 s1 s2 nl hl;subst hN;refine ar λN hN=>?_;nofun;refine qf D2 (by lia) λbn H3 hb8 D3 k3=>?_
  have kk3:=kk2.trans k3;clear k3 D2 kk2 D1;subst hN;have hv6:v=.str "put"\/(∃w,v=.str (w2 w))\/(∃w,v=.str (w1 w))\/v=.str "jump"\/v=.str "zero"\/v=.str "halt":=by
   simp only[Kv,KO,Ma] at hv;rcases hv with h|h|h|h|h|h|h|h|h|h|h|h<;>subst h<;>first|exact .inl rfl|exact .inr (.inl ⟨0,rfl⟩)|exact .inr (.inl ⟨1,rfl⟩)|exact .inr (.inl ⟨2,rfl⟩)|exact .inr (.inr (.inl ⟨0,rfl⟩))|exact .inr (.inr (.inl ⟨1,rfl⟩))|exact .inr (.inr (.inr (.inl rfl)))|exact .inr (.inr (.inr (.inr (.inl rfl))))|exact .inr (.inr (.inr (.inr (.inr rfl))))
  clear hv;have tell:∀(r:Row) (G:Hp) (m:Nat),r.Ok many->bC G p dq m->m<=n+5->KB [p,dq] H G->∀t,G t=none->Q (.ref t) (upd G t (.tup r.vs)):=λr G m ok D hm k t ht=>q r t _ ok aa ((D.kb (KB.new ht)).mono hm) (k.trans (KB.new ht));refine ar λN hN=>?_;rcases hv6 with rfl|⟨u,rfl⟩|⟨u,rfl⟩|hv
  ·exists (show (Str.ofString "put"=Str.ofString "put")=True from eq_true rfl),MT;refine⟨p,dq,n+3,rfl,D3,by lia,λk H4 D4 k4 hk=>⟨by decide,λt ht=>?_⟩⟩
   exact tell (.put bn k) H4 _ ⟨hb8,hk⟩ D4 (by lia) (kk3.trans k4) t ht
  ·have n1:∀u,w2 u≠"put":=by decide +kernel
   have i1:∀u,iW (.str (w2 u)) [.str "add",.str "sub",.str "copy"]=true:=by decide +kernel
   exists Ko (n1 u);subst hN;refine ar λN hN=>?_;exists i1 u;refine⟨by decide,λt0 ht0=>⟨rfl,rfl,?_⟩⟩
   refine qf (D3.kb (KB.new ht0)) (by lia) λb2 H4 hb2 D4 k4=>⟨by decide,λt ht=>?_⟩
   exact tell (.two u bn b2) H4 _ ⟨hb8,hb2⟩ D4 (by lia) ((kk3.trans (KB.new ht0)).trans k4) t ht
  ·have n1:∀u,w1 u≠"put":=by decide +kernel
   have i1:∀u,iW (.str (w1 u)) [.str "add",.str "sub",.str "copy"]=false:=by decide +kernel
   have i2:∀u,iW (.str (w1 u)) [.str "tell",.str "hear"]=true:=by decide +kernel
   exists Ko (n1 u);subst hN;refine ar λN hN=>?_;exists i1 u;refine⟨by decide,λt0 ht0=>⟨rfl,rfl,?_⟩⟩
   subst hN;refine ar λN hN=>?_;exists i2 u;refine⟨by decide,λt1 ht1=>⟨rfl,rfl,by decide,λt ht=>?_⟩⟩
   exact tell (.one u bn) _ _ hb8 ((D3.kb (KB.new ht0)).kb (KB.new ht1)) (by lia) ((kk3.trans (KB.new ht0)).trans (KB.new ht1)) t ht
  ·have n1:∀z∈([("jump"),("zero"),("halt")]:List Str),z≠"put"/\iW (.str z) [.str "add",.str "sub",.str "copy"]=false/\iW (.str z) [.str "tell",.str "hear"]=false:=by decide +kernel
   obtain⟨z,hz,rfl⟩:∃z∈([("jump"),("zero"),("halt")]:List Str),v=.str z:=by rcases hv with rfl|rfl|rfl<;>exact⟨_,by simp,rfl⟩
   obtain⟨e1,e2,e3⟩:=n1 z hz;exists Ko e1;subst hN;refine ar λN hN=>?_;exists e2;refine⟨by decide,λt0 ht0=>⟨rfl,rfl,?_⟩⟩
   subst hN;refine ar λN hN=>?_;exists e3;refine⟨by decide,λt1 ht1=>⟨rfl,rfl,?_⟩⟩
   have D4:=(D3.kb (KB.new (o:=.tup [.str "add",.str "sub",.str "copy"]) ht0)).kb (KB.new (o:=.tup [.str "tell",.str "hear"]) ht1);have kk4:=(kk3.trans (KB.new (o:=.tup [.str "add",.str "sub",.str "copy"]) ht0)).trans (KB.new (o:=.tup [.str "tell",.str "hear"]) ht1);subst hN;generalize upd (upd H3 t0 _) t1 _=H4 at *;refine ar λN hN=>?_;rcases hv with hv|hv
   ·cases hv;exists Ku (rfl:Str.ofString "jump"=Str.ofString "jump");refine⟨p,dq,(many:Int)+1,n+3,rfl,D4,by lia,by lia,by lia,λg H5 hg D5 k5=>⟨by decide,λt ht=>?_⟩⟩
    exact tell (.jump g) H5 _ (show g<=many by lia) D5 (by lia) (kk4.trans k5) t ht
   ·have nh:z≠"jump":=by rcases hv with hv|hv<;>cases hv<;>decide +kernel
    exists Ko nh;subst hN;refine ar λN hN=>?_;rcases hv with hv|hv
    ·cases hv;exists Ku (rfl:Str.ofString "zero"=Str.ofString "zero");refine⟨p,dq,(many:Int)+1,n+3,rfl,D4,by lia,by lia,by lia,λg H5 hg D5 k5=>⟨by decide,λt ht=>?_⟩⟩
     exact tell (.zero bn g) H5 _ ⟨hb8,(show g<=many by lia)⟩ D5 (by lia) (kk4.trans k5) t ht
    ·cases hv;have nz:Str.ofString "halt"≠Str.ofString "zero":=by decide +kernel
     exists Ko nz;subst hN;nofun;exact⟨by decide,λt ht=>tell .halt H4 _ trivial D4 (by lia) kk4 t ht⟩
def PA(H:Hp)(as:List Addr)(rs:List Row):Prop:=as.length=rs.length/\∀(i:Nat) (q:Addr) (r:Row),as[i]?=some q->rs[i]?=some r->H q=some (.tup r.vs)
def PA.snoc{rs:List Row}{q:Addr}{r:Row}(h:PA H as rs)(e:H q=some (.tup r.vs)):PA H (as++[q]) (rs++[r]):=by
 refine⟨by rw[Kj,Kj,h.1];rfl,λi q' r' e1 e2=>?_⟩
 rcases Lm i as.length with hi|hi
 ·rw[KR hi] at e1;rw[KR (by rw[<- h.1];exact hi)] at e2
  exact h.2 i q' r' e1 e2
 ·have h1:=h.1;rw[KL hi] at e1;rw[KL (by lia),<- h1] at e2
  obtain⟨hj,rfl⟩:=Kl.mp e1;obtain⟨hj2,rfl⟩:=Kl.mp e2;have:i-as.length=0:=by simp at hj;lia
  simp only[this,Mp];exact e
def PA.keep{rs:List Row}(h:PA H as rs)(k:KB ex H H')(hx:NT ex H):PA H' as rs:=⟨h.1,λi q r e1 e2=>k _ _ (h.2 i q r e1 e2) λz=>hx q z _ (h.2 i q r e1 e2)⟩
def fN{D:Addr}(h:H D=some (.lst ys)):NT [D] H:=λb hb xs e=>by
 rw[K0.mp hb,h] at e;cases e
def BD(H:Hp)(a:Addr)(rs:List Row):Prop:=∃as:List Addr,H a=some (.tup (as.map V.ref))/\PA H as rs
def BD.keep{rs:List Row}(h:BD H a rs)(k:KB ex H H')(hx:NT ex H):BD H' a rs:=by
 obtain⟨as,h1,h2⟩:=h;exact⟨as,k _ _ h1 λz=>hx a z _ h1,h2.keep k hx⟩
def BD.kb{rs:List Row}(h:BD H a rs)(k:KB [] H H'):BD H' a rs:=h.keep k (NT.nil _)
def zq:Sp:=λvs H Q _=>∃(p dq:Addr) (m n:Nat),vs=[.ref p,.int (m:Nat)]/\bC H p dq n/\n<2^37/\m<=60/\∀(rs:List Row) (a:Addr) H',rs.length<=m->(∀r∈rs,r.Ok rs.length)->BD H' a rs->bC H' p dq (n+1+5*m)->KB [p,dq] H H'->Q (.ref a) H'
def Ao(T:Txt K mg)(F:HasFn K mg "_law_program" cM ["deck","most"])(h_law_draw:ao P w K mg base aY 2 "_law_draw" ["deck","most"] e9)(h_law_row:ao P w K mg base aY 4 "_law_row" ["deck","goals"] (C9 K)):ao P w K mg base aY 5 "_law_program" ["deck","most"] zq:=by
 refine F.fq f7 (λvs H Q E h=>?_) (λf cdv A outer s H vs Q E hr h=>?_)
 ·obtain⟨p,dq,m,n,rfl,_⟩:=h;rfl
 ·have hu:=aU hr;obtain⟨p,dq,m,n,rfl,hd,hn,hm,q⟩:=h;refine⟨_,(Z.ai (Z.se (i:=2) f7.nd (Z.fc h_law_draw (Z.cons (Z.v 0) (Z.cons (Z.op (Z.aH K rfl) (Z.v 1) Z.int) Z.nil))))
   (Z.av (Z.ret (Z.ct (Z.d4 K rfl) rfl T.cJ (by decide +kernel) (Z.cons (Z.xU (osc:=af cM) (ON:=["deck","most","many"]) (own:=["k"]) (N:=["k","deck","most","many"]) (aA.of rfl (by decide +kernel)) (Z.lH rfl T.cB (Z.cons (Z.v 2) Z.nil)) (λnd _ _ _ _=>(Z.aM (i:=0) nd rfl (by right))) (λ_ _ _ _=>Z.tF) (λ_ _ _ _=>(Z.fc h_law_row (Z.cons (Z.v 1) (Z.cons (Z.v 3) Z.nil))))) Z.nil))))),?_⟩
  refine ar λN hN=>?_;nofun;refine⟨p,dq,(m:Int)+1,n,rfl,hd,by lia,by lia,by lia,λv H1 hv D1 k1=>?_⟩
  subst hN;nofun;refine⟨by lia,by lia,?_⟩
  rw[KU];refine jj (Km (show v<=1000 by lia) (by decide)) (λD i ys H'=>H1 D=none/\H' D=some (.lst ys)/\i<=v/\bC H' p dq (n+1+5*i)/\KB [p,dq] H1 H'/\∃(as:List Addr) (rs:List Row),ys=as.map V.ref/\rs.length=i/\(∀r∈rs,r.Ok v)/\PA H' as rs) (λD hD=>⟨hD,aa,K4 _,D1.kb (KB.new hD),KB.new hD,[],[],rfl,rfl,(λr hr=>absurd hr KO),rfl,λi q r e=>nomatch e⟩) (λD i ys H' h=>⟨h.2.1,by obtain⟨_,_,_,_,_,as,rs,rfl,e,_,e2⟩:=h;rw[Ki,e2.1,e]⟩) ?_ ?_
  ·rintro D i ys H' R hi ⟨g0,g1,g2,gD,gk,as,rs,rfl,e1,e2,e3⟩ kk;have nD:=D1.new g0;have pD:p≠D:=λz=>nD (by simp[z])
   have qD:dq≠D:=λz=>nD (by simp[z])
   nofun;refine⟨p,dq,v,_,rfl,gD,by lia,by lia,λr a H5 hr hra D5 k5=>?_⟩
   have gD5:=k5 _ _ g1 nD;have e35:PA H5 (as++[a]) (rs++[r]):=(e3.keep k5 gD.nt).snoc hra;refine kk _ _ gD5 ⟨g0,aa,by lia,(D5.keep (KB.set (ex:=[D]) (by simp)) (by simpa using pD) (by simpa using qD)).mono (by lia),λu o e z=>by rw[ae (aq e g0)];exact k5 _ _ (gk _ _ e z) z,as++[a],rs++[r],by rw[K7];rfl,by rw[Kj,e1];rfl,λr' hr'=>?_,e35.keep (KB.set (ex:=[D]) (by simp)) (fN gD5)⟩
   rcases Ld.mp hr' with h|h
   ·exact e2 r' h
   ·rw[K0.mp h];exact hr
  ·rintro D ys H' ⟨g0,g1,g2,gD,gk,as,rs,rfl,e1,e2,e3⟩;exists au g1;intro b hb;have kb:=KB.new (ex:=[]) (o:=.tup (as.map V.ref)) hb;refine q rs b _ (by lia) (by rw[e1];exact e2) ⟨as,aa,e3.keep kb (NT.nil _)⟩ ((gD.kb kb).mono (by lia)) (k1.trans (gk.trans kb.all))
def cq:Option Nat->V
 |none=>.aI
 |some t=>.int (t:Nat)
def CC{X:Cx}{tk:Nat}{tp:Pos}{e1 e2:Expr}{ta:TA}{p pos:Pos}(K:W.Frag)(hK:X.K=K)(hg:Gl X "zip")(hm:X.mg "zip"=none)(ha:QA X [e1,e2] ta)(h1:autoParam (cW e1=true) ℜ0)(h2:autoParam (cW e2=true) ℜ0):QI X (.Tuple es tk tp) (.Call (.Name "zip" p) [e1,e2] [] pos) (yG K ta):=by
 subst hK;exact⟨Cr hg hm ha.h h1 h2⟩
def qy(K:W.Frag)(ta:TA)(σ:L2.St)(H:Hp)(R:It->Hp->Prop):L2.yG K ta σ H R=ta σ H λvs H1=>∃p q:Bool×Addr,vs=[V.ref p.2,V.ref q.2]/\(∃xs,hJ K p.1 H1 p.2 xs)/\(∃ys,hJ K q.1 H1 q.2 ys)/\∀n,R (Ae K (eJ n [p,q])) H1:=rfl
def pB(hn:xs.length<=sizeLine)(Pv:Addr->Nat->List V->Hp->Prop)(h0:∀D,H D=none->Pv D 0 [] (upd H D (.lst [])))(hD:∀D i ys H',Pv D i ys H'->H' D=some (.lst ys)/\ys.length=i)
  (hl:∀D i ys H',Pv D i ys H'->a_ K H' a xs)
  (hs:∀D i ys H' x p (R:VK),xs[i]?=some x->Pv D i ys H'->H' p=none->(∀v H5,H5 D=some (.lst ys)->Pv D (i+1) (ys++[v]) (upd H5 D (.lst (ys++[v])))->R v H5)->te (some (.int i)::some x::σ) (upd H' p (.tup [.int i,x])) R) (hd:∀D ys H',Pv D xs.length ys H'->Q (.ref D) H') :
  iA (z_ K a) 2 (rT K 2 (d6 (aO 0) (d6 (aO 1) lL))) dz te Q σ H:=by
 intro D hD0;refine⟨λi m ys σ' H'=>m=xs.length-i/\i<=xs.length/\Pv D i ys H'/\∃o1 o2,σ'=o1::o2::σ,⟨xs.length,by simp,K4 _,h0 D hD0,none,none,rfl⟩,?_⟩
 rintro i m ys σ' H' ⟨rfl,hi,p,o1,o2,rfl⟩;obtain⟨hDi,hly⟩:=hD _ _ _ _ p;have q:=hl _ _ _ _ p;refine⟨hDi,?_⟩;by_cases hlt:i<xs.length
 ·refine .inr ⟨⟨xs[i],xs,q,by simp[hlt]⟩,by lia,λx H2 y=>?_⟩
  obtain⟨c,y,hy,fr,rfl,rfl⟩:=y;refine Br ?_;unfold dz;dsimp only;rw[if_pos rfl];exact hs D i ys H' y c _ (hy xs q) p fr λv H5 q1 q2=>⟨q1,xs.length-(i+1),by lia,rfl,hlt,q2,_,_,rfl⟩
 ·have e:i=xs.length:=by lia
  subst e;exact .inl ⟨⟨xs,q,rfl⟩,hd D ys H' p⟩
def rh{b:Addr}{n:Nat}(hn:xs.length<=sizeLine)(hyx:xs.length<=ys.length)(Pv:Addr->Nat->List V->Hp->Prop)(h0:∀D,H D=none->Pv D 0 [] (upd H D (.lst [])))(hD:∀D i ws H',Pv D i ws H'->H' D=some (.lst ws)/\ws.length=i)
  (hl:∀D i ws H',Pv D i ws H'->a_ K H' a xs/\a_ K H' b ys)
  (hs:∀D i ws H' x y p (R:VK),xs[i]?=some x->ys[i]?=some y->Pv D i ws H'->H' p=none->(∀v H5,H5 D=some (.lst ws)->Pv D (i+1) (ws++[v]) (upd H5 D (.lst (ws++[v])))->R v H5)->te (some x::some y::σ) (upd H' p (.tup [x,y])) R) (hd:∀D ws H',Pv D (xs.length) ws H'->Q (.ref D) H') :
  iA (Ae K (eJ n [(true,a),(true,b)])) 2 (rT K 2 (d6 (aO 0) (d6 (aO 1) lL))) dz te Q σ H:=by
 intro D hD0;refine⟨λi m ws σ' H'=>m=xs.length-i/\i<=xs.length/\Pv D i ws H'/\∃o1 o2,σ'=o1::o2::σ,⟨xs.length,by simp,K4 _,h0 D hD0,none,none,rfl⟩,?_⟩
 rintro i m ws σ' H' ⟨rfl,hi,p,o1,o2,rfl⟩;obtain⟨hDi,hly⟩:=hD _ _ _ _ p;obtain⟨q1,q2⟩:=hl _ _ _ _ p;have q1':hJ K true H' a xs:=q1;have q2':hJ K true H' b ys:=q2;refine⟨hDi,?_⟩;by_cases hlt:i<xs.length
 ·have hl1:i<ys.length:=by lia
  refine .inr ⟨⟨[xs[i],ys[i]],.cons ⟨xs,q1',by simp[hlt]⟩ (.cons ⟨ys,q2',by simp[hl1]⟩ .nil)⟩,by lia,λx H2 z=>?_⟩
  obtain⟨c,vs,pr,fr,rfl,rfl⟩:=z;obtain⟨y1,vs,rfl,e1,pr⟩:=Paired.dm pr;obtain⟨y2,vs,rfl,e2,pr⟩:=Paired.dm pr;cases pr;refine Br ?_;unfold dz;dsimp only;rw[if_pos rfl];exact hs D i ws H' y1 y2 c _ (e1 xs q1') (e2 ys q2') p fr λv H5 q1 q2=>⟨q1,xs.length-(i+1),by lia,rfl,hlt,q2,_,_,rfl⟩
 ·have e:i=xs.length:=by lia
  subst e;exact .inl ⟨⟨[],(true,n,a),_,[],rfl,.nil,xs,q1',rfl⟩,hd D ws H' p⟩
def vf(sp:List Nat):List (Key×V):=(List.range sp.length).map λi=>(.inl (sp.getD i 0:Int),.int (i:Nat))
theorem tZ(f:α->Int)(g:α->V):∀(l:List α) (x:α),x∈l->(∀y∈l,f y=f x->y=x)->b_ (l.map λy=>((.inl (f y):Key),g y)) (.inl (f x))=some (g x)
 |[],_,h,_=>nomatch h
 |y::l,x,h,u=>by
  by_cases e:f y=f x
  ·have:=u y Kw e;subst this;exact bU rfl
  ·rw[KA,bI (λz=>e (Sum.inl.inj z))];rcases Kv.mp h with rfl|h
   ·exact absurd rfl e
   ·exact tZ f g l x h λz hz=>u z (Kx _ hz)
def jv{k:Nat}(h:k<sp.length):sp.take (k+1)=sp.take k++[sp.getD k 0]:=by
 rw[L6,Kg h,Ks,Kg h];rfl
def jw(l:List Nat)(x:Nat):iV (nZ (l++[x]))=iV (nZ l)++[.int (x:Nat)]:=by
 unfold nZ;rw[K7,ni];rfl
def dF:b6->Option Int
 |.jump g=>some g
 |.zero _ g=>some g
 |_=>none
def oo(r:b6):V:=match dF r with
 |some g=>.int g
 |none=>.aI
def nV:Sp:=λvs H Q _=>∃(p:Addr) (r:b6),vs=[.ref p]/\H p=some (.tup r.vs)/\Q (oo r) H
def wH(T:Txt K mg)(F:HasFn K mg "goal_of" iS ["row"]):ao P w K mg base aY 1 "goal_of" ["row"] nV:=by
 obtain⟨dS,hg_SHAPES,hd0⟩:=T.pP;have hd_SHAPES:lG K dS dc:=hd0;refine F.fq rd (λvs H Q E h=>?_) (λf cdv A outer s H vs Q E hr h=>?_)
 ·obtain⟨p,r,rfl,_⟩:=h;rfl
 ·have hu:=aU hr;obtain⟨p,r,rfl,hp,q⟩:=h;refine⟨_,(Z.av (Z.ret (Z.Iu (Z.aS (Z.HV K rfl) Z.str (Z.JH K rfl rfl hg_SHAPES hd_SHAPES (Z.ix (Z.az K rfl hu) (Z.v 0) Z.int))) (Z.ix (Z.az K rfl hu) (Z.v 0) (Z.un cy Z.int)) Z.aI))),?_⟩;have sp:=aF hp;have kt1:∀{pk:Addr} {xs:List V},GP K pk xs->a_ K H pk xs\/bu K H pk xs:=λh=>.inr (.inr h);obtain⟨w,ws,e0,ed,ef,h⟩:∃(w:Str) (ws:List Str),bS r.vs 0=some (.str w)/\KTD.datumAt w dc=some ws/\(ws.map V.str).all cu=true/\(iW (.str "goal") (ws.map V.str)=true/\bS r.vs (-1)=some (oo r)\/iW (.str "goal") (ws.map V.str)=false/\oo r=.aI):=by
   cases r with
   |jump g=>exact⟨_,_,rfl,(by decide +kernel:KTD.datumAt ("jump":Str) dc=some [("goal":Str)]),rfl,.inl ⟨by decide +kernel,rfl⟩⟩
   |zero b g=>exact⟨_,_,rfl,(by decide +kernel:KTD.datumAt ("zero":Str) dc=some [("box":Str),"goal"]),rfl,.inl ⟨by decide +kernel,rfl⟩⟩
   |put b n=>exact⟨_,_,rfl,(by decide +kernel:KTD.datumAt ("put":Str) dc=some [("box":Str),"number"]),rfl,.inr ⟨by decide +kernel,rfl⟩⟩
   |two u b c=>exact⟨_,_,rfl,(by decide +kernel:∀u:_root_.Fin 3,KTD.datumAt (w2 u) dc=some [("box":Str),"box"]) u,rfl,.inr ⟨by decide +kernel,rfl⟩⟩
   |one u b=>exact⟨_,_,rfl,(by decide +kernel:∀u:_root_.Fin 2,KTD.datumAt (w1 u) dc=some [("box":Str)]) u,rfl,.inr ⟨by decide +kernel,rfl⟩⟩
   |halt=>exact⟨_,_,rfl,(by decide +kernel:KTD.datumAt ("halt":Str) dc=some ([]:List Str)),rfl,.inr ⟨by decide +kernel,rfl⟩⟩
  exists sp,e0;refine⟨_,_,rfl,ed,λpk kt=>⟨pk,_,rfl,kt1 kt,rfl,ef,?_⟩⟩;refine⟨_,rfl,?_⟩;rcases h with ⟨h1,h2⟩|⟨h1,h2⟩
  ·rw[Ko Ky,h1,Ku rfl];simp only[sp,h2];exact q
  ·rw[Ko Ky,h1,Ko Ky];rw[h2] at q;exact q
def b6.setG:b6->Int->b6
 |.jump _,g=>.jump g
 |.zero b _,g=>.zero b g
 |r,_=>r
def b6.gz{r:b6}(h:dF r=some g):∃xs:List V,xs≠[]/\xs.length<=2/\r.vs=xs++[.int g]/\∀g',(r.setG g').vs=xs++[.int g']:=by
 cases r with
 |jump _=>cases h;exact⟨[.str "jump"],by simp,by simp,rfl,λ_=>rfl⟩
 |zero b _=>cases h;exact⟨[.str "zero",.str (d8 b)],by simp,by simp,rfl,λ_=>rfl⟩
 |put=>cases h
 |two=>cases h
 |one=>cases h
 |halt=>cases h
section
variable (cd:List (List (List Nat))) (z:List Nat)
def mE:Nat->Nat->List (RW×Nat)
 |0,_=>[]
 |n+1,p=>if p<z.length then match zY cd z p with
  |none=>[]
  |some x=>x::mE n x.2 else []
def aZ:List (RW×Nat):=mE cd z z.length 0
def aK:List Nat:=0::(aZ cd z).map (·.2)
def gM(en:List Nat)(x:RW×Nat):Option b6:=match dF (nY x) with
 |none=>some (nY x)
 |some g=>if g∈en.map λn:Nat=>(n:Int) then some ((nY x).setG (((en.map λn:Nat=>(n:Int)).idxOf g:Nat):Int)) else none
def lC(en:List Nat):List (RW×Nat)->List Nat->Nat ⊕ List b6
 |x::l,s::ss=>match gM en x with
  |none=>.inl s
  |some r=>match lC en l ss with
   |.inl p=>.inl p
   |.inr rs=>.inr (r::rs)
 |_,_=>.inr []
def Fd:Nat ⊕ List b6:=if (aK cd z).getD (aZ cd z).length 0<z.length then .inl ((aK cd z).getD (aZ cd z).length 0) else lC (aK cd z) (aZ cd z) (aK cd z)
end
section
variable {cd:List (List (List Nat))} {z:List Nat}
theorem sy(hR:n5 cd):∀(n p k:Nat),z.length<=n+p->k<=(mE cd z n p).length->(∀h:k<(mE cd z n p).length,(p::(mE cd z n p).map (·.2)).getD k 0<z.length/\zY cd z ((p::(mE cd z n p).map (·.2)).getD k 0)=some ((mE cd z n p)[k]))/\(k=(mE cd z n p).length->(p::(mE cd z n p).map (·.2)).getD k 0<z.length->zY cd z ((p::(mE cd z n p).map (·.2)).getD k 0)=none)
 |0,p,k,hn,hk=>by
  have hk0:k=0:=by simpa[mE] using hk
  subst hk0;refine⟨λh=>absurd h (by simp[mE]),λ_ h=>?_⟩
  have:(p::(mE cd z 0 p).map (·.2)).getD 0 0=p:=rfl;rw[this] at h;lia
 |n+1,p,k,hn,hk=>by
  by_cases c:p<z.length
  ·cases e:zY cd z p with
   |none =>
    have es:mE cd z (n+1) p=[]:=by rw[mE,Ku c,e]
    rw[es] at hk ⊢;have hk0:k=0:=by simpa using hk
    subst hk0;exact⟨λh=>absurd h (by simp),λ_ _=>e⟩
   |some x =>
    have es:mE cd z (n+1) p=x::mE cd z n x.2:=by rw[mE,Ku c,e]
    rw[es] at hk ⊢;have hp:=(BR hR e).2.2.2
    cases k with
    |zero=>exact⟨λ_=>⟨c,e⟩,λh=>absurd h (by simp)⟩
    |succ k =>
     obtain⟨i1,i2⟩:=sy hR n x.2 k (by lia) (by simpa using hk)
     refine⟨λh=>?_,λh=>?_⟩
     ·have:=i1 (by simpa using h)
      simpa using this
     ·have:=i2 (by simpa using h)
      simpa using this
  ·have es:mE cd z (n+1) p=[]:=by rw[mE,Ko c]
   rw[es] at hk ⊢;have hk0:k=0:=by simpa using hk
   subst hk0;exact⟨λh=>absurd h (by simp),λ_ h=>absurd h c⟩
def nq(hR:n5 cd){k:Nat}(h:k<(aZ cd z).length):(aK cd z).getD k 0<z.length/\zY cd z ((aK cd z).getD k 0)=some ((aZ cd z)[k]):=(sy hR z.length 0 k (by lia) (Me h)).1 h
def o_(hR:n5 cd)(h:(aK cd z).getD (aZ cd z).length 0<z.length):zY cd z ((aK cd z).getD (aZ cd z).length 0)=none:=(sy hR z.length 0 _ (by lia) (Kp _)).2 rfl h
def fL:(aK cd z).length=(aZ cd z).length+1:=by unfold aK;rw[K2,Ki]
def iN{k:Nat}(h:k<(aZ cd z).length):(aK cd z).getD (k+1) 0=((aZ cd z)[k]).2:=by
 unfold aK;rw[Ks,OI,Kn,Kg h];rfl
def j5(hR:n5 cd){k:Nat}(h:k<(aZ cd z).length):(aK cd z).getD k 0<(aK cd z).getD (k+1) 0/\(aK cd z).getD (k+1) 0<=z.length:=by
 obtain⟨_,e⟩:=nq hR h;have:=(BR hR e).2.2.2;rw[iN h];exact this
theorem iL(hR:n5 cd)(i:Nat):∀d,i+d+1<=(aZ cd z).length->(aK cd z).getD i 0<(aK cd z).getD (i+d+1) 0
 |0,h=>(j5 hR (by lia)).1
 |d+1,h=>Nz (iL hR i d (by lia)) (j5 hR (show i+d+1<(aZ cd z).length by lia)).1
def pw(hR:n5 cd){j:Nat}(hi:i<=(aZ cd z).length)(hj:j<=(aZ cd z).length)(h:(aK cd z).getD i 0=(aK cd z).getD j 0):i=j:=by
 rcases Ow i j with c|c|c
 ·have:=iL (z:=z) hR i (j-i-1) (by lia)
  rw[show i+(j-i-1)+1=j by lia] at this
  lia
 ·exact c
 ·have:=iL (z:=z) hR j (i-j-1) (by lia)
  rw[show j+(i-j-1)+1=i by lia] at this
  lia
theorem iG(hR:n5 cd):∀k,k<=(aZ cd z).length->k<=(aK cd z).getD k 0/\(aK cd z).getD k 0<=z.length
 |0,_=>⟨K4 _,by unfold aK;exact K4 _⟩
 |k+1,h=>by
  have h1:=(iG hR k (by lia)).1
  have h2:=j5 hR (show k<(aZ cd z).length by lia)
  exact⟨by lia,h2.2⟩
def Ax(hR:n5 cd)(h:t<=(aZ cd z).length):b_ (vf (aK cd z)) (.inl ((aK cd z).getD t 0:Int))=some (.int (t:Nat)):=by
 have sl:=fL (cd:=cd) (z:=z);refine tZ (λi=>(((aK cd z).getD i 0:Nat):Int)) (λi=>V.int (i:Nat)) (List.range (aK cd z).length) t (Ln.mpr (by lia)) λy hy e=>?_
 have:=Ln.mp hy;have e':(((aK cd z).getD y 0:Nat):Int)=(((aK cd z).getD t 0:Nat):Int):=e;exact pw (z:=z) hR (by lia) h (by lia)
def tO(h:g∉sp.map λn:Nat=>(n:Int)):b_ (vf sp) (.inl g)=none:=by
 unfold vf;have key:∀l:List Nat,(∀i∈l,((sp.getD i 0:Nat):Int)≠g)->b_ (l.map λi=>((.inl ((sp.getD i 0:Nat):Int):Key),V.int (i:Nat))) (.inl g)=none:=λl=>by
  induction l with
  |nil=>intro _;rfl
  |cons i l ih =>
   intro hl;rw[KA,bI (λz=>hl i Kw (Sum.inl.inj z))];exact ih λj hj=>hl j (Kx _ hj)
 refine key _ λi hi e=>h ?_;have hi':=Ln.mp hi;rw[<- e];refine Ll.mpr ⟨sp.getD i 0,?_,rfl⟩;rw[Ks,Kg hi'];exact K9 hi'
def BG(hR:n5 cd)(h:g∈(aK cd z).map λn:Nat=>(n:Int)):b_ (vf (aK cd z)) (.inl g)=some (.int ((((aK cd z).map λn:Nat=>(n:Int)).idxOf g:Nat):Int)):=by
 have hl:=List.idxOf_lt_length_of_mem h;have eg:=List.getElem_idxOf hl;have sl:=fL (cd:=cd) (z:=z);rw[Ki] at hl;have:=Ax (z:=z) hR (t:=((aK cd z).map λn:Nat=>(n:Int)).idxOf g) (by lia)
 have e2:(((aK cd z).getD (((aK cd z).map λn:Nat=>(n:Int)).idxOf g) 0:Nat):Int)=g:=by
  rw[OB] at eg;rw[Ks,Kg hl];exact eg
 rw[e2] at this;exact this
def rn(hR:n5 cd):fV [] (vf (aK cd z))=vf (aK cd z):=by
 rw[Y.mM _ [] ?_,L8];rw[L8];unfold vf;rw[Mr];have sl:=fL (cd:=cd) (z:=z);refine Mi.mpr (N3 (λ{i j} hi hj hne e=>?_) (OE (n:=(aK cd z).length)));have h1:=Ln.mp hi;have h2:=Ln.mp hj;have e':(((aK cd z).getD i 0:Nat):Int)=(((aK cd z).getD j 0:Nat):Int):=Sum.inl.inj e;exact hne (pw (z:=z) hR (by lia) (by lia) (by lia))
end
def qj(xs:List V)(v:V):fE (xs++[v]) none (some (-1))=xs:=by
 unfold fE;rw[HT.dk,LI,NP];have:HT.bM (xs++[v]).length (xs++[v]).length (some (-1))=xs.length:=by
  unfold HT.bM;simp only[show ((-1:Int)<0)=True from eq_true (by decide),MT,Kj,K2,Lo]
  lia
 rw[this,Pg]
def so:Sp:=λvs H Q _=>∃(a:Addr) (xs:List V) (v:V) (g:Int),vs=[.ref a,.int g]/\H a=some (.tup (xs++[v]))/\xs≠[]/\xs.length<=2/\∀p H',KB [] H H'->H' p=some (.tup (xs++[.int g]))->Q (.ref p) H'
def AM(T:Txt K mg)(F:HasFn K mg "with_goal" fM ["row","goal"]):ao P w K mg base aY 1 "with_goal" ["row","goal"] so:=by
 refine F.fq n9 (λvs H Q E h=>?_) (λf cdv A outer s H vs Q E hr h=>?_)
 ·obtain⟨a,xs,v,g,rfl,_⟩:=h;rfl
 ·have hu:=aU hr;obtain⟨a,xs,v,g,rfl,ha,hne,hl,q⟩:=h;refine⟨_,(Z.av (Z.ret (Z.op (Z.aH K rfl) (Z.slice (Z.wI K rfl) (Z.v 0) Z.p9 (Z.gU (Z.un cy Z.int))) (Z.tup (Z.cons (Z.v 1) Z.nil))))),?_⟩;exists aF ha;refine⟨a,_,rfl,bu.of ha,λz=>?_,λp hp=>?_⟩
  ·have h1:=z.2;have:HT.bM (xs++[v]).length (xs++[v]).length (some (-1))=xs.length:=by
    unfold HT.bM;simp only[show ((-1:Int)<0)=True from eq_true (by decide),MT,Kj,K2,Lo]
    lia
   rw[this,Kj] at h1;simp at h1
  rw[qj];obtain⟨k1,s1⟩:=e8 hp (.tup xs);generalize upd H p _=H1 at *;refine⟨by decide,λp2 hp2=>?_⟩
  obtain⟨k2,s2⟩:=e8 hp2 (.tup [.int g]);have s12:=k2.n s1;generalize upd H1 p2 _=H2 at *;simp only[L2.Ap.addRef,s12,s2];refine⟨hne,by simp,Km (show _<=3 by simp;lia) (by decide),λp3 hp3=>?_⟩
  exact q _ _ (k1.trans (k2.trans (KB.new hp3))) aa
def Ca{C S:Addr}(x:fB K C S f "place")(F:wj K "__init__" "NoBits.__init__" aR f fd)(hS:mg "ShortError"=some (.ref S)):dP P w K mg base (oB P w) 1 f fd ["self","place"] (Gb C "place"):=by
 refine F.JG gW (λvs H Q E h=>?_) (λcdv A outer s H vs Q E hr h=>?_)
 ·obtain⟨e,i,rfl,_⟩:=h;rfl
 ·obtain⟨e,i,rfl,hi,he,q⟩:=h;refine⟨_,Z.ai (Z.expr ⟨Cz (pl:=?pl) x ?g hS (Z.v 0) (Z.J7 (Z.Jm (Z.Jr (Z.v 1) Z.Jz))) ?e⟩) (Z.av ⟨EW x (Z.v 0) (Z.v 1)⟩),?_⟩
  case g=>rfl
  case e=>rfl
  refine⟨e,i,rfl,hi,he,λH' sm=>⟨e,i,rfl,sm _ _ he,λH2 d a1 a2 a3 a4=>q H2 d (λb o z n=>a1 b o (sm _ _ z) n) a2 a3 ?_⟩⟩
  cases z:H d with
  |none=>rfl
  |some o=>rw[sm _ _ z] at a4;cases a4
def F_(H H':Hp)(N e d:Addr)(i:Int):Prop:=KB [] H H'/\H e=none/\H d=none/\H' e=some (.ext (gy e (.ref N) (some d)))/\H' d=some (.xd [("place",.int i)])
def F_.up{H0:Hp}{N e d:Addr}{i:Int}(h:F_ H H' N e d i)(k:KB [] H0 H):F_ H0 H' N e d i:=⟨k.trans h.1,k.free (by simp) h.2.1,k.free (by simp) h.2.2.1,h.2.2.2⟩
def sS(h:kM H H'):KB [] H H':=λb o e _=>h b o e
def mZ(N:Addr):Sp:=λvs H Q E=>∃(a d:Addr) (st:Nat) (r:b6) (kvs:List (Key×V)),vs=[.ref a,.int (st:Nat),.ref d]/\H a=some (.tup r.vs)/\H d=some (.dK kvs)/\st<=1000000 /\
 (dF r=none->∀p H',KB [] H H'->H' p=some (.tup r.vs)->Q (.ref p) H') /\
 (∀g j,dF r=some g->b_ kvs (.inl g)=some (.int j)->∀p H',KB [] H H'->H' p=some (.tup (r.setG j).vs)->Q (.ref p) H') /\
 (∀g,dF r=some g->b_ kvs (.inl g)=none->∀e dd H',F_ H H' N e dd (st:Nat)->E (.ref N) (some e) H') /\
 ∀g v,dF r=some g->b_ kvs (.inl g)=some v->∃j,v=.int j
def Ay{N:Addr}(vs:List V)(H:Hp)(Q:VK)(E E':XK)(hE:∀c d H,E c d H->E' c d H)(h:mZ N vs H Q E):mZ N vs H Q E':=by
 obtain⟨a,d,st,r,kvs,h1,h2,h3,h4,h5,h6,h7,h8⟩:=h;exact⟨a,d,st,r,kvs,h1,h2,h3,h4,h5,h6,λg e1 e2 e dd H' x=>hE _ _ _ (h7 g e1 e2 e dd H' x),h8⟩
def BO{fI:Addr}(T:Txt K mg)(hC_NoBits:mg "NoBits"=some (.ref C_NoBits))(xI_NoBits:fB K C_NoBits C_ShortError fI "place")(nI_NoBits:dP P w K mg base (oB P w) 1 fI fdI ["self","place"] (Gb C_NoBits "place"))(bI_NoBits:Binds K fdI ["self","place"] [])(F:HasFn K mg "goal_numbered" cC ["row","start","numbers"])(hgoal_of:ao P w K mg base aY 1 "goal_of" ["row"] nV)(hwith_goal:ao P w K mg base aY 1 "with_goal" ["row","goal"] so):ao P w K mg base (oB P w) 3 "goal_numbered" ["row","start","numbers"] (mZ C_NoBits):=by
 refine F.GK eU (λvs H Q E h=>?_) (λf cdv A outer s H vs Q E hr h=>?_)
 ·obtain⟨a,d,st,r,kvs,rfl,_⟩:=h;rfl
 ·have hu:=aU hr;obtain⟨a,d,st,r,kvs,rfl,ha,hd,hst,q1,q2,q3,q4⟩:=h;refine⟨_,(Z.ai (Z.se (i:=3) eU.nd (Z.fc hgoal_of (Z.cons (Z.v 0) Z.nil)))
   (Z.ai (Z.cS (Z.aS bY (Z.v 3) Z.aI) (Z.av (Z.ret (Z.v 0))) Z.ba)
   (Z.ai (Z.cS (Z.aS (Y.yd hu) (Z.v 3) (Z.v 2)) (Z.av (Z.ye rfl xI_NoBits nI_NoBits bI_NoBits hC_NoBits (Z.v 1))) Z.ba)
   (Z.av (Z.ret (Z.fc hwith_goal (Z.cons (Z.v 0) (Z.cons (Z.HB hu (Z.v 2) (Z.v 3)) Z.nil)))))))),?_⟩
  refine ar λN hN=>?_;nofun;refine⟨a,_,rfl,ha,?_⟩;subst hN;unfold oo
  cases c:dF r with
  |none =>
   refine ar λN hN=>?_;nofun;exact q1 c _ _ (KB.refl _ _) ha
  |some g =>
   refine ar λN hN=>?_;exists Ko (show ¬ V.int g=V.aI from V.noConfusion);subst hN;refine ar λN hN=>?_;refine qO λA B hA hB=>?_;nofun;refine⟨d,_,rfl,gw.k (k:=.inl g) hd,?_⟩
   cases cv:b_ kvs (.inl g) with
   |none =>
    refine⟨true,rfl,?_⟩;rw[Ku rfl,hA];nofun;refine⟨Lf (show _<=1000000 by lia) (KI (show 1000000<2^20 by decide) (Mg (by decide) (by decide))),λe dd H' n1 n2 sm h1 h2=>?_⟩
    exact jA (q3 g c cv e dd H' ⟨sS sm,n1,n2,h1,h2⟩)
   |some v =>
    obtain⟨j,rfl⟩:=q4 g v c cv;refine⟨false,rfl,?_⟩;rw[Ko Ky,hB];show N _ _;rw[hN];clear hN N hA hB A B;nofun;have dg:gw H d (.int g) (some (.int j)):=by
     have:=gw.k (k:=.inl g) hd;rw[cv] at this;exact this
    refine⟨d,_,rfl,dg,?_⟩;obtain⟨xs,x1,x2,x3,x4⟩:=b6.gz c;rw[x3] at ha;exact⟨a,xs,_,_,rfl,ha,x1,x2,λp H' k e=>q2 g j c cv p H' k (by rw[e,x4])⟩
theorem om:∀{l:List (RW×Nat)} {ss:List Nat} {i:Nat} {ms:List b6} {x:RW×Nat} {s:Nat},(l.take i).map (gM en)=ms.map some->l[i]?=some x->gM en x=none->ss[i]?=some s->lC en l ss=.inl s
 |[],_,_,_,_,_,_,h,_,_=>nomatch h
 |_::_,[],_,_,_,_,_,_,_,h=>nomatch h
 |y::l,t::ss,0,_,x,s,_,h1,h2,h3=>by
  cases h1;cases h3
  rw[lC,h2]
 |y::l,t::ss,i+1,ms,x,s,h0,h1,h2,h3=>by
  cases ms with
  |nil=>cases h0
  |cons m ms =>
   rw[List.take_succ_cons,KA,KA] at h0
   injection h0 with e1 e2
   rw[lC,e1];dsimp only;rw[om e2 (by simpa using h1) h2 (by simpa using h3)]
theorem rm:∀{l:List (RW×Nat)} {ss:List Nat} {ms:List b6},l.length<=ss.length->l.map (gM en)=ms.map some->lC en l ss=.inr ms
 |[],_,[],_,_=>by rw[lC];intro x l s ss e;cases e
 |[],_,_::_,_,h=>nomatch h
 |_::_,[],_,h,_=>absurd h (by simp)
 |_::_,_::_,[],_,h=>nomatch h
 |y::l,t::ss,m::ms,h1,h2=>by
  rw[KA,KA] at h2
  injection h2 with e1 e2
  rw[lC,e1];dsimp only;rw[rm (by simpa using h1) e2]
def MA(H:Hp)(as:List Addr)(rs:List b6):Prop:=as.length=rs.length/\∀(i:Nat) (q:Addr) (r:b6),as[i]?=some q->rs[i]?=some r->H q=some (.tup r.vs)
def MA.snoc{rs:List b6}{q:Addr}{r:b6}(h:MA H as rs)(e:H q=some (.tup r.vs)):MA H (as++[q]) (rs++[r]):=by
 refine⟨by rw[Kj,Kj,h.1];rfl,λi q' r' e1 e2=>?_⟩
 rcases Lm i as.length with hi|hi
 ·rw[KR hi] at e1;rw[KR (by rw[<- h.1];exact hi)] at e2
  exact h.2 i q' r' e1 e2
 ·have h1:=h.1;rw[KL hi] at e1;rw[KL (by lia),<- h1] at e2
  obtain⟨hj,rfl⟩:=Kl.mp e1;obtain⟨hj2,rfl⟩:=Kl.mp e2;have:i-as.length=0:=by simp at hj;lia
  simp only[this,Mp];exact e
def MA.keep{rs:List b6}(h:MA H as rs)(k:KB ex H H')(hx:NT ex H):MA H' as rs:=⟨h.1,λi q r e1 e2=>k _ _ (h.2 i q r e1 e2) λz=>hx q z _ (h.2 i q r e1 e2)⟩
def Hi(H:Hp)(a:Addr)(rs:List b6):Prop:=∃as:List Addr,H a=some (.tup (as.map V.ref))/\MA H as rs
def Hi.kb{rs:List b6}(h:Hi H a rs)(k:KB [] H H'):Hi H' a rs:=by
 obtain⟨as,h1,h2⟩:=h;exact⟨as,k.n h1,h2.keep k (NT.nil _)⟩
def tV(N:Addr):Sp:=λvs H Q E=>∃(b:Addr) (bk:List (List Int)) (z:List Nat),vs=[.str (wd z),.ref b]/\sk H b bk/\Bk bk/\cH z/\z.length<=10000 /\
 (∀p,Fd (gx bk) z=.inl p->∀e dd H',F_ H H' N e dd (p:Nat)->E (.ref N) (some e) H')/\∀ms,Fd (gx bk) z=.inr ms->∀t H',KB [] H H'->Hi H' t ms->Q (.ref t) H'
def xw{fI:Addr}(T:Txt K mg)(hC_NoBits:mg "NoBits"=some (.ref C_NoBits))(xI_NoBits:fB K C_NoBits C_ShortError fI "place")(nI_NoBits:dP P w K mg base (oB P w) 1 fI fdI ["self","place"] (Gb C_NoBits "place"))(bI_NoBits:Binds K fdI ["self","place"] [])(F:HasFn K mg "read_rows" cE ["bits","book"])(hcodes_of:ao P w K mg base aY 6 "codes_of" ["book"] (nS K))(hrow_at:ao P w K mg base aY 5 "row_at" ["codes","bits","place"] (nR K))(hgoal_numbered:ao P w K mg base (oB P w) 3 "goal_numbered" ["row","start","numbers"] (mZ C_NoBits)):ao P w K mg base (oB P w) 7 "read_rows" ["bits","book"] (tV C_NoBits):=by
 have hm_goal_numbered:=Ay (N:=C_NoBits);refine F.GK cp (λvs H Q E h=>?_) (λf cdv A outer s H vs Q E hr h=>?_)
 ·obtain⟨b,bk,z,rfl,_⟩:=h;rfl
 ·have hu:=aU hr;obtain⟨b,bk,z,rfl,hb,hB,hz,hzl,qx,q⟩:=h;have hR:=(oP hB).1;refine⟨_,(Z.ai (Z.se (i:=2) cp.nd (Z.fc hcodes_of (Z.cons (Z.v 1) Z.nil)))
   (Z.ai (Z.se (i:=3) cp.nd (Z.lst Z.nil))
   (Z.ai (Z.se (i:=4) cp.nd (Z.lst (Z.cons Z.int Z.nil)))
   (Z.ai (Z.r8 PassesOwn.leaving (Z.aS iE (Z.ix (Z.az K rfl hu) (Z.v 4) (Z.un cy Z.int)) (Z.cb (Z.bB K rfl) rfl T.b7 (by decide +kernel) (Z.cons (Z.v 0) Z.nil))) (Z.ai (Z.se (i:=5) cp.nd (Z.fc hrow_at (Z.cons (Z.v 2) (Z.cons (Z.v 0) (Z.cons (Z.ix (Z.az K rfl hu) (Z.v 4) (Z.un cy Z.int)) Z.nil)))))
   (Z.ai (Z.cS (Z.aS bY (Z.v 5) Z.aI) (Z.av (Z.ye rfl xI_NoBits nI_NoBits bI_NoBits hC_NoBits (Z.ix (Z.az K rfl hu) (Z.v 4) (Z.un cy Z.int)))) Z.ba)
   (Z.ai (Z.expr (Z.app K (Z.v 3) (Z.cons (Z.ix (Z.az K rfl hu) (Z.v 5) Z.int) Z.nil)))
   (Z.av (Z.expr (Z.app K (Z.v 4) (Z.cons (Z.ix (Z.az K rfl hu) (Z.v 5) Z.int) Z.nil))))))))
   (Z.ai (Z.se (i:=6) cp.nd (Z.ct (pN K rfl) rfl T.DX (by decide +kernel) (Z.cons (Z.xU (osc:=af cE) (ON:=["bits","book","codes","rows","starts","found","numbers"]) (own:=["number","start"]) (N:=["number","start","bits","book","codes","rows","starts","found","numbers"]) (aA.of rfl (by decide +kernel)) (Z.CS K rfl rfl T.dZ (Z.cons (Z.v 4) Z.nil)) (λnd _ _ _ _=>(Z.nM (n:=2) K rfl rfl (Z.bJ (Z.aM (i:=0) nd rfl (by right)) (Z.bJ (Z.aM (i:=1) nd rfl (by right)) Z.iq)))) (λ_ _ _ _=>Z.tF) (λ_ _ _ _=>(Z.tup (Z.cons (Z.v 1) (Z.cons (Z.v 0) Z.nil))))) Z.nil)))
   (Z.av (Z.ret (Z.ct (Z.d4 K rfl) rfl T.cJ (by decide +kernel) (Z.cons (Z.Jw rfl (osc:=af cE) (ON:=["bits","book","codes","rows","starts","found","numbers"]) (own:=["row","start"]) (N:=["row","start","bits","book","codes","rows","starts","found","numbers"]) (aA.of rfl (by decide +kernel)) (CC K rfl rfl T.tL (Z.cons (Z.v 3) (Z.cons (Z.v 4) Z.nil))) (λnd _ _ _ _=>(Z.nM (n:=2) K rfl rfl (Z.bJ (Z.aM (i:=0) nd rfl (by right)) (Z.bJ (Z.aM (i:=1) nd rfl (by right)) Z.iq)))) (λ_ _ _ _=>Z.tF) (λ_ _ _ _ _=>(Z.fG hgoal_numbered (Z.cons (Z.v 0) (Z.cons (Z.v 1) (Z.cons (Z.v 8) Z.nil))) (jr:=hm_goal_numbered) (hta:=λ_ _ _ _ h q=>by obtain⟨a0,b0,a1,b1,a2,b2,q⟩:=q;exact⟨a0,b0,a1,b1,a2,b2,h _ _ q⟩)))) Z.nil))))))))),?_⟩
  refine ar λN hN=>?_;nofun;refine⟨b,bk,rfl,hb,hB,λca H1 hca k1 cdl=>?_⟩;subst hN;generalize gx bk=cd at *;have sl:=fL (cd:=cd) (z:=z);have rl:(aZ cd z).length<=10000:=by
   have:=iG (z:=z) hR (aZ cd z).length (Kp _);lia
  have eu:=λk (h:k<(aZ cd z).length)=>j5 (z:=z) hR h;have e0:(aK cd z).take 1=[0]:=rfl;have ra_:=λk (h:k<(aZ cd z).length)=>nq (z:=z) hR h;have rd_:Fd cd z=if (aK cd z).getD (aZ cd z).length 0<z.length then .inl ((aK cd z).getD (aZ cd z).length 0) else lC (aK cd z) (aZ cd z) (aK cd z):=rfl
  have re_:=o_ (z:=z) hR;have su:=λk (h:k<(aZ cd z).length)=>iN (cd:=cd) (z:=z) h;have mg_:=rn (z:=z) hR;have kvS:=λg=>BG (z:=z) hR (g:=g);have eb:=λk (h:k<=(aZ cd z).length)=>(iG (z:=z) hR k h).2;generalize aK cd z=en at *;generalize aZ cd z=l at *;refine ar λN hN=>?_;nofun;refine⟨K4 _,λra hra=>?_⟩;obtain⟨k2,s2⟩:=e8 hra (.lst []);generalize upd H1 ra _=H2 at *;subst hN;refine ar λN hN=>?_;nofun;refine⟨by decide,λsa hsa=>?_⟩
  have k3:=KB.new (ex:=[]) (o:=.lst [.int 0]) hsa;have s3:upd H2 sa (.lst [.int 0]) sa=some (.lst (iV (nZ (en.take (0+1))))):=by rw[aa,N2,e0];rfl
  have s23:=k3.n s2;have k13:=k2.trans k3;have hsa1:H1 sa=none:=k2.free (by simp) hsa
  have nrs:ra≠sa:=λz=>by rw[z,hsa] at s2;cases s2
  generalize upd H2 sa (.lst [.int 0])=H3 at *;subst hN;refine ar λN hN=>?_;refine⟨λm σ H'=>∃(k:Nat) (as:List Addr) (o5:Option V),k<=l.length/\m=l.length-k/\KB [] H1 H'/\H' ra=some (.lst (as.map V.ref))/\MA H' as ((l.take k).map nY)/\H' sa=some (.lst (iV (nZ (en.take (k+1)))))/\σ=[some (.str (wd z)),some (.ref b),some (.ref ca),some (.ref ra),some (.ref sa),o5,none],⟨l.length,0,[],none,K4 _,rfl,k13,s23,⟨rfl,λi q r e=>nomatch e⟩,s3,rfl⟩,?_⟩;rintro m σ H' ⟨k,as,o5,hk,rfl,hkb,gr,pm,gs,rfl⟩;have es:bS (iV (nZ (en.take (k+1)))) (-1)=some (.int ((en.getD k 0:Nat):Int)):=by
   rw[jv (show k<en.length by lia),jw]
   exact fS _ _
  exists au gs,es,ay;refine⟨Km hzl (by decide),?_⟩
  by_cases c:((en.getD k 0:Nat):Int)<(z.length:Int)
  ·rw[Ku c];refine⟨λσ' H'=>∃m',m'<l.length-k/\∃(k:Nat) (as:List Addr) (o5:Option V),k<=l.length/\m'=l.length-k/\KB [] H1 H'/\H' ra=some (.lst (as.map V.ref))/\MA H' as ((l.take k).map nY)/\H' sa=some (.lst (iV (nZ (en.take (k+1)))))/\σ'=[some (.str (wd z)),some (.ref b),some (.ref ca),some (.ref ra),some (.ref sa),o5,none],λ_ _ h=>h,?_⟩;refine⟨ca,cd,z,_,rfl,cdl.kb hkb,hR,hz,by lia,λv H5 k5 o=>?_⟩
   rw[sX] at o;rcases Lm k l.length with hlt|hge
   ·obtain⟨_,x1⟩:=ra_ k hlt;rw[x1] at o;obtain⟨m1,m2,m3,m4,m5⟩:=BR hR x1;obtain⟨t,r,rfl,ht,hr'⟩:=o;rw[m2] at hr';rw[Ko (show ¬ V.ref t=V.aI from V.noConfusion)];have gr5:=k5.n gr;have gs5:=k5.n gs;have pm5:=pm.keep k5 (NT.nil _);have pl:=pm.1;rw[Ki,KD] at pl;refine⟨.inl ⟨rfl,_,a_.of gr5⟩,?_⟩;show B0 K (V.ref t) (.int 0) H5 _;exists aF ht;refine⟨ra,_,_,rfl,rfl,gr5,Lf (show _<=10000 by rw[Ki];lia) (by decide),?_⟩
    have er:as.map V.ref++[V.ref r]=(as++[r]).map V.ref:=by rw[K7];rfl
    rw[er];have gr6:upd H5 ra (.lst ((as++[r]).map V.ref)) ra=_:=aa;have k56:KB [ra] H5 (upd H5 ra (.lst ((as++[r]).map V.ref))):=KB.set (by simp)
    generalize upd H5 ra (.lst ((as++[r]).map V.ref))=H6 at *;have ntr:=fN gr5;have hr6:=k56 _ _ hr' λz=>ntr _ z _ hr';have pm6:=(pm5.keep k56 ntr).snoc hr6;have ht6:=k56 _ _ ht λz=>ntr _ z _ ht;have gs6:=k56 _ _ gs5 (by simpa using nrs.symm)
    have kf:KB [] H1 H6:=λu o e _=>k56 _ _ (k5.n (hkb _ _ e (by simp))) (by simpa using aq e hra)
    refine⟨.inl ⟨rfl,_,a_.of gs6⟩,?_⟩;exists aF ht6;refine⟨sa,_,_,rfl,rfl,gs6,Lf (show _<=10001 by rw[cx,KD];lia) (by decide),?_⟩
    rw[<- su k hlt,<- jw,<- jv (show k+1<en.length by lia)]
    refine⟨l.length-(k+1),by lia,k+1,as++[r],_,hlt,rfl,λu o e _=>?_,?_,?_,aa,rfl⟩
    ·rw[ae (aq e hsa1)];exact kf.n e
    ·rw[ae nrs];exact gr6
    ·rw[show l.take (k+1)=l.take k++[l[k]] by rw[L6,Kg hlt];rfl,K7]
     exact pm6.keep (KB.set (ex:=[sa]) (by simp)) (fN gs6)
   ·have hkn:k=l.length:=by lia
    subst hkn;have c':en.getD l.length 0<z.length:=by lia
    rw[re_ c'] at o;obtain rfl:v=.aI:=o;rw[Ku rfl];exists au (k5.n gs),es;refine⟨Lf (show _<=10000 by lia) (KI (show 10000<2^20 by decide) (Mg (by decide) (by decide))),λe dd H' n1 n2 sm h1 h2=>?_⟩
    have X0:F_ H5 H' C_NoBits e dd ((en.getD l.length 0:Nat):Int):=⟨sS sm,n1,n2,h1,h2⟩;exact jA (qx _ (by rw[rd_,Ku c']) e dd H' (X0.up (k1.trans (hkb.trans k5))))
  ·have hkn:k=l.length:=by
    rcases Lm k l.length with h|h
    ·exact absurd (by have:=(ra_ k h).1;lia) c
    ·lia
   subst hkn;rw[Ko c];show N _ _;subst hN;rw[Lq] at pm;rw[Lj (show en.length<=l.length+1 by lia)] at gs
   rw[Ko (by lia)] at rd_
   clear es s3 s23 k13 c;have szl:(iV (nZ en)).length=l.length+1:=by rw[cx,sl]
   refine ar λN hN=>?_;exists au gs;refine⟨⟨_,a_.of gs⟩,?_⟩;refine pB (xs:=iV (nZ en)) (Km (show _<=10001 by rw[szl];lia) (by decide)) (λD i ys H5=>H' D=none/\H5 D=some (.lst ys)/\KB [] H' H5/\i<=en.length/\∃ps:List Addr,ys=ps.map V.ref/\ps.length=i/\∀(j:Nat) (p:Addr),ps[j]?=some p->H5 p=some (.tup [.int ((en.getD j 0:Nat):Int),.int (j:Nat)])) (λD hD=>⟨hD,aa,KB.new hD,K4 _,[],rfl,rfl,λj p e=>nomatch e⟩) (λD i ys H5 h=>⟨h.2.1,by obtain⟨_,_,_,_,ps,rfl,e,_⟩:=h;rw[Ki,e]⟩) (λD i ys H5 h=>a_.of (h.2.2.1 _ _ gs (by simp))) ?_ ?_
   ·rintro D i ys H5 x p R hx ⟨g0,g1,gk,hi,ps,rfl,e1,e2⟩ hp kk;have hlt:i<en.length:=by have:=(Kl.mp hx).1;lia
    have ex:x=.int ((en.getD i 0:Nat):Int):=by
     unfold iV nZ at hx;rw[Kn,Kn,Kg hlt] at hx;rw[Ks,Kg hlt];exact (Option.some.inj hx).symm
    subst ex;have kz:=KB.new (ex:=[]) (o:=.tup [.int i,.int ((en.getD i 0:Nat):Int)]) hp;have g1':=kz.n g1;generalize upd H5 p (.tup [.int i,.int ((en.getD i 0:Nat):Int)])=G at *;nofun;refine⟨by decide,λc hc=>?_⟩
    obtain⟨kc,sc⟩:=e8 hc (.tup [.int ((en.getD i 0:Nat):Int),.int i]);have g1'':=kc.n g1';generalize upd G c _=G2 at *;have kzc:=kz.trans kc;have ntD:=fN g1'';refine kk _ _ g1'' ⟨g0,aa,λu o e _=>by rw[ae (aq e g0)];exact kzc.n (gk _ _ e (by simp)),hlt,ps++[c],by rw[K7];rfl,by rw[Kj,e1];rfl,λj p e=>?_⟩
    have key:G2 p=some (.tup [.int ((en.getD j 0:Nat):Int),.int (j:Nat)]):=by
     rcases Lm j ps.length with hj|hj
     ·rw[KR hj] at e;exact kzc.n (e2 j p e)
     ·rw[KL hj] at e;have hj0:j-ps.length=0:=by have:=(Kl.mp e).1;simp at this;lia
      rw[hj0] at e;cases e;rw[show j=i by lia]
      exact sc
    exact KB.set (ex:=[D]) (by simp) _ _ key λz=>ntD _ z _ key
   ·rintro pl ys H5 ⟨g0,g1,gk,_,ps,rfl,e1,e2⟩;have kvl:(vf en).length=en.length:=by unfold vf;rw[Ki,KZ]
    rw[szl] at e1;refine⟨pl,_,vf en,rfl,g1,⟨by rw[Ki,kvl];lia,λj k x e=>?_⟩,by rw[kvl];lia,λd hd=>?_⟩
    ·unfold vf at e;rw[Kn] at e;obtain⟨i,ei,e⟩:=K8.mp e;obtain⟨hj,ej⟩:=Kl.mp ei;rw[Of] at ej;subst ej;rw[KZ] at hj;cases e;have ep:=Kg (show j<ps.length by lia)
     exact⟨ps[j],by rw[Kn,ep];rfl,e2 j _ ep⟩
    rw[mg_];obtain⟨kd,sd⟩:=e8 hd (.dK (vf en));generalize upd H5 d _=H6 at *;have kk6:=gk.trans kd;have gr6:=kk6.n gr;have gs6:=kk6.n gs;have pm6:=pm.keep kk6 (NT.nil _);show N _ _;subst hN;clear gr gs pm g1 gk e2 kd g0;have al:=pm6.1;rw[Ki] at al;nofun;rw[qy];exists au gr6;refine⟨(true,ra),(true,sa),⟨rfl,rfl⟩,⟨_,a_.of gr6⟩,⟨_,a_.of gs6⟩,λn=>?_⟩;have k06:=k1.trans (hkb.trans kk6);refine rh (xs:=as.map V.ref) (ys:=iV (nZ en)) (Km (show _<=10000 by rw[Ki];lia) (by decide)) (by rw[Ki,szl];lia) (λD i ys G=>H6 D=none/\G D=some (.lst ys)/\KB [] H6 G/\i<=l.length/\∃(ps:List Addr) (ms:List b6),ys=ps.map V.ref/\(l.take i).map (gM en)=ms.map some/\MA G ps ms) (λD hD=>⟨hD,aa,KB.new hD,K4 _,[],[],rfl,rfl,rfl,λj p r e=>nomatch e⟩) (λD i ys G h=>⟨h.2.1,by obtain⟨_,_,_,hi,ps,ms,rfl,e3,e,_⟩:=h;have:=Lg List.length e3;rw[Ki,Ki,KD] at this;rw[Ki,e];lia⟩) (λD i ys G h=>⟨a_.of (h.2.2.1 _ _ gr6 (by simp)),a_.of (h.2.2.1 _ _ gs6 (by simp))⟩) ?_ ?_
    ·rintro D i ys G x y p R hx hy ⟨g0,g1,gk,hi,ps',ms,rfl,e3,pa⟩ hp kk;obtain⟨u,eu,rfl⟩:∃u,as[i]?=some u/\x=.ref u:=by
      rw[Kn] at hx;obtain⟨u,e,rfl⟩:=K8.mp hx;exact⟨u,e,rfl⟩
     have hlt:i<l.length:=by have:=(Kl.mp eu).1;lia
     have er:=Kg hlt;have een:=Kg (show i<en.length by lia)
     have ey:y=.int ((en[i]:Nat):Int):=by
      unfold iV nZ at hy;rw[Kn,Kn,een] at hy;exact (Option.some.inj hy).symm
     subst ey;have enb:en[i]<=10000:=by
      have:=eb i hi;rw[Ks,een] at this;have:en[i]<=z.length:=this;lia
     have ta:l.take (i+1)=l.take i++[l[i]]:=by rw[L6,er];rfl
     have hu6:=pm6.2 i u _ eu (by rw[Kn,er];rfl)
     have kz:=KB.new (ex:=[]) (o:=.tup [.ref u,.int ((en[i]:Nat):Int)]) hp;have g1':=kz.n g1;generalize upd G p (.tup [.ref u,.int ((en[i]:Nat):Int)])=G1 at *;have gk1:=gk.trans kz;have fin:∀(r':b6),gM en l[i]=some r'->∀c G2,KB [] G1 G2->G2 c=some (.tup r'.vs)->R (.ref c) G2:=λr' e c G2 kc hc=>by
      have g2:=kc.n g1';refine kk _ _ g2 ⟨g0,aa,λu o e _=>by rw[ae (aq e g0)];exact kc.n (gk1 _ _ e (by simp)),hlt,ps'++[c],ms++[r'],by rw[K7];rfl,by rw[ta,K7,K7,e3,KA,e];rfl,?_⟩
      exact (((pa.keep kz (NT.nil _)).keep kc (NT.nil _)).snoc hc).keep (KB.set (ex:=[D]) (by simp)) (fN g2)
     nofun;refine⟨u,d,en[i],nY l[i],vf en,rfl,gk1.n hu6,gk1.n sd,by lia,λhg=>fin _ (by unfold gM;rw[hg]),λg j hg hv=>?_,λg hg hv e dd H'' hX=>?_,λg v hg hv=>?_⟩
     ·by_cases cm:g∈en.map λn:Nat=>(n:Int)
      ·have hv2:=kvS g cm;rw[hv] at hv2;have ej:j=(((en.map λn:Nat=>(n:Int)).idxOf g:Nat):Int):=V.int.inj (Option.some.inj hv2);exact fin _ (by unfold gM;rw[hg];dsimp only;rw[if_pos cm,ej])
      ·rw[tO cm] at hv;cases hv
     ·refine⟨e,some dd,rfl,hX.2.2.2.1,λ_ _=>?_⟩;have cm:g∉en.map λn:Nat=>(n:Int):=λcm=>by rw[kvS g cm] at hv;cases hv
      have hn:gM en l[i]=none:=by unfold gM;rw[hg];dsimp only;rw[if_neg cm]
      exact jA (qx _ (by rw[rd_];exact om e3 er hn een) e dd H'' (hX.up (k06.trans gk1)))
     ·by_cases cm:g∈en.map λn:Nat=>(n:Int)
      ·have hv2:=kvS g cm;rw[hv] at hv2;exact⟨_,Option.some.inj hv2⟩
      ·rw[tO cm] at hv;cases hv
    ·rintro D ys G ⟨g0,g1,gk,_,ps',ms,rfl,e3,pa⟩;rw[Ki,al,Lq] at e3;exists au g1;intro t ht;have kt:=KB.new (ex:=[]) (o:=.tup (ps'.map V.ref)) ht;exact q ms (by rw[rd_];exact rm (by lia) e3) t _ (k06.trans (gk.trans kt)) ⟨ps',aa,pa.keep kt (NT.nil _)⟩
def CL{X:Cx}{tk:Nat}{tp:Pos}{e1 e2 e3:Expr}{ta:TA}{p pos:Pos}(K:W.Frag)(hK:X.K=K)(hg:Gl X "zip")(hm:X.mg "zip"=none)(ha:QA X [e1,e2,e3] ta)(h1:autoParam (cW e1=true) ℜ0)(h2:autoParam (cW e2=true) ℜ0)(h3:autoParam (cW e3=true) ℜ0):QI X (.Tuple es tk tp) (.Call (.Name "zip" p) [e1,e2,e3] [] pos) (wu K ta):=by
 subst hK;exact⟨BI hg hm ha.h h1 h2 h3⟩
def pS(K:W.Frag)(ta:TA)(σ:L2.St)(H:Hp)(R:It->Hp->Prop):L2.wu K ta σ H R=ta σ H λvs H1=>∃p q r:Bool×Addr,vs=[V.ref p.2,V.ref q.2,V.ref r.2]/\(∃xs,hJ K p.1 H1 p.2 xs)/\(∃ys,hJ K q.1 H1 q.2 ys)/\(∃zs,hJ K r.1 H1 r.2 zs)/\∀n,R (Ae K (eJ n [p,q,r])) H1:=rfl
def v9{g:TG}{tb:TS}{D:Ends}{b c:Addr}{n:Nat}(hxy:xs.length=ys.length)(hxz:xs.length=zs.length)(Pv:Nat->L2.St->Hp->Prop)(h0:Pv 0 σ H)(hl:∀i σ H,Pv i σ H->a_ K H a xs/\a_ K H b ys/\a_ K H c zs)
  (hs:∀i x y z σ H p,xs[i]?=some x->ys[i]?=some y->zs[i]?=some z->Pv i σ H->H p=none->g (.ref p) σ (upd H p (.tup [x,y,z])) λσ2 H2=>tb {D with nx:=Pv (i+1),ct:=Pv (i+1),bk:=D.nx} σ2 H2) (hd:∀σ H,Pv xs.length σ H->D.nx σ H):nX (Ae K (eJ n [(true,a),(true,b),(true,c)])) g tb D σ H:=by
 refine⟨λi m σ H=>m=xs.length-i/\i<=xs.length/\Pv i σ H,⟨xs.length,by simp,K4 _,h0⟩,?_⟩
 rintro i m σ H ⟨rfl,hi,p⟩;obtain⟨q1,q2,q3⟩:=hl i σ H p;have q1':hJ K true H a xs:=q1;have q2':hJ K true H b ys:=q2;have q3':hJ K true H c zs:=q3;by_cases hlt:i<xs.length
 ·have hl2:i<ys.length:=by lia
  have hl3:i<zs.length:=by lia
  refine .inr ⟨⟨[xs[i],ys[i],zs[i]],.cons ⟨xs,q1',by simp[hlt]⟩ (.cons ⟨ys,q2',by simp[hl2]⟩ (.cons ⟨zs,q3',by simp[hl3]⟩ .nil))⟩,Pv (i+1),λσ' H' p'=>⟨xs.length-(i+1),by lia,rfl,hlt,p'⟩,λx H' z=>?_⟩
  obtain⟨c',vs,pr,fr,rfl,rfl⟩:=z;obtain⟨v1,vs,rfl,e1,pr⟩:=Paired.dm pr;obtain⟨v2,vs,rfl,e2,pr⟩:=Paired.dm pr;obtain⟨v3,vs,rfl,e3,pr⟩:=Paired.dm pr;cases pr;exact hs i v1 v2 v3 σ H c' (e1 xs q1') (e2 ys q2') (e3 zs q3') p fr
 ·have e:i=xs.length:=by lia
  subst e;exact .inl ⟨⟨[],(true,n,a),_,[],rfl,.nil,xs,q1',rfl⟩,hd σ H p⟩
def nv:Sp:=λvs H Q _=>vs=[]/\∀l,H l=none->Q (.ref l) (upd H l (.lst (b8.map V.str)))
def vE(F:HasFn K mg "_law_words" e_ []):ao P w K mg base aY 1 "_law_words" [] nv:=by
 refine F.fq lM (λvs H Q E h=>?_) (λf cdv A outer s H vs Q E hr h=>?_)
 ·obtain⟨rfl,_⟩:=h;rfl
 ·obtain⟨rfl,q⟩:=h;refine⟨_,(Z.av (Z.ret (Z.lst (Z.consts rfl)))),?_⟩;nofun;exact⟨by decide,λp hp=>q p hp⟩
def j0:Sp:=λvs H Q _=>∃(n:Int) (k:Nat),vs=[.int n,.int (k:Nat)]/\k<=40/\Q (.str (wd (cT n k []))) H
def xh(T:Txt K mg)(F:HasFn K mg "_law_bits" fW ["number","many"]):ao P w K mg base aY 1 "_law_bits" ["number","many"] j0:=by
 refine F.fq cN (λvs H Q E h=>?_) (λf cdv A outer s H vs Q E hr h=>?_)
 ·obtain⟨n,k,rfl,_⟩:=h;rfl
 ·have hu:=aU hr;obtain⟨n,k,rfl,hk,q⟩:=h;refine⟨_,(Z.ai (Z.se (i:=2) cN.nd Z.str)
   (Z.ai (Z.dO KP rfl (Z.lH rfl T.cB (Z.cons (Z.v 1) Z.nil)) (Z.aM (i:=3) cN.nd rfl (by right)) (Z.ai (Z.se (i:=2) cN.nd (Z.op (Z.aH K rfl) (Z.ix (Z.az K rfl hu) Z.str (Z.op dM (Z.v 0) Z.int)) (Z.v 2)))
   (Z.av (Z.se (i:=0) cN.nd (Z.op nQ (Z.v 0) Z.int)))))
   (Z.av (Z.ret (Z.v 2))))),?_⟩
  refine ar λN hN=>?_;nofun;subst hN;refine ar λN hN=>?_;nofun;refine⟨by lia,by lia,?_⟩
  rw[KU];refine bP (λi σ H'=>∃(m:Int) (acc:List Nat) (o:Option V),H'=H/\i<=k/\cT m (k-i) acc=cT n k []/\acc.length=i/\σ=[some (.int m),some (.int (k:Nat)),some (.str (wd acc)),o]) ⟨n,[],none,rfl,K4 _,rfl,rfl,by rw[ny]⟩ ?_ ?_
  ·rintro i σ H' hi ⟨m,acc,o,rfl,_,e,hl,rfl⟩;unfold aO;refine ar λM hM=>?_;exists HU;refine⟨by decide,by decide +kernel,?_⟩
   rw[show (⟨#[dg m]⟩:Str)=wd [dg m] from rfl,ay,ay,d7];refine⟨Km (show _<=50 by simp;lia) (by decide),?_⟩
   subst hM;refine lh λM hM=>?_;nofun;refine⟨⟨by decide,by decide⟩,?_⟩
   rw[hM];refine⟨m / 2,dg m::acc,some _,rfl,hi,?_,by rw[K2,hl],rfl⟩
   rw[<- e,show k-i=(k-(i+1))+1 by lia]
   rfl
  ·rintro σ H' ⟨m,acc,o,rfl,_,e,_,rfl⟩;rw[LH] at e;show N _ _;subst hN;nofun;rw[<- e] at q;exact q
def qw{n:Nat}(h:n<3):bS [V.str (Str.ofString "0"),.str (Str.ofString "10"),.str (Str.ofString "11")] (n:Int)=some (.str (wd (bG n))):=by
 rcases oz h with rfl|rfl|rfl
 ·exact Lg (λz=>some (V.str z)) (by decide +kernel)
 ·exact Lg (λz=>some (V.str z)) (by decide +kernel)
 ·exact Lg (λz=>some (V.str z)) (by decide +kernel)
def uJ{β:Type}{R:α->β->Prop}{d:α}{e:β}{vs:List α}{ps:List β}(h:Paired R vs ps):∀i,i<ps.length->R (vs.getD i d) (ps.getD i e):=by
 induction h with
 |nil=>exactλi hi=>nomatch hi
 |cons h _ ih =>
  intro i hi
  cases i with
  |zero=>exact h
  |succ i=>exact ih i (OY hi)
def map_getD:(List.range ((List.range ls.length).map (oE ls)).length).map (λi=>((List.range ls.length).map (oE ls)).getD i (0,0))=(List.range ls.length).map (oE ls):=by
 refine My λi=>?_;rw[Kn];rcases Lm i ls.length with c|c
 ·rw[M8 (by simpa using c),Kn,M8 c];simp[c]
 ·rw[L4.mpr (by simpa using c),L4.mpr (by simpa using c)];rfl
def oA(K:W.Frag):Sp:=λvs H Q _=>∃(a:Addr) (ls:List Int),vs=[.ref a]/\H a=some (.tup (iV ls))/\jq ls/\mU ls=true/\∀b H',H b=none->KB [] H H'->H' b=some (.lst (wV (wordsOf Cw.dG ls)))->Q (.ref b) H'
theorem zr(T:Txt K mg)(F:HasFn K mg "_law_code" dY ["lengths"])(h_law_bits:ao P w K mg base aY 1 "_law_bits" ["number","many"] j0):ao P w K mg base aY 2 "_law_code" ["lengths"] (oA K):=by
 refine F.fq bo (λvs H Q E h=>?_) (λf cdv A outer s H vs Q E hr h=>?_)
 ·obtain⟨a,ls,rfl,_⟩:=h;rfl
 ·have hu:=aU hr;obtain⟨a,ls,rfl,ha,hL,ho,q⟩:=h;refine⟨_,(Z.ai (Z.se (i:=1) bo.nd (Z.op bX (Z.lst (Z.cons Z.str Z.nil)) (Z.cb (Z.bB K rfl) rfl T.b7 (by decide +kernel) (Z.cons (Z.v 0) Z.nil))))
   (Z.ai (Z.se (i:=2) bo.nd Z.int)
   (Z.ai (Z.se (i:=3) bo.nd Z.int)
   (Z.ai (Z.dO KP rfl (Z.any K rfl (Z.cb (Y.rK K rfl) rfl T.kO (by decide +kernel) (Z.cons (Z.xU (osc:=af dY) (ON:=["lengths","found","number","size","length","thing","k"]) (own:=["thing","length"]) (N:=["thing","length","lengths","found","number","size",".length",".thing","k"]) (aA.of rfl (by decide +kernel)) (Z.enum K rfl rfl T.dZ (Z.cons (Z.v 0) Z.nil)) (λnd _ _ _ _=>(Z.nM (n:=2) K rfl rfl (Z.bJ (Z.aM (i:=0) nd rfl (by right)) (Z.bJ (Z.aM (i:=1) nd rfl (by right)) Z.iq)))) (λ_ _ _ _=>Z.tF) (λ_ _ _ _=>(Z.tup (Z.cons (Z.v 1) (Z.cons (Z.v 0) Z.nil))))) Z.nil))) (Z.nM (n:=2) K rfl rfl (Z.bJ (Z.aM (i:=4) bo.nd rfl (by right)) (Z.bJ (Z.aM (i:=5) bo.nd rfl (by right)) Z.iq))) (Z.ai (Z.dO KP rfl (Z.lH rfl T.cB (Z.cons (Z.op cX (Z.v 4) (Z.v 3)) Z.nil)) (Z.aM (i:=6) bo.nd rfl (by right)) (Z.av (Z.se (i:=2) bo.nd (Z.op bX (Z.v 2) Z.int))))
   (Z.ai (Z.se (i:=3) bo.nd (Z.v 4))
   (Z.ai (Z.asg (Z.fc h_law_bits (Z.cons (Z.v 2) (Z.cons (Z.v 4) Z.nil))) (Z.q_ (Z.v 1) (Z.v 5)))
   (Z.av (Z.se (i:=2) bo.nd (Z.op (Z.aH K rfl) (Z.v 2) Z.int)))))))
   (Z.av (Z.ret (Z.v 1))))))),?_⟩
  have hl20:=hL.2.1;refine ar λN hN=>?_;nofun;refine⟨by decide,λp0 hp0=>?_⟩
  obtain⟨k1,s1⟩:=e8 hp0 (.lst [.str (Str.ofString "")]);generalize upd H p0 _=H1 at *;have ha1:=k1.n ha;exists aF ha1,bF;refine⟨p0,_,_,rfl,rfl,s1,by lia,by lia,Km (show _<=20 by simp;lia) (by decide),λfd hfd=>?_⟩
  have er:(List.replicate ls.length [V.str (Str.ofString "")]).flatten=wV (List.replicate ls.length []):=by
   rw[ny];unfold wV;rw[Oh];generalize ls.length=n
   induction n with
   |zero=>rfl
   |succ n ih=>rw[Lc,LU,ih];rfl
  rw[KU,er];obtain⟨k2,s2⟩:=e8 hfd (.lst (wV (List.replicate ls.length [])));generalize upd H1 fd _=H2 at *;have fd0:H fd=none:=k1.free (by simp) hfd
  have h02:=k1.trans k2;clear k1 s1 hp0 ha1 er k2 hfd;rw[hN];clear hN N H1;refine ar λN hN=>?_;nofun;subst hN;refine ar λN hN=>?_;nofun;subst hN;refine ar λN hN=>?_;nofun;have ha2:=h02.n ha;refine⟨⟨_,bu.of ha2⟩,?_⟩;refine pW (xs:=iV ls) (Km (show _<=20 by rw[bF];exact hl20) (by decide)) (λD i ys H'=>H2 D=none/\H' D=some (.lst ys)/\KB [] H2 H'/\i<=ls.length/\ys.length=i/\Paired (Y.GV H') ys ((List.range i).map (oE ls))) (λD hD=>⟨hD,aa,KB.new hD,K4 _,rfl,.nil⟩) (λD i ys H' h=>⟨h.2.1,h.2.2.2.2.1⟩) (λD i ys H' h=>bu.of (h.2.2.1 _ _ ha2 (by simp))) ?_ ?_
  ·rintro D i ys H' x p R hx ⟨g0,g1,g2,g3,g4,g5⟩ hp kk;obtain⟨hi,rfl⟩:=jM hx;have k3:KB [] H' (upd H' p (.tup [.int (i:Nat),.int ls[i]])):=KB.new hp;generalize upd H' p (.tup [.int (i:Nat),.int ls[i]])=H3 at *;nofun;refine⟨by decide,λt ht=>?_⟩
   obtain⟨k4,s4⟩:=e8 ht (.tup [.int ls[i],.int (i:Nat)]);generalize upd H3 t _=H4 at *;have k34:=k3.trans k4;have gD:=k34.n g1;have tD:t≠D:=λz=>by rw[z,gD] at s4;cases s4
   have up:∀{v:V} {q:Int×Int},Y.GV H4 v q->Y.GV (upd H4 D (.lst (ys++[.ref t]))) v q:=λ{v q} h=>by
    obtain⟨r,e1,e2⟩:=h;exact⟨r,e1,by rw[ae (λz=>by rw[z,gD] at e2;cases e2)];exact e2⟩
   refine kk _ _ gD ⟨g0,aa,λb o e _=>by rw[ae (aq e g0)];exact k34.n (g2.n e),hi,by rw[Kj,g4];rfl,?_⟩
   rw[NO,K7];refine Paired.snoc (Paired.yQ g5 λ_ _ h=>up ?_) (up ⟨t,rfl,?_⟩)
   ·obtain⟨r,e1,e2⟩:=h;exact⟨r,e1,k34.n e2⟩
   ·rw[s4];unfold oE;simp[hi]
  rintro D ys H3 ⟨g0,g1,g2,_,g4,g5⟩;rw[bF] at g4 g5;have hpl:((List.range ls.length).map (oE ls)).length=ls.length:=by rw[Ki,KZ]
  refine⟨D,ys,_,rfl,a_.of g1,g5,by rw[hpl];lia,λix hix hup l hl=>?_⟩
  have hpm:=hix.map λi=>((List.range ls.length).map (oE ls)).getD i (0,0);rw[map_getD] at hpm;obtain⟨eo,hR⟩:=vM hpm hup;have hup2:=FP hR;have k4:KB [] H3 (upd H3 l (.lst (ix.map λi=>ys.getD i .aI))):=KB.new hl;have s4:upd H3 l (.lst (ix.map λi=>ys.getD i .aI)) l=_:=aa;have hit:∀(j:Nat) (x:V),(ix.map λi=>ys.getD i .aI)[j]?=some x->∃(hj:j<(aC ls).length) (r:Addr),x=.ref r/\H3 r=some (.tup [.int (ls.getD (aC ls)[j] 0),.int ((aC ls)[j]:Nat)]):=λj x hx=>by
   rw[Kn] at hx;obtain⟨i,ei,rfl⟩:=K8.mp hx;have hi:i<((List.range ls.length).map (oE ls)).length:=Ln.mp (hix.mem_iff.mp (Li ei));obtain⟨r,e1,e2⟩:=uJ (d:=V.aI) (e:=(0,0)) g5 i hi;have e3:(ix.map λi=>((List.range ls.length).map (oE ls)).getD i (0,0))[j]?=some (((List.range ls.length).map (oE ls)).getD i (0,0)):=by rw[Kn,ei];rfl
   rw[eo,Kn] at e3;obtain⟨t,et,e4⟩:=K8.mp e3;obtain⟨hj,rfl⟩:=Kl.mp et;exact⟨hj,r,e1,by rw[e2,<- e4];rfl⟩
  have hxl:(ix.map λi=>ys.getD i .aI).length=(aC ls).length:=by
   have:=Lg List.length eo;rw[Ki,Ki] at this;rw[Ki,this]
  generalize (ix.map λi=>ys.getD i .aI)=xs at *;generalize upd H3 l (.lst xs)=H4 at *;have gF:=k4.n (g2.n s2);have lF:l≠fd:=λz=>by
   have:=g2.n s2;rw[<- z,hl] at this;cases this
  have h04:KB [] H H4:=h02.trans (g2.trans k4);have hit4:∀(j:Nat) (x:V),xs[j]?=some x->∃(hj:j<(aC ls).length) (r:Addr),x=.ref r/\H4 r=some (.tup [.int (ls.getD (aC ls)[j] 0),.int ((aC ls)[j]:Nat)]):=λj x hx=>by
   obtain⟨hj,r,e1,e2⟩:=hit j x hx;exact⟨hj,r,e1,k4.n e2⟩
  clear hit g0 g1 g2 g4 g5 hpl hix hup hl k4 hpm eo hR h02 ha2 s2;have h40:∀t∈aC ls,ls.getD t 0=(aP ls t:Int)/\aP ls t<=40/\t<ls.length:=λt ht=>by
   have h:=ic ht;have:=hL.2.2 _ (K9 h);unfold aP;rw[Ks,Kg h];show ls[t]=((ls[t].toNat:Nat):Int)/\ls[t].toNat<=40/\_;exact⟨by lia,by lia,h⟩
  exists au s4;refine gn (xs:=xs) (λi σ H'=>∃(a':Option (List Nat)) (ws:List (List Nat)) (n h:Int) (o4 o5 o6:Option V),At ls ((aC ls).take i) ((aC ls).drop i) a' n h/\Cw.along Cw.eN (aP ls) ((aC ls).take i) (none,List.replicate ls.length [])=(a',ws)/\ws.length=ls.length/\KB [fd] H4 H'/\KB [] H H'/\H' fd=some (.lst (wV ws))/\σ=[some (.ref a),some (.ref fd),some (.int (n+1)),some (.int h),o4,o5,o6]) ⟨none,_,-1,0,none,none,none,⟨rfl,.inl ⟨rfl,rfl,rfl,rfl⟩⟩,rfl,K6 ..,KB.refl _ _,h04,gF,rfl⟩ (λi σ H' _ h=>by obtain⟨_,_,_,_,_,_,_,_,_,_,kF,_⟩:=h;exact a_.of (kF _ _ s4 (by simpa using lF))) ?_ ?_
  ·rintro i x σ H' hx ⟨a',ws,n,h,o4,o5,o6,hA,hal,hwl,kF,h0',gF',rfl⟩;obtain⟨hj,r,rfl,er⟩:=hit4 i x hx;have rF:r≠fd:=λz=>by rw[z,gF] at er;cases er
   have er':=kF _ _ er (by simpa using rF)
   have ed:(aC ls).drop i=(aC ls)[i]::(aC ls).drop (i+1):=LL hj;have eT:(aC ls).take (i+1)=(aC ls).take i++[(aC ls)[i]]:=by rw[L6,Kg hj];rfl
   rw[ed] at hA;rw[eT];obtain⟨hx1,hx2,hx3⟩:=h40 _ (K9 hj);obtain⟨d,e1,e0,e2,e3,e4,hA2⟩:=hA.next hL ho hup2;have hal2:Cw.along Cw.eN (aP ls) ((aC ls).take i++[(aC ls)[i]]) (none,List.replicate ls.length [])=(some (la a' (aP ls (aC ls)[i])),ws.set (aC ls)[i] (la a' (aP ls (aC ls)[i]))):=by
    rw[Cw.fv,hal]
    cases a'<;>rfl
   rw[hx1] at er';generalize (aC ls)[i]=t at *;generalize aP ls t=l at *;generalize hw':la a' l=w' at *;refine⟨r,_,rfl,bu.of er',rfl,_,_,rfl,_,_,rfl,rfl,?_⟩;refine ar λM hM=>?_;exists e1;refine⟨by lia,by lia,?_⟩
   rw[KU];refine bP (λj σ G=>G=H'/\∃o6:Option V,σ=[some (.ref a),some (.ref fd),some (.int ((n+1)*2^j)),some (.int h),some (.int (l:Nat)),some (.int (t:Nat)),o6]) ⟨rfl,o6,by rw[Int.pow_zero,Int.mul_one]⟩ ?_ ?_
   ·rintro j σ G hj ⟨rfl,o6,rfl⟩;unfold aO;refine lh λM hM=>?_;nofun;refine⟨.inr (by decide),?_⟩
    rw[hM];exact⟨rfl,some _,by rw[show (n+1)*2^j*2=(n+1)*2^(j+1) from by rw[P8,<- Int.mul_assoc]]⟩
   ·rintro σ G ⟨rfl,o6,rfl⟩;rw[e2];show M _ _;subst hM;refine ar λM hM=>?_;nofun;subst hM;refine ar λM hM=>?_;nofun;refine⟨_,l,rfl,hx2,?_⟩;rw[vT l w' [] e3 e4,Le];have ixw:jO (wV ws).length (t:Int)=some t:=by rw[nB (by lia) (by rw[ot,hwl];lia)];simp
    have sw:(wV ws).set t (.str (wd w'))=wV (ws.set t w'):=by unfold wV;rw[MW]
    exists gF',ixw,sw;subst hM;dsimp only;refine lh λM hM=>?_;nofun;rw[hM];refine⟨some w',ws.set t w',_,_,some _,some _,o6,hA2,hal2,by rw[List.length_set,hwl],λb o e z=>?_,λb o e _=>?_,aa,rfl⟩
    ·rw[ae (by simpa using z)];exact kF _ _ e z
    ·rw[ae (aq e fd0)];exact h0'.n e
  ·rintro σ H' ⟨a',ws,n,h,o4,o5,o6,hA,hal,_,_,h0',gF',rfl⟩;rw[hxl,Lq] at hal;have ew:wordsOf Cw.dG ls=ws:=by
    unfold wordsOf;rw[Cw.gL (aC ls) [] none _ hup2 (λt ht=>(h40 t ht).2.1) (λv z=>by cases z) (λ_=>rfl) (by rw[L8,zK];exact Lr ho),hal]
   show N _ _;subst hN;nofun;rw[ew] at q;exact q fd H' fd0 h0' gF'
def C0{a:List Nat}(h:a≠b):(Sum.inr (wd a):Key)≠.inr (wd b):=λe=>h (zM (Sum.inr.inj e))
structure Tb (kvs:List (Key×V)) (ws:List (List Nat)) (n:Nat):Prop where
 len:kvs.length=n
 yes:∀(t:Nat) (h:t<ws.length),t<n->b_ kvs (.inr (wd ws[t]))=some (.int (t:Nat))
 no:∀x,x∉ws.take n->b_ kvs (.inr (wd x))=none
def Tb.put{kvs:List (Key×V)}{n:Nat}(h:Tb kvs ws n)(hn:n<ws.length)(nd:ws.Nodup):Tb (putK kvs (.inr (wd ws[n])) (.int (n:Nat))) ws (n+1):=by
 have apart:∀t (ht:t<ws.length),t<n->ws[t]≠ws[n]:=λt ht h=>Md.mp nd t n ht hn h;have hno:ws[n]∉ws.take n:=λhm=>by
  obtain⟨i,hi,e⟩:=Nj.mp hm;rw[List.getElem_take] at e;have hi':i<n:=by rw[KD] at hi;lia
  exact apart i (by lia) hi' e
 refine⟨by rw[pJ _ (h.no _ hno),Kj,h.len];rfl,λt ht htn=>?_,λx hx=>?_⟩
 ·rw[oG];rcases Lm t n with c|c
  ·rw[Ko (C0 (apart t ht c))];exact h.yes t ht c
  ·have:t=n:=by lia
   subst this;rw[Ku rfl]
 ·have e2:ws.take (n+1)=ws.take n++[ws[n]]:=by rw[L6,Kg hn];rfl
  rw[e2] at hx;rw[oG,Ko (C0 λe=>hx (KG _ (by rw[e];exact List.mem_singleton_self _)))]
  exact h.no x λz=>hx (LD _ z)
def vh(H:Hp)(a:Addr)(ws:List (List Nat)):Prop:=∃kvs,H a=some (.dK kvs)/\Tb kvs ws ws.length
def BX(H:Hp)(a:Addr)(cd:List (List (List Nat))):Prop:=∃t0 t1 t2,H a=some (.lst [.ref t0,.ref t1,.ref t2])/\vh H t0 (cd.getD 0 [])/\vh H t1 (cd.getD 1 [])/\vh H t2 (cd.getD 2 [])
def vh.keep(h:vh H a ws)(k:KB ex H H')(hx:∀b∈ex,∀kvs,H b≠some (.dK kvs)):vh H' a ws:=by
 obtain⟨kvs,e,h⟩:=h;exact⟨kvs,k _ _ e λz=>hx _ z _ e,h⟩
def BX.keep{cd:List (List (List Nat))}(h:BX H a cd)(k:KB ex H H')(n:a∉ex)(hx:∀b∈ex,∀kvs,H b≠some (.dK kvs)):BX H' a cd:=by
 obtain⟨t0,t1,t2,e,h0,h1,h2⟩:=h;exact⟨t0,t1,t2,k _ _ e n,h0.keep k hx,h1.keep k hx,h2.keep k hx⟩
def qa(K:W.Frag):Sp:=λvs H Q _=>∃(b:Addr) (bk:List (List Int)),vs=[.ref b]/\sk H b bk/\Bk bk/\(∀ws∈gx bk,Pf ws)/\∀a H',H a=none->KB [] H H'->BX H' a (gx bk)->Q (.ref a) H'
theorem vP(T:Txt K mg)(F:HasFn K mg "_law_tables" eE ["book"])(h_law_code:ao P w K mg base aY 2 "_law_code" ["lengths"] (oA K)):ao P w K mg base aY 3 "_law_tables" ["book"] (qa K):=by
 refine F.fq bL (λvs H Q E h=>?_) (λf cdv A outer s H vs Q E hr h=>?_)
 ·obtain⟨b,bk,rfl,_⟩:=h;rfl
 ·have hu:=aU hr;obtain⟨b,bk,rfl,hb,hB,hP,q⟩:=h;obtain⟨as,hb1,hb2,hb3⟩:=hb;obtain⟨l0,l1,l2,rfl,_,_,_,hl⟩:=hB;refine⟨_,(Z.ai (Z.se (i:=1) bL.nd (Z.lst Z.nil))
   (Z.ai (Z.dO KP rfl (Z.any K rfl (Z.v 0)) (Z.aM (i:=2) bL.nd rfl (by right)) (Z.ai (Z.se (i:=3) bL.nd Z.GC)
   (Z.ai (Z.dO KP rfl (Z.CS K rfl rfl T.dZ (Z.cons (Z.fc h_law_code (Z.cons (Z.v 2) Z.nil)) Z.nil)) (Z.nM (n:=2) K rfl rfl (Z.bJ (Z.aM (i:=4) bL.nd rfl (by right)) (Z.bJ (Z.aM (i:=5) bL.nd rfl (by right)) Z.iq))) (Z.av (Z.dput hu (Z.v 3) (Z.v 5) (Z.v 4))))
   (Z.av (Z.expr (Z.app K (Z.v 1) (Z.cons (Z.v 3) Z.nil)))))))
   (Z.av (Z.ret (Z.v 1))))),?_⟩
  refine ar λN hN=>?_;nofun;refine⟨by decide,λfd hfd=>?_⟩
  obtain⟨k1,s1⟩:=e8 hfd (.lst []);generalize upd H fd _=H1 at *;subst hN;have hb1':=k1.n hb1;refine ar λN hN=>?_;exists aF hb1';have kF:∀{G:Hp} {o:HO},KB [] H G->KB [] H (upd G fd o):=λa b o e _=>by rw[ae (aq e hfd)];exact a b o e (by simp)
  refine jE (xs:=as.map V.ref) (λi σ H'=>∃(cs:List Addr) (o2 o3 o4 o5:Option V),i<=3/\KB [] H H'/\H' fd=some (.lst (cs.map V.ref))/\cs.length=i/\(∀(j:Nat) (c:Addr),cs[j]?=some c->vh H' c (wordsOf Cw.dG (List.getD [l0,l1,l2] j [])))/\σ=[some (.ref b),some (.ref fd),o2,o3,o4,o5]) ⟨[],none,none,none,none,by decide,k1,s1,rfl,(λj c e=>nomatch e),rfl⟩ (λi σ H' _ h=>by obtain⟨_,_,_,_,_,_,kk,_⟩:=h;exact bu.of (kk.n hb1)) ?_ ?_
  ·rintro i x σ H' hx ⟨cs,o2,o3,o4,o5,hi3,h0,gf,gl,gt,rfl⟩;obtain⟨a,ea,rfl⟩:∃a,as[i]?=some a/\x=.ref a:=by
    rw[Kn] at hx;obtain⟨a,e,rfl⟩:=K8.mp hx;exact⟨a,e,rfl⟩
   have hi:i<3:=by have:=(Kl.mp ea).1;rw[hb2] at this;exact this
   have hm:List.getD [l0,l1,l2] i []∈[l0,l1,l2]:=by rcases oz hi with rfl|rfl|rfl<;>simp
   have hpf:Pf (wordsOf Cw.dG (List.getD [l0,l1,l2] i [])):=hP _ (LW (f:=wordsOf Cw.dG) hm);have hlm:=hl _ hm;have hwl:(wordsOf Cw.dG (List.getD [l0,l1,l2] i [])).length<=40:=by rw[f_];have:=hlm.1.2.1;lia
   have hai:=hb3 i a ea;unfold aO;refine ar λM hM=>?_;nofun;intro tb htb;obtain⟨k2,s2⟩:=e8 htb (.dK []);generalize upd H' tb _=H2 at *;have tb0:H tb=none:=h0.free (by simp) htb
   subst hM;refine ar λM hM=>?_;nofun;refine⟨a,_,rfl,k2.n (h0.n hai),hlm.1,hlm.2,λwl H3 hwl0 k3 s3=>?_⟩;generalize hws:wordsOf Cw.dG (List.getD [l0,l1,l2] i [])=ws at *;refine⟨wl,rfl,⟨_,a_.of s3⟩,?_⟩;have s23:=k3.n s2;have h03:=h0.trans (k2.trans k3);have gf3:=(k2.trans k3).n gf;have tf:tb≠fd:=λz=>by rw[z,gf3] at s23;cases s23
   have wt:wl≠tb:=λz=>by rw[z,s2] at hwl0;cases hwl0
   refine sF (xs:=wV ws) (λn σ G=>∃(kvs:List (Key×V)) (o4 o5:Option V),n<=ws.length/\KB [tb] H3 G/\G tb=some (.dK kvs)/\Tb kvs ws n/\σ=[some (.ref b),some (.ref fd),some (.ref a),some (.ref tb),o4,o5]) ⟨[],o4,o5,K4 _,KB.refl _ _,s23,⟨rfl,λt h z=>(nomatch z),λx _=>rfl⟩,rfl⟩ (λn σ G _ h=>by obtain⟨_,_,_,_,kk,_⟩:=h;exact a_.of (kk _ _ s3 (by simpa using wt))) ?_ ?_
   ·rintro n x σ G p hx ⟨kvs,o4,o5,hn,kG,gG,hT,rfl⟩ hp;have hlt:n<ws.length:=by have:=(Kl.mp hx).1;unfold wV at this;rw[Ki] at this;exact this
    obtain rfl:x=.str (wd ws[n]):=by
     unfold wV at hx;rw[Kn,Kg hlt] at hx;exact (Option.some.inj hx).symm
    refine⟨p,_,rfl,bu.of aa,rfl,_,_,rfl,_,_,rfl,rfl,?_⟩;have k5:KB [] G (upd G p (.tup [.int n,.str (wd ws[n])])):=KB.new hp;generalize upd G p (.tup [.int n,.str (wd ws[n])])=G1 at *;have gG1:=k5.n gG;dsimp only;refine lh λM2 hM2=>?_;nofun;refine⟨tb,_,rfl,vW.k (k:=.inr (wd ws[n])) gG1 (Nat.lt_of_le_of_lt (show _<=40 by rw[hT.len];lia) (by decide)),?_⟩
    rw[hM2];exact⟨_,some _,some _,hlt,λc o e z=>by rw[ae (by simpa using z)];exact k5.n (kG _ _ e z),aa,hT.put hlt hpf.nd,rfl⟩
   ·rintro σ G ⟨kvs,o4,o5,_,kG,gG,hT,rfl⟩;have ewl:(wV ws).length=ws.length:=List.length_map ..;rw[ewl] at hT;show M _ _;subst hM;dsimp only;refine lh λM hM=>?_;have gfG:=kG _ _ gf3 (by simpa using tf.symm)
    nofun;refine⟨.inl ⟨rfl,_,a_.of gfG⟩,fd,_,_,rfl,rfl,gfG,Lf (show _<=3 by rw[Ki];lia) (by decide),?_⟩
    rw[hM];have h0G:KB [] H G:=λc o e _=>kG _ _ (h03.n e) (by simpa using aq e tb0)
    have upT:∀{c:Addr} {ws:List (List Nat)},vh G c ws->vh (upd G fd (.lst (cs.map V.ref++[.ref tb]))) c ws:=λh=>h.keep (KB.set (ex:=[fd]) (by simp)) (λb hb kvs e=>by rw[K0.mp hb,gfG] at e;cases e)
    refine⟨cs++[tb],some _,some _,o4,o5,hi,kF h0G,by rw[aa,K7];rfl,by rw[Kj,gl];rfl,λj c e=>upT ?_,rfl⟩
    rcases Lm j cs.length with hj|hj
    ·rw[KR hj] at e;obtain⟨kv,e1,e2⟩:=gt j c e;have e3:=(k2.trans k3).n e1;refine⟨kv,kG _ _ e3 (by simp;rintro rfl;rw[e1] at htb;cases htb),e2⟩
    ·rw[KL hj] at e;obtain⟨hj2,rfl⟩:=Kl.mp e;have:j=i:=by simp at hj2;lia
     subst this;simp only[gl,LH,Mp];rw[hws];exact⟨kvs,gG,hT⟩
  ·rintro σ H' ⟨cs,o2,o3,o4,o5,_,h0,gf,gl,gt,rfl⟩;rw[Ki,hb2] at gl;obtain⟨t0,t1,t2,rfl⟩:=qF gl;show N _ _;subst hN;nofun;exact q fd H' hfd h0 ⟨t0,t1,t2,gf,gt 0 t0 rfl,gt 1 t1 rfl,gt 2 t2 rfl⟩
def nG:Sp:=λvs H Q _=>∃z:List Nat,vs=[.str (wd z)]/\cH z/\z.length<=40/\Q (.int (eO z:Nat)) H
theorem yg(T:Txt K mg)(F:HasFn K mg "_law_value" ff ["text"]):ao P w K mg base aY 1 "_law_value" ["text"] nG:=by
 refine F.fq dh (λvs H Q E h=>?_) (λf cdv A outer s H vs Q E hr h=>?_)
 ·obtain⟨z,rfl,_⟩:=h;rfl
 ·have hu:=aU hr;obtain⟨z,rfl,hb,hz,q⟩:=h;refine⟨_,(Z.ai (Z.se (i:=1) dh.nd Z.int)
   (Z.ai (Z.dO KP rfl (Z.Jy (Z.v 0)) (Z.aM (i:=2) dh.nd rfl (by right)) (Z.av (Z.se (i:=1) dh.nd (Z.op (Z.aH K rfl) (Z.op bX Z.int (Z.v 1)) (Z.bm K rfl PySem.F.plainAttrs_str PySem.F.slot_str_index PySem.F.type_str_index Y.jB Z.str (Z.cons (Z.v 2) Z.nil))))))
   (Z.av (Z.ret (Z.v 1))))),?_⟩
  refine ar λN hN=>?_;nofun;subst hN;refine ar λN hN=>?_;nofun;refine pq (z:=wd z) (λi σ H'=>H=H'/\∃o:Option V,i<=z.length/\σ=[some (.str (wd z)),some (.int (eO (z.take i):Nat)),o]) ⟨rfl,none,K4 _,rfl⟩ ?_ ?_
  ·rintro i c σ H' hc ⟨rfl,o,hi,rfl⟩;have hlt:i<z.length:=by have:=(KC.mp hc).1;simpa[wd] using this
   obtain rfl:c=z[i]:=by
    have:(wd z).cps[i]?=some z[i]:=by unfold wd;rw[Lp,Kg hlt]
    rw[this] at hc;exact (Option.some.inj hc).symm
   have hc2:=hb _ (List.getElem_mem hlt);unfold aO;dsimp only;refine lh λM hM=>?_;nofun;refine⟨.inl ⟨by decide,by decide⟩,rfl,_,_,z[i]-48,[],rfl,rfl,zN hc2,?_⟩
   nofun;have e4:(2:Int)*(eO (z.take i):Nat)+((z[i]-48:Nat):Int)=(eO (z.take (i+1)):Nat):=by
    rw[L6,Kg hlt];show _=((eO (z.take i++[z[i]]):Nat):Int);rw[uM];lia
   rw[e4,hM];exact⟨rfl,some _,hlt,rfl⟩
  ·rintro σ H' ⟨rfl,o,_,rfl⟩;have e:(wd z).cps.size=z.length:=Kq ..;rw[e,Lq];show N _ _;subst hN;nofun;exact q
def kC(K:W.Frag):Sp:=λvs H Q _=>∃(a:Addr) (ws:List (List Nat)) (z:List Nat) (p:Nat),vs=[.ref a,.str (wd z),.int (p:Nat)]/\vh H a ws/\Pf ws/\(∀w∈ws,w.length<=20)/\z.length<=1000000/\p<=1000000/\∀v H',KB [] H H'->FZ H' v (iJ ws z p)->Q v H'
def vj(T:Txt K mg)(F:HasFn K mg "_law_thing_at" dy ["table","bits","at"]):ao P w K mg base aY 1 "_law_thing_at" ["table","bits","at"] (kC K):=by
 refine F.fq cV (λvs H Q E h=>?_) (λf cdv A outer s H vs Q E hr h=>?_)
 ·obtain⟨a,ws,z,p,rfl,_⟩:=h;rfl
 ·have hu:=aU hr;obtain⟨a,ws,z,p,rfl,⟨kvs,ha,hT⟩,hP,h20,hz,hp,q⟩:=h;refine⟨_,(Z.ai (Z.dO KP rfl (Z.II rfl T.cB (Z.consts rfl)) (Z.aM (i:=3) cV.nd rfl (by right)) (Z.ai (Z.se (i:=4) cV.nd (Z.slice Y.bZ (Z.v 1) (Z.gU (Z.v 2)) (Z.gU (Z.op (Z.aH K rfl) (Z.v 2) (Z.v 3)))))
   (Z.av (Z.cS (Z.tw (Z.Dq (Z.aS bz (Z.cb (Z.bB K rfl) rfl T.b7 (by decide +kernel) (Z.cons (Z.v 4) Z.nil)) (Z.v 3)) (Z.xD (Z.aS (Y.Ba hu) (Z.v 4) (Z.v 0))))) (Z.av (Z.ret (Z.tup (Z.cons (Z.HB hu (Z.v 0) (Z.v 4)) (Z.cons (Z.op (Z.aH K rfl) (Z.v 2) (Z.v 3)) Z.nil))))) Z.ba))))
   (Z.av (Z.ret Z.aI))),?_⟩
  refine ar λN hN=>?_;nofun;refine⟨1,21,⟨rfl,rfl⟩,by decide,?_⟩
  refine bP (n:=20) (λn σ H'=>H=H'/\∃o3 o4:Option V,n<=20/\(∀t,nF ws z p=some t->n<(ws.getD t []).length)/\σ=[some (.ref a),some (.str (wd z)),some (.int (p:Nat)),o3,o4]) ⟨rfl,none,none,K4 _,λt ht=>?_,rfl⟩ ?_ ?_
  ·obtain⟨h1,_⟩:=eM ht;rw[Ks,Kg h1];exact Nr.mpr (hP.ne _ (K9 h1))
  ·rintro n σ H' hlt ⟨rfl,o3,o4,hn,hno,rfl⟩;rw[show (1:Int)+((n:Nat):Int)=((n+1:Nat):Int) by lia]
   have ec:(p:Int)+((n+1:Nat):Int)=((p+(n+1):Nat):Int):=by lia
   unfold aO;refine ar λM hM=>?_;exists ec;refine⟨_,rfl,by rw[ay];exact Km hz (by decide),?_⟩
   rw[i8 z p _ (by lia),LC]
   have next:(¬ (((z.drop p).take (n+1)).length=n+1/\(z.drop p).take (n+1)∈ws))->∀t,nF ws z p=some t->n+1<(ws.getD t []).length:=λhc t ht=>by
    have h1:=hno t ht;obtain⟨h2,h3⟩:=eM ht;rcases Nat.lt_or_eq_of_le (show n+1<=(ws.getD t []).length from h1) with h|h
    ·exact h
    ·have e4:(z.drop p).take (n+1)=ws.getD t []:=by rw[h];exact (N6.mp h3).symm
     exact absurd ⟨by rw[e4];exact h.symm,by rw[e4,Ks,Kg h2];exact K9 h2⟩ hc
   have hxl:((z.drop p).take (n+1)).length<=20:=by rw[KD];lia
   have hpre:((z.drop p).take (n+1)) <+: z.drop p:=List.take_prefix _ _;subst hM;generalize (z.drop p).take (n+1)=x at *;dsimp only;refine lh λM hM=>?_;have cont':(¬ (x.length=n+1/\x∈ws))->M [some (.ref a),some (.str (wd z)),some (.int (p:Nat)),some (.int ((n+1:Nat):Int)),some (.str (wd x))] H:=λhc=>by
    rw[hM];exact⟨rfl,some _,some _,hlt,next hc,rfl⟩
   have hxs:(wd x).length<=sizeLine:=by rw[ay];exact Km hxl (by decide)
   by_cases c1:x.length=n+1
   ·have c1':(((wd x).length:Nat):Int)=((n+1:Nat):Int):=by rw[ay,c1]
    by_cases c2:x∈ws
    ·obtain⟨t,ht,et⟩:=Nj.mp c2;have eg:ws.getD t []=x:=by rw[Ks,Kg ht];exact et
     have th:nF ws z p=some t:=hP.th ht (by rw[eg];exact hpre)
     have hlk:gw H a (.str (wd x)) (some (.int (t:Nat))):=by
      have:=gw.k (k:=.inr (wd x)) ha;rw[<- et] at this ⊢;rw[hT.yes t ht ht] at this;exact this
     exists Ku c1';refine⟨hxs,a,_,rfl,hlk,?_⟩;nofun;refine⟨a,_,rfl,hlk,by decide,λb hb=>?_⟩
     unfold iJ at q;rw[th] at q;refine q _ _ (KB.new hb) ⟨b,rfl,?_⟩;rw[aa,ec];show _=some (HO.tup [V.int (t:Nat),V.int ((p+(ws.getD t []).length:Nat):Int)]);rw[eg,c1]
    ·have hlk:gw H a (.str (wd x)) none:=by
      have:=gw.k (k:=.inr (wd x)) ha;rw[hT.no x (by rw[Lq];exact c2)] at this
      exact this
     exists Ku c1';refine⟨hxs,a,_,rfl,hlk,?_⟩;nofun;exact cont' λh=>c2 h.2
   ·have c1':¬ (((wd x).length:Nat):Int)=((n+1:Nat):Int):=by rw[ay];lia
    exists Ko c1';exact⟨hxs,cont' λh=>c1 h.1⟩
  ·rintro σ H' ⟨rfl,o3,o4,_,hno,rfl⟩;have hnone:nF ws z p=none:=by
    cases c:nF ws z p with
    |none=>rfl
    |some t =>
     have h1:=hno t c;obtain⟨h2,_⟩:=eM c;rw[Ks,Kg h2] at h1;have:=h20 _ (K9 h2);exact absurd h1 (by show ¬ 20<(ws[t]).length;lia)
   unfold iJ at q;rw[hnone] at q;show N _ _;subst hN;nofun;exact q _ _ (KB.refl _ _) rfl
def JM(H:Hp)(v:V):Option (Int×Nat)->Prop
 |none=>v=.aI
 |some x=>∃t,v=.ref t/\H t=some (.tup [.int x.1,.int (x.2:Nat)])
def zg(K:W.Frag):Sp:=λvs H Q _=>∃(a:Addr) (ws:List (List Nat)) (z:List Nat) (p:Nat),vs=[.ref a,.str (wd z),.int (p:Nat)]/\vh H a ws/\Pf ws/\(∀w∈ws,w.length<=20)/\ws.length<=20/\cH z/\z.length<=1000000/\p<=1000000/\∀v H',KB [] H H'->FZ H' v (yp ws z p)->Q v H'
def Bf(T:Txt K mg)(F:HasFn K mg "_law_number_at" cZ ["table","bits","at"])(h_law_thing_at:ao P w K mg base aY 1 "_law_thing_at" ["table","bits","at"] (kC K))(h_law_value:ao P w K mg base aY 1 "_law_value" ["text"] nG):ao P w K mg base aY 2 "_law_number_at" ["table","bits","at"] (zg K):=by
 refine F.fq cO (λvs H Q E h=>?_) (λf cdv A outer s H vs Q E hr h=>?_)
 ·obtain⟨a,ws,z,p,rfl,_⟩:=h;rfl
 ·have hu:=aU hr;obtain⟨a,ws,z,p,rfl,hT,hP,h20,hw20,hb,hz,hp,q⟩:=h;refine⟨_,(Z.ai (Z.se (i:=3) cO.nd (Z.fc h_law_thing_at (Z.cons (Z.v 0) (Z.cons (Z.v 1) (Z.cons (Z.v 2) Z.nil)))))
   (Z.ai (Z.cS (Z.tw (Z.IH (Z.aS bY (Z.v 3) Z.aI) (Z.FN (Z.aS bz (Z.ix (Z.az K rfl hu) (Z.v 3) Z.int) Z.int)))) (Z.av (Z.ret (Z.v 3))) Z.ba)
   (Z.ai (Z.se (i:=4) cO.nd (Z.slice Y.bZ (Z.v 1) (Z.gU (Z.ix (Z.az K rfl hu) (Z.v 3) Z.int)) (Z.gU (Z.op cX (Z.op (Z.aH K rfl) (Z.ix (Z.az K rfl hu) (Z.v 3) Z.int) (Z.ix (Z.az K rfl hu) (Z.v 3) Z.int)) Z.int))))
   (Z.ai (Z.cS (Z.aS iE (Z.cb (Z.bB K rfl) rfl T.b7 (by decide +kernel) (Z.cons (Z.v 4) Z.nil)) (Z.op cX (Z.ix (Z.az K rfl hu) (Z.v 3) Z.int) Z.int)) (Z.av (Z.ret Z.aI)) Z.ba)
   (Z.av (Z.ret (Z.tup (Z.cons (Z.fc h_law_value (Z.cons (Z.op (Z.aH K rfl) Z.str (Z.v 4)) Z.nil)) (Z.cons (Z.op (Z.aH K rfl) (Z.ix (Z.az K rfl hu) (Z.v 3) Z.int) (Z.cb (Z.bB K rfl) rfl T.b7 (by decide +kernel) (Z.cons (Z.v 4) Z.nil))) Z.nil))))))))),?_⟩
  refine ar λN hN=>?_;nofun;refine⟨a,ws,z,p,rfl,hT,hP,h20,hz,hp,λv H1 k1 o1=>?_⟩;subst hN;refine ar λN hN=>?_;unfold yp at q
  cases c:iJ ws z p with
  |none =>
   rw[c] at q o1;obtain rfl:v=.aI:=o1;nofun;exact q _ _ k1 rfl
  |some x =>
   rw[c] at q o1;obtain⟨t,e⟩:=x;obtain⟨h1,_,h3,h4⟩:=eA hP.ne c;obtain⟨b,rfl,hb1⟩:=o1;dsimp only at q h1 h3 h4 hb1;have sb:=aF hb1;exists if_neg (show ¬ V.ref b=V.aI from V.noConfusion),sb;by_cases c0:t=0
   ·subst c0;rw[Ku rfl] at q;rw[Ku (by rfl)]
    exact q _ _ k1 ⟨b,rfl,hb1⟩
   ·rw[Ko c0] at q;rw[Ko (show ¬ ((t:Nat):Int)=0 by lia),hN];clear hN N
    have eb:(e:Int)+(t:Int)-1=((e+(t-1):Nat):Int):=by lia
    have et:(t:Int)-1=((t-1:Nat):Int):=by lia
    have hb2:=hb.cut e (t-1);have hl2:((z.drop e).take (t-1)).length=min (t-1) (z.length-e):=by rw[KD,KQ]
    refine ar λN hN=>?_;exists sb,eb;refine⟨_,rfl,by rw[ay];exact Km hz (by decide),?_⟩
    rw[i8 z e _ (by lia),LC,hN];clear hN N
    have hx16:((z.drop e).take (t-1)).length<=20:=by lia
    have hxs:(wd ((z.drop e).take (t-1))).length<=sizeLine:=by rw[ay];exact Km hx16 (by decide)
    refine ar λN hN=>?_;by_cases cl:e+(t-1)<=z.length
    ·rw[Ku cl] at q;have hls:((z.drop e).take (t-1)).length=t-1:=by lia
     exists sb,et;refine⟨hxs,?_⟩;rw[ay,Ko (show ¬ (((z.drop e).take (t-1)).length:Int)<((t-1:Nat):Int) by lia),hN];clear hN N
     generalize (z.drop e).take (t-1)=x at *;nofun;rw[show Str.ofString "1"=wd [49] from by decide +kernel,d7,ay,ay]
     refine⟨Km (show _<=21 by simp;lia) (by decide),[49]++x,rfl,λc hc=>?_,by rw[Kj];simp;lia,?_⟩
     ·rcases Ld.mp hc with hc|hc
      ·exact .inr (K0.mp hc)
      ·exact hb2 c hc
     exists sb;rw[ay] at hxs;refine⟨hxs,by decide,λb2 hb2'=>q _ _ (k1.trans (KB.new hb2')) ⟨b2,rfl,?_⟩⟩
     rw[aa,hls];rfl
    ·rw[Ko cl] at q;exists sb,et;refine⟨hxs,?_⟩;rw[ay,Ku (show (((z.drop e).take (t-1)).length:Int)<((t-1:Nat):Int) by lia)]
     exact q _ _ k1 rfl
def yL:Sp:=λvs H Q _=>∃(z:List Nat) (p:Nat),vs=[.str (wd z),.int (p:Nat)]/\cH z/\z.length<=1000000/\p<=1000000/\∀v H',KB [] H H'->JM H' v (gA z p)->Q v H'
def Bn(T:Txt K mg)(F:HasFn K mg "_law_way_at" eB ["bits","at"])(h_law_value:ao P w K mg base aY 1 "_law_value" ["text"] nG):ao P w K mg base aY 2 "_law_way_at" ["bits","at"] yL:=by
 refine F.fq bK (λvs H Q E h=>?_) (λf cdv A outer s H vs Q E hr h=>?_)
 ·obtain⟨z,p,rfl,_⟩:=h;rfl
 ·have hu:=aU hr;obtain⟨z,p,rfl,hb,hz,hp,q⟩:=h;refine⟨_,(Z.ai (Z.dO KP rfl (Z.lH rfl T.cB (Z.cons Z.int Z.nil)) (Z.aM (i:=2) bK.nd rfl (by right)) (Z.ai (Z.se (i:=3) bK.nd (Z.ix (Z.az K rfl hu) (Z.lst (Z.consts rfl)) (Z.v 2)))
   (Z.av (Z.cS (Z.aS bz (Z.slice Y.bZ (Z.v 0) (Z.gU (Z.v 1)) (Z.gU (Z.op (Z.aH K rfl) (Z.v 1) (Z.cb (Z.bB K rfl) rfl T.b7 (by decide +kernel) (Z.cons (Z.v 3) Z.nil))))) (Z.v 3)) (Z.ai (Z.se (i:=4) bK.nd (Z.slice Y.bZ (Z.v 0) (Z.gU (Z.op (Z.aH K rfl) (Z.v 1) (Z.cb (Z.bB K rfl) rfl T.b7 (by decide +kernel) (Z.cons (Z.v 3) Z.nil)))) (Z.gU (Z.op (Z.aH K rfl) (Z.op (Z.aH K rfl) (Z.v 1) (Z.cb (Z.bB K rfl) rfl T.b7 (by decide +kernel) (Z.cons (Z.v 3) Z.nil))) (Z.ix (Z.az K rfl hu) (Z.lst (Z.consts rfl)) (Z.v 2))))))
   (Z.ai (Z.cS (Z.aS iE (Z.cb (Z.bB K rfl) rfl T.b7 (by decide +kernel) (Z.cons (Z.v 4) Z.nil)) (Z.ix (Z.az K rfl hu) (Z.lst (Z.consts rfl)) (Z.v 2))) (Z.av (Z.ret Z.aI)) Z.ba)
   (Z.ai (Z.se (i:=5) bK.nd (Z.fc h_law_value (Z.cons (Z.v 4) Z.nil)))
   (Z.ai (Z.cS (Z.aS yW (Z.v 5) (Z.ix (Z.az K rfl hu) (Z.lst (Z.consts rfl)) (Z.v 2))) (Z.av (Z.se (i:=5) bK.nd (Z.op cX (Z.v 5) (Z.ix (Z.az K rfl hu) (Z.lst (Z.consts rfl)) (Z.v 2))))) Z.ba)
   (Z.av (Z.ret (Z.tup (Z.cons (Z.v 5) (Z.cons (Z.op (Z.aH K rfl) (Z.op (Z.aH K rfl) (Z.v 1) (Z.cb (Z.bB K rfl) rfl T.b7 (by decide +kernel) (Z.cons (Z.v 3) Z.nil))) (Z.cb (Z.bB K rfl) rfl T.b7 (by decide +kernel) (Z.cons (Z.v 4) Z.nil))) Z.nil))))))))) Z.ba))))
   (Z.av (Z.ret Z.aI))),?_⟩
  refine ar λN hN=>?_;nofun;refine⟨by decide,by decide,?_⟩
  refine bP (n:=3) (λn σ H'=>∃o2 o3 o4 o5:Option V,KB [] H H'/\n<=3/\(List.range' n (3-n)).find? (λi=>decide (oF.getD i [] <+: z.drop p))=nF oF z p/\σ=[some (.str (wd z)),some (.int (p:Nat)),o2,o3,o4,o5]) ⟨none,none,none,none,KB.refl _ _,K4 _,by unfold nF;rw[Nf];rfl,rfl⟩ ?_ ?_
  ·rintro n σ H' hlt ⟨o2,o3,o4,o5,k0,hn,ef,rfl⟩;rw[find3 hlt] at ef;rw[show (0:Int)+((n:Nat):Int)=(n:Int) from P9 _];have p2:=qw hlt;have p3:bS [V.int 4,.int 8,.int 16] (n:Int)=some (.int (aT n:Nat)):=by rcases oz hlt with rfl|rfl|rfl<;>rfl
   have p4:0<aT n/\aT n<=16/\(bG n).length<=2:=by rcases oz hlt with rfl|rfl|rfl<;>decide
   have p5:bS [V.int 8,.int 128,.int 32768] (n:Int)=some (.int (cU n)):=by rcases oz hlt with rfl|rfl|rfl<;>rfl
   have p6:bS [V.int 16,.int 256,.int 65536] (n:Int)=some (.int (2*cU n)):=by rcases oz hlt with rfl|rfl|rfl<;>rfl
   have zs:(wd z).length<=sizeLine:=by rw[ay];exact Km hz (by decide)
   have h2l:(wd (bG n)).length<=sizeLine:=by rw[ay];exact Km p4.2.2 (by decide)
   unfold aO;refine ar λM hM=>?_;exists p2;refine⟨by decide,λl1 hl1=>?_⟩
   have k1:=k0.trans (KB.new (o:=.lst [.str (Str.ofString "0"),.str (Str.ofString "10"),.str (Str.ofString "11")]) hl1);generalize upd H' l1 _=H1 at *;subst hM;dsimp only;refine lh λM hM=>?_;refine qO λA B hA hB=>?_;have ec1:(p:Int)+((wd (bG n)).length:Nat)=((p+(bG n).length:Nat):Int):=by rw[ay];lia
   exists ec1;refine⟨h2l,_,rfl,zs,?_⟩;rw[i8 z p _ (by lia),LC]
   nofun;by_cases c:bG n <+: z.drop p
   ·rw[Ku c] at ef;rw[Ku (Lg wd (pre_take.mp c)),hA];clear hA hB A B;have hc:iJ oF z p=some (n,p+(bG n).length):=by unfold iJ;rw[<- ef,<- yX hlt];rfl
    unfold gA at q;rw[hc] at q;dsimp only at q;generalize he:p+(bG n).length=e at *;have ec2:(e:Int)+(aT n:Nat)=((e+aT n:Nat):Int):=by lia
    have hb2:=hb.cut e (aT n);have hl2:((z.drop e).take (aT n)).length=min (aT n) (z.length-e):=by rw[KD,KQ]
    refine ar λM' hM'=>?_;exists ec1,p3,ec2;refine⟨h2l,h2l,by decide,λl2 hl2'=>⟨_,rfl,zs,?_⟩⟩
    have k2:=k1.trans (KB.new (o:=.lst [.int 4,.int 8,.int 16]) hl2');generalize upd H1 l2 _=H2 at *;rw[i8 z e _ (by lia),LC,hM'];clear hM' M'
    have hx16:((z.drop e).take (aT n)).length<=16:=by lia
    generalize hx:(z.drop e).take (aT n)=x at *;have hxs:(wd x).length<=sizeLine:=by rw[ay];exact Km hx16 (by decide)
    refine ar λM' hM'=>?_;refine qO λA B hA hB=>?_;exists p3;refine⟨hxs,by decide,λl3 hl3=>?_⟩
    have k3:=k2.trans (KB.new (o:=.lst [.int 4,.int 8,.int 16]) hl3);generalize upd H2 l3 _=H3 at *;rw[ay];by_cases cl:e+aT n<=z.length
    ·rw[Ku cl] at q;have hls:x.length=aT n:=by lia
     rw[Ko (show ¬ (x.length:Int)<(aT n:Nat) by lia),hB]
     show M' _ _;rw[hM'];clear hM' M' hA hB A B;refine ar λM' hM'=>?_;nofun;refine⟨x,rfl,hb2,by lia,?_⟩
     rw[hM'];clear hM' M';unfold FF at q;have fin:∀(d:Int) (G:Hp),KB [] H G->d=(if cU n<=((eO x:Nat):Int) then ((eO x:Nat):Int)-2*cU n else ((eO x:Nat):Int))->(wd (bG n)).length<=sizeLine/\(wd x).length<=sizeLine/\0+1+1<=sizeLine/\∀b,G b=none->Q (.ref b) (upd G b (.tup [.int d,.int ((e:Int)+((wd x).length:Nat))])):=λd G kG ed=>by
      refine⟨h2l,hxs,by decide,λb hb'=>q _ _ (kG.trans (KB.new hb')) ⟨b,rfl,?_⟩⟩
      rw[aa,ed,ay,hls];rfl
     refine ar λM' hM'=>?_;refine qO λA B hA hB=>?_;exists p5;refine⟨by decide,λl4 hl4=>?_⟩
     have k4:=k3.trans (KB.new (o:=.lst [.int 8,.int 128,.int 32768]) hl4);generalize upd H3 l4 _=H4 at *;by_cases c2:cU n<=(eO x:Nat)
     ·rw[Ku c2,hA];exists p6;refine⟨by decide,λl5 hl5=>?_⟩
      have k5:=k4.trans (KB.new (o:=.lst [.int 16,.int 256,.int 65536]) hl5);generalize upd H4 l5 _=H5 at *;rw[hM'];exists ec1;exact fin _ H5 k5 (by rw[Ku c2])
     ·rw[Ko c2,hB];show M' _ _;rw[hM'];exists ec1;exact fin _ H4 k4 (by rw[Ko c2])
    ·rw[Ko cl] at q;rw[Ku (show (x.length:Int)<(aT n:Nat) by lia),hA]
     nofun;exact q _ _ k3 rfl
   ·rw[Ko c] at ef;rw[Ko (λh=>c (pre_take.mpr (zM h))),hB];show M _ _;rw[hM];exact⟨some _,some _,o4,o5,k1,hlt,ef,rfl⟩
  ·rintro σ H' ⟨o2,o3,o4,o5,k0,_,ef,rfl⟩;have ef':nF oF z p=none:=ef.symm;unfold gA iJ at q;rw[ef'] at q;show N _ _;subst hN;nofun;exact q _ _ k0 rfl
def Iw(H:Hp)(v:V):Option (PV×Nat)->Prop
 |none=>v=.aI
 |some x=>∃t,v=.ref t/\H t=some (.tup [.int x.1.n,.int (x.2:Nat)])
def BF{v:V}(h:FZ H v o):Iw H v (o.map λx=>(PV.box x.1,x.2)):=by cases o<;>exact h
def BY{v:V}(h:FZ H v o):Iw H v (o.map λx=>(PV.num x.1,x.2)):=by cases o<;>exact h
def Dl{v:V}{o:Option (Int×Nat)}(h:JM H v o):Iw H v (o.map λx=>(PV.go x.1,x.2)):=by cases o<;>exact h
def FK(h:i<9):bS [V.str (Str.ofString "bn"),.str (Str.ofString "bb"),.str (Str.ofString "bb"),.str (Str.ofString "bb"),.str (Str.ofString "b"),.str (Str.ofString "b"),.str (Str.ofString "g"),.str (Str.ofString "bg"),.str (Str.ofString "")] (i:Int)=some (.str (wd ((wC i).map Kd.c))):=by
 have:i=0\/i=1\/i=2\/i=3\/i=4\/i=5\/i=6\/i=7\/i=8:=by lia
 rcases this with rfl|rfl|rfl|rfl|rfl|rfl|rfl|rfl|rfl<;>exact Lg (λz=>some (V.str z)) (by decide +kernel)
def GW{cd:List (List (List Nat))}{k:Kd}{x:PV×Nat}(hR:n5 cd)(h:u7 cd z p k=some x):bS [V.str ⟨#[97+(x.1.n % 8).toNat]⟩,.int x.1.n] (if ¬ (⟨#[k.c]⟩:Str)=Str.ofString "b" then 1 else 0)=some x.1.l:=by
 have h8:=(n6 hR h).2.2
 cases k with
 |box =>
  rw[Ko (by decide +kernel:¬ ¬ (⟨#[Kd.c .box]⟩:Str)=Str.ofString "b")]
  replace h:(iJ (cd.getD 2 []) z p).map (λx=>(PV.box x.1,x.2))=some x:=h
  obtain⟨y,_,e⟩:=K8.mp h;subst e;have h9:=h8 _ rfl;show some (V.str ⟨#[97+(((y.1:Nat):Int) % 8).toNat]⟩)=some (V.str (d8 y.1));rw[show (((y.1:Nat):Int) % 8).toNat=y.1 by lia]
  rfl
 |num =>
  rw[Ku (by decide +kernel:¬ (⟨#[Kd.c .num]⟩:Str)=Str.ofString "b")]
  obtain⟨y,_,e⟩:=K8.mp h;subst e;rfl
 |go =>
  rw[Ku (by decide +kernel:¬ (⟨#[Kd.c .go]⟩:Str)=Str.ofString "b")]
  obtain⟨y,_,e⟩:=K8.mp h;subst e;rfl
def Et(H:Hp)(v:V):Option (RW×Nat)->Prop
 |none=>v=.aI
 |some x=>∃t r,v=.ref t/\H t=some (.tup [.ref r,.int (x.2:Nat)])/\H r=some (.tup x.1.l)
def wG(K:W.Frag):Sp:=λvs H Q _=>∃(a:Addr) (cd:List (List (List Nat))) (z:List Nat) (p:Nat),vs=[.ref a,.str (wd z),.int (p:Nat)]/\BX H a cd/\JF cd/\cH z/\z.length<=1000000/\p<=1000000/\∀v H',KB [] H H'->Et H' v (zY cd z p)->Q v H'
theorem Bg(T:Txt K mg)(F:HasFn K mg "_law_row_at" e7 ["tables","bits","at"])(h_law_thing_at:ao P w K mg base aY 1 "_law_thing_at" ["table","bits","at"] (kC K))(h_law_number_at:ao P w K mg base aY 2 "_law_number_at" ["table","bits","at"] (zg K))(h_law_way_at:ao P w K mg base aY 2 "_law_way_at" ["bits","at"] yL)(h_law_words:ao P w K mg base aY 1 "_law_words" [] nv):ao P w K mg base aY 3 "_law_row_at" ["tables","bits","at"] (wG K):=by
 refine F.fq bq (λvs H Q E h=>?_) (λf cdv A outer s H vs Q E hr h=>?_)
 ·obtain⟨a,cd,z,p,rfl,_⟩:=h;rfl
 ·have hu:=aU hr;obtain⟨a,cd,z,p,rfl,hT,hR,hb,hz,hp,q⟩:=h;obtain⟨t0,t1,t2,gT,T0,T1,T2⟩:=hT;refine⟨_,(Z.ai (Z.se (i:=3) bq.nd (Z.fc h_law_thing_at (Z.cons (Z.ix (Z.az K rfl hu) (Z.v 0) Z.int) (Z.cons (Z.v 1) (Z.cons (Z.v 2) Z.nil)))))
   (Z.ai (Z.cS (Z.aS bY (Z.v 3) Z.aI) (Z.av (Z.ret Z.aI)) Z.ba)
   (Z.ai (Z.se (i:=4) bq.nd (Z.lst (Z.cons (Z.ix (Z.az K rfl hu) (Z.JL h_law_words (hr.mono (by decide)) rfl zT) (Z.ix (Z.az K rfl hu) (Z.v 3) Z.int)) Z.nil)))
   (Z.ai (Z.dO KP rfl (Z.Jy (Z.ix (Z.az K rfl hu) (Z.lst (Z.consts rfl)) (Z.ix (Z.az K rfl hu) (Z.v 3) Z.int))) (Z.aM (i:=5) bq.nd rfl (by right)) (Z.ai (Z.se (i:=6) bq.nd (Z.ix (Z.az K rfl hu) (Z.v 3) Z.int))
   (Z.ai (Z.cS (Z.aS bz (Z.v 5) Z.str) (Z.av (Z.se (i:=3) bq.nd (Z.fc h_law_thing_at (Z.cons (Z.ix (Z.az K rfl hu) (Z.v 0) Z.int) (Z.cons (Z.v 1) (Z.cons (Z.v 6) Z.nil)))))) (Z.av (Z.cS (Z.aS bz (Z.v 5) Z.str) (Z.av (Z.se (i:=3) bq.nd (Z.fc h_law_number_at (Z.cons (Z.ix (Z.az K rfl hu) (Z.v 0) Z.int) (Z.cons (Z.v 1) (Z.cons (Z.v 6) Z.nil)))))) (Z.av (Z.se (i:=3) bq.nd (Z.fc h_law_way_at (Z.cons (Z.v 1) (Z.cons (Z.v 6) Z.nil))))))))
   (Z.ai (Z.cS (Z.aS bY (Z.v 3) Z.aI) (Z.av (Z.ret Z.aI)) Z.ba)
   (Z.av (Z.expr (Z.app K (Z.v 4) (Z.cons (Z.ix (Z.az K rfl hu) (Z.lst (Z.cons (Z.ix (Z.az K rfl hu) Z.str (Z.op dM (Z.ix (Z.az K rfl hu) (Z.v 3) Z.int) Z.int)) (Z.cons (Z.ix (Z.az K rfl hu) (Z.v 3) Z.int) Z.nil))) (Z.ct m9 rfl T.qI (by decide +kernel) (Z.cons (Z.cmp sQ (Z.v 5) Z.str) Z.nil))) Z.nil))))))))
   (Z.av (Z.ret (Z.tup (Z.cons (Z.ct (Z.d4 K rfl) rfl T.cJ (by decide +kernel) (Z.cons (Z.v 4) Z.nil)) (Z.cons (Z.ix (Z.az K rfl hu) (Z.v 3) Z.int) Z.nil))))))))),?_⟩
  obtain⟨c0,c1,c2,rfl,l0,l1,l2⟩:=hR.fJ.ex;have f0:=hR.pf c0 (by simp)
  have f1:=hR.pf c1 (by simp)
  have f2:=hR.pf c2 (by simp)
  have m0:=hR.FC c0 (by simp)
  have m1:=hR.FC c1 (by simp)
  have m2:=hR.FC c2 (by simp)
  refine ar λN hN=>?_;exists au gT;refine⟨t0,c0,z,p,rfl,T0,f0,m0,hz,hp,λv H1 k1 o1=>?_⟩;subst hN;refine ar λN hN=>?_
  replace q:∀v H',KB [] H H'->Et H' v ((iJ c0 z p).bind λx=>(je [c0,c1,c2] z (wC x.1) x.2).map λy=>(⟨x.1,y.1⟩,y.2))->Q v H':=q
  cases c:iJ c0 z p with
  |none =>
   rw[c] at q o1;obtain rfl:v=.aI:=o1;nofun;exact q _ _ k1 rfl
  |some x =>
   rw[c] at q o1;obtain⟨wi,e⟩:=x;obtain⟨w1,_,_,w4⟩:=eA f0.ne c;dsimp only at w1 w4;have h9:wi<9:=by lia
   replace q:∀v H',KB [] H H'->Et H' v ((je [c0,c1,c2] z (wC wi) e).map λy=>(⟨wi,y.1⟩,y.2))->Q v H':=q
   obtain⟨t,rfl,ht⟩:=o1;dsimp only at ht;exists if_neg (show ¬ V.ref t=V.aI from V.noConfusion);subst hN;refine ar λN hN=>?_;have ak:bS (b8.map V.str) (wi:Int)=some (.str (b8.getD wi (Str.ofString ""))):=bw (by
    rw[Kn,Ks,Kg (show wi<b8.length from h9)];rfl)
   nofun;refine⟨rfl,λl hl=>?_⟩;obtain⟨k2,s2⟩:=e8 hl (.lst (b8.map V.str));generalize upd H1 l _=H2 at *;have ht2:=k2.n ht;exists aF ht2,au s2,ak;have h02:KB [] H H2:=k1.trans k2;have hlen:(wC wi).length<=2:=by
    have:wi=0\/wi=1\/wi=2\/wi=3\/wi=4\/wi=5\/wi=6\/wi=7\/wi=8:=by lia
    rcases this with rfl|rfl|rfl|rfl|rfl|rfl|rfl|rfl|rfl<;>decide
   have k9:=FK h9;generalize hps:wC wi=ks0 at *;generalize hw9:b8.getD wi (Str.ofString "")=W at *;refine⟨by decide,λrl hrl=>?_⟩
   obtain⟨k3,s3⟩:=e8 hrl (.lst [.str W]);generalize upd H2 rl _=H3 at *;have hrl0:H rl=none:=h02.free (by simp) hrl
   have h03:KB [] H H3:=h02.trans k3;have ht3:=k3.n ht2;clear k1 k2 k3 hl s2 ht ht2 ak h02 hrl;rw[hN];clear hN N;refine ar λN hN=>?_;nofun;refine⟨by decide,λl hl=>?_⟩
   have k4:=h03.trans (KB.new (o:=.lst [.str (Str.ofString "bn"),.str (Str.ofString "bb"),.str (Str.ofString "bb"),.str (Str.ofString "bb"),.str (Str.ofString "b"),.str (Str.ofString "b"),.str (Str.ofString "g"),.str (Str.ofString "bg"),.str (Str.ofString "")]) hl);have ht4:=KB.new (ex:=[]) (o:=.lst [.str (Str.ofString "bn"),.str (Str.ofString "bb"),.str (Str.ofString "bb"),.str (Str.ofString "bb"),.str (Str.ofString "b"),.str (Str.ofString "b"),.str (Str.ofString "g"),.str (Str.ofString "bg"),.str (Str.ofString "")]) hl _ _ ht3 (by simp)
   have s4:=KB.new (ex:=[]) (o:=.lst [.str (Str.ofString "bn"),.str (Str.ofString "bb"),.str (Str.ofString "bb"),.str (Str.ofString "bb"),.str (Str.ofString "b"),.str (Str.ofString "b"),.str (Str.ofString "g"),.str (Str.ofString "bg"),.str (Str.ofString "")]) hl _ _ s3 (by simp)
   exists aF ht4,k9;generalize upd H3 l _=H4 at *;clear ht3 s3 h03 hl;have q':∀v H',KB [] H H'->(match je [c0,c1,c2] z ks0 e with|none=>v=V.aI|some y=>∃t r,v=.ref t/\H' t=some (.tup [.ref r,.int (y.2:Nat)])/\H' r=some (.tup (.str W::y.1.map λx=>x.1.l)))->Q v H':=λv H' k o=>by
    refine q v H' k ?_
    cases c2':je [c0,c1,c2] z ks0 e with
    |none=>rw[c2'] at o;exact o
    |some y =>
     rw[c2'] at o;obtain⟨t,r,e1,e2,e3⟩:=o;refine⟨t,r,e1,e2,?_⟩;rw[e3];show _=some (HO.tup (RW.l ⟨wi,y.1⟩));unfold RW.l;rw[hw9]
   clear q k9;have KF:∀{G:Hp} {o:HO},KB [] H G->KB [] H (upd G rl o):=λa b o e _=>by rw[ae (aq e hrl0)];exact a b o e (by simp)
   refine pq (z:=wd (ks0.map Kd.c)) (λi σ H'=>∃(acc:List (PV×Nat)) (b:Nat) (x0:Int) (t:Addr) (o5 o6:Option V),i<=ks0.length/\(je [c0,c1,c2] z ks0 e=(je [c0,c1,c2] z (ks0.drop i) b).map λy=>(acc++y.1,y.2))/\acc.length=i/\b<=z.length/\H' t=some (.tup [.int x0,.int (b:Nat)])/\H' rl=some (.lst (.str W::acc.map λx=>x.1.l))/\KB [] H H'/\σ=[some (.ref a),some (.str (wd z)),some (.int (p:Nat)),some (.ref t),some (.ref rl),o5,o6]) ⟨[],e,(wi:Int),t,none,none,K4 _,by rw[LI];cases je [c0,c1,c2] z ks0 e<;>rfl,rfl,w4,ht4,s4,k4,rfl⟩ ?_ ?_
   ·rintro i cc σ H' hcc ⟨acc,b,x0,t,o5,o6,hi,ep,hacc,hbz,ht',hrl',h0',rfl⟩;have hi2:i<ks0.length:=by have:=(KC.mp hcc).1;simpa[wd] using this
    obtain rfl:cc=(ks0[i]).c:=by
     have:(wd (ks0.map Kd.c)).cps[i]?=some (ks0[i]).c:=by unfold wd;rw[Lp,Kn,Kg hi2];rfl
     rw[this] at hcc;exact (Option.some.inj hcc).symm
    rw[LL hi2,je] at ep;generalize ks0[i]=k at *;have hR':=hR.1;unfold aO;refine ar λM hM=>?_;exists aF ht';subst hM;refine ar λM hM=>?_;have go:∀v G,KB [] H' G->Iw G v (u7 [c0,c1,c2] z b k)->M [some (.ref a),some (.str (wd z)),some (.int (p:Nat)),some v,some (.ref rl),some (.str ⟨#[k.c]⟩),some (.int (b:Nat))] G:=λv G kG o=>by
     subst hM;refine ar λM hM=>?_
     cases c3:u7 [c0,c1,c2] z b k with
     |none =>
      rw[c3] at ep o;obtain rfl:v=.aI:=o;have ep':je [c0,c1,c2] z ks0 e=none:=ep;nofun;exact q' _ _ (h0'.trans kG) (by rw[ep'])
     |some x =>
      rw[c3] at ep o;obtain⟨t5,rfl,ht5⟩:=o;exists if_neg (show ¬ V.ref t5=V.aI from V.noConfusion);subst hM;dsimp only;refine lh λM hM=>?_;have at8:bS (Str.ofString "abcdefgh").cps.toList (x.1.n % 8)=some (97+(x.1.n % 8).toNat):=x6 (by lia) (by lia)
      have hk:=GW hR' c3;have hr5:=kG.n hrl';exists aF ht5,at8;refine⟨.inl ⟨rfl,_,a_.of hr5⟩,by decide,by decide +kernel,by decide,λl7 hl7=>?_⟩
      have k7:KB [] G (upd G l7 (.lst [.str ⟨#[97+(x.1.n % 8).toNat]⟩,.int x.1.n])):=KB.new hl7;generalize upd G l7 (.lst [.str ⟨#[97+(x.1.n % 8).toNat]⟩,.int x.1.n])=G7 at *;rw[hk];have hr7:=k7.n hr5;refine⟨rl,_,_,rfl,rfl,hr7,KI (show _<4 by rw[K2,Ki];lia) (by decide),?_⟩
      rw[hM];have ht7:=k7.n ht5;have nt:t5≠rl:=λz=>by rw[z,hr7] at ht7;cases ht7
      refine⟨acc++[x],x.2,x.1.n,t5,some _,some _,hi2,?_,by rw[Kj,hacc];rfl,(n6 hR' c3).2.1,by rw[ae nt];exact ht7,by rw[aa,K7];rfl,KF ((h0'.trans kG).trans k7),rfl⟩
      rw[ep,M_]
      cases je [c0,c1,c2] z (ks0.drop (i+1)) x.2 with
      |none=>rfl
      |some y=>show some (acc++(x::y.1),y.2)=some ((acc++[x])++y.1,y.2);rw[KN];rfl
    have gT':=h0'.n gT;have nd:∀{t:Addr} {ws:List (List Nat)},vh H t ws->vh H' t ws:=λh=>h.keep h0' (by simp)
    cases k with
    |box =>
     exists Ku (by decide +kernel:(⟨#[Kd.c .box]⟩:Str)=Str.ofString "b"),au gT'
     exact⟨t2,c2,z,b,rfl,nd T2,f2,m2,hz,by lia,λv G kG o=>go v G kG (BF o)⟩
    |num =>
     exists Ko (by decide +kernel:¬ (⟨#[Kd.c .num]⟩:Str)=Str.ofString "b"),Ku (by decide +kernel:(⟨#[Kd.c .num]⟩:Str)=Str.ofString "n"),au gT'
     exact⟨t1,c1,z,b,rfl,nd T1,f1,m1,by lia,hb,hz,by lia,λv G kG o=>go v G kG (BY o)⟩
    |go =>
     exists Ko (by decide +kernel:¬ (⟨#[Kd.c .go]⟩:Str)=Str.ofString "b"),Ko (by decide +kernel:¬ (⟨#[Kd.c .go]⟩:Str)=Str.ofString "n")
     exact⟨z,b,rfl,hb,hz,by lia,λv G kG o=>go v G kG (Dl o)⟩
   ·rintro σ H' ⟨acc,b,x0,t,o5,o6,_,ep,_,_,ht',hrl',h0',rfl⟩;have e0:(wd (ks0.map Kd.c)).cps.size=ks0.length:=by unfold wd;simp
    rw[e0,Mn] at ep;have ep':je [c0,c1,c2] z ks0 e=some (acc,b):=by rw[ep];show some (acc++[],b)=_;rw[Le]
    rw[ep'] at q';show N _ _;subst hN;exists au hrl';intro rt hrt;obtain⟨k7,s7⟩:=e8 hrt (.tup (.str W::acc.map λx=>x.1.l));generalize upd H' rt _=H7 at *;exists aF (k7.n ht');refine⟨by decide,λtt htt=>q' _ _ ((h0'.trans k7).trans (KB.new htt)) ⟨tt,rt,rfl,aa,?_⟩⟩
    rw[ae (aq s7 htt),s7]
def rN{g:TG}{tb:TS}{D:Ends}{b c:Addr}{n:Nat}(hxy:xs.length<=ys.length)(hxz:xs.length<=zs.length)(Pv:Nat->L2.St->Hp->Prop)(h0:Pv 0 σ H)(hl:∀i σ H,Pv i σ H->a_ K H a xs/\a_ K H b ys/\a_ K H c zs)
  (hs:∀i x y z σ H p,xs[i]?=some x->ys[i]?=some y->zs[i]?=some z->Pv i σ H->H p=none->g (.ref p) σ (upd H p (.tup [x,y,z])) λσ2 H2=>tb {D with nx:=Pv (i+1),ct:=Pv (i+1),bk:=D.nx} σ2 H2) (hd:∀σ H,Pv xs.length σ H->D.nx σ H):nX (Ae K (eJ n [(true,a),(true,b),(true,c)])) g tb D σ H:=by
 refine⟨λi m σ H=>m=xs.length-i/\i<=xs.length/\Pv i σ H,⟨xs.length,by simp,K4 _,h0⟩,?_⟩
 rintro i m σ H ⟨rfl,hi,p⟩;obtain⟨q1,q2,q3⟩:=hl i σ H p;have q1':hJ K true H a xs:=q1;have q2':hJ K true H b ys:=q2;have q3':hJ K true H c zs:=q3;by_cases hlt:i<xs.length
 ·have hl2:i<ys.length:=by lia
  have hl3:i<zs.length:=by lia
  refine .inr ⟨⟨[xs[i],ys[i],zs[i]],.cons ⟨xs,q1',by simp[hlt]⟩ (.cons ⟨ys,q2',by simp[hl2]⟩ (.cons ⟨zs,q3',by simp[hl3]⟩ .nil))⟩,Pv (i+1),λσ' H' p'=>⟨xs.length-(i+1),by lia,rfl,hlt,p'⟩,λx H' z=>?_⟩
  obtain⟨c',vs,pr,fr,rfl,rfl⟩:=z;obtain⟨v1,vs,rfl,e1,pr⟩:=Paired.dm pr;obtain⟨v2,vs,rfl,e2,pr⟩:=Paired.dm pr;obtain⟨v3,vs,rfl,e3,pr⟩:=Paired.dm pr;cases pr;exact hs i v1 v2 v3 σ H c' (e1 xs q1') (e2 ys q2') (e3 zs q3') p fr
 ·have e:i=xs.length:=by lia
  subst e;exact .inl ⟨⟨[],(true,n,a),_,[],rfl,.nil,xs,q1',rfl⟩,hd σ H p⟩
def HR(k:Int)(l:List Nat):iW (.int k) (iV (nZ l))=decide (k∈l.map λj:Nat=>(j:Int)):=by
 unfold iW iV nZ
 induction l with
 |nil=>rfl
 |cons a l ih =>
  rw[KA,KA,Nl,ih];show (decide (((a:Nat):Int)=k) || _)=_;by_cases c:((a:Nat):Int)=k
  ·rw[KY c,Bool.true_or,<- c];exact (KY Kw).symm
  ·rw[KJ c,Bool.false_or];exact Mb.mpr ⟨Kx _,λh=>(Kv.mp h).resolve_left λe=>c e.symm⟩
def Be(l:List Nat):(iV (nZ l)).all cu=true:=by
 unfold iV nZ
 induction l with
 |nil=>rfl
 |cons a l ih=>rw[KA,KA,L_,ih];rfl
def vC{k:Int}{E:List Int}(h:k∈E):E[E.idxOf k]?=some k/\∀m,m<E.idxOf k->E[m]?≠some k:=by
 induction E with
 |nil=>cases h
 |cons a E ih =>
  rw[List.idxOf_cons];by_cases c:a=k
  ·subst c;rw[L3,cond_true];exact⟨rfl,λm hm=>absurd hm (NR _)⟩
  ·rw[Lb.mpr c,cond_false];obtain⟨i1,i2⟩:=ih ((Kv.mp h).resolve_left λe=>c e.symm);refine⟨i1,λm hm=>?_⟩
   cases m with
   |zero=>intro z;exact c (Option.some.inj z)
   |succ m=>exact i2 m (by lia)
def El(H:Hp)(t:Addr):Nat ⊕ List b6->Prop
 |.inl p=>H t=some (.tup [.str "bad",.int (p:Nat)])
 |.inr ms=>∃u,H t=some (.tup [.str "rows",.ref u])/\Hi H u ms
def El.kb{t:Addr}{o:Nat ⊕ List b6}(h:El H t o)(k:KB [] H H'):El H' t o:=by
 cases o with
 |inl p=>exact k.n h
 |inr ms=>obtain⟨u,h1,h2⟩:=h;exact⟨u,k.n h1,h2.kb k⟩
def yH(r:b6)(e:Int):dF (r.rel e)=(dF r).map (· - e):=by cases r<;>rfl
def BS{r:b6}{e:Int}(h:dF r=some g)(j:Int):(r.rel e).setG j=r.setG j:=by cases r<;>first|rfl|cases h
def Fz{r:b6}(e:Int)(h:dF r=none):r.rel e=r:=by cases r<;>first|rfl|cases h
def BX.kb{cd:List (List (List Nat))}(h:BX H a cd)(k:KB [] H H'):BX H' a cd:=by
 obtain⟨t0,t1,t2,e,h0,h1,h2⟩:=h;have n:∀b∈([]:List Addr),∀kvs,H b≠some (.dK kvs):=λb hb=>absurd hb KO;exact⟨t0,t1,t2,k.n e,h0.keep k n,h1.keep k n,h2.keep k n⟩
def uq:Sp:=λvs H Q _=>∃(b:Addr) (bk:List (List Int)) (z:List Nat),vs=[.str (wd z),.ref b]/\sk H b bk/\Bk bk/\cH z/\z.length<=10000/\∀t H',KB [] H H'->El H' t (Fd (gx bk) z)->Q (.ref t) H'
def xp(T:Txt K mg)(F:HasFn K mg "_law_read" fU ["bits","book"])(h_law_tables:ao P w K mg base aY 3 "_law_tables" ["book"] (qa K))(h_law_row_at:ao P w K mg base aY 3 "_law_row_at" ["tables","bits","at"] (wG K)):ao P w K mg base aY 4 "_law_read" ["bits","book"] uq:=by
 refine F.fq bj (λvs H Q E h=>?_) (λf cdv A outer s H vs Q E hr h=>?_)
 ·obtain⟨b,bk,z,rfl,_⟩:=h;rfl
 ·have hu:=aU hr;obtain⟨b,bk,z,rfl,hb,hB,hz,hzl,q⟩:=h;have hRl:=oP hB;have hR:=hRl.1;refine⟨_,(Z.ai (Z.se (i:=2) bj.nd (Z.fc h_law_tables (Z.cons (Z.v 1) Z.nil)))
   (Z.ai (Z.se (i:=3) bj.nd (Z.lst Z.nil))
   (Z.ai (Z.se (i:=4) bj.nd (Z.lst (Z.cons Z.int Z.nil)))
   (Z.ai (Z.r8 KP (Z.aS iE (Z.ix (Z.az K rfl hu) (Z.v 4) (Z.un cy Z.int)) (Z.cb (Z.bB K rfl) rfl T.b7 (by decide +kernel) (Z.cons (Z.v 0) Z.nil))) (Z.ai (Z.se (i:=5) bj.nd (Z.fc h_law_row_at (Z.cons (Z.v 2) (Z.cons (Z.v 0) (Z.cons (Z.ix (Z.az K rfl hu) (Z.v 4) (Z.un cy Z.int)) Z.nil)))))
   (Z.ai (Z.cS (Z.aS bY (Z.v 5) Z.aI) (Z.av (Z.ret (Z.tup (Z.cons Z.str (Z.cons (Z.ix (Z.az K rfl hu) (Z.v 4) (Z.un cy Z.int)) Z.nil))))) Z.ba)
   (Z.ai (Z.expr (Z.app K (Z.v 3) (Z.cons (Z.ix (Z.az K rfl hu) (Z.v 5) Z.int) Z.nil)))
   (Z.av (Z.expr (Z.app K (Z.v 4) (Z.cons (Z.ix (Z.az K rfl hu) (Z.v 5) Z.int) Z.nil))))))))
   (Z.ai (Z.se (i:=6) bj.nd (Z.lst Z.nil))
   (Z.ai (Z.dO KP rfl (CL K rfl rfl T.tL (Z.cons (Z.v 3) (Z.cons (Z.v 4) (Z.cons (Z.slice (Z.wI K rfl) (Z.v 4) (Z.gU Z.int) Z.p9) Z.nil)))) (Z.nM (n:=3) K rfl rfl (Z.bJ (Z.aM (i:=7) bj.nd rfl (by right)) (Z.bJ (Z.aM (i:=8) bj.nd rfl (by right)) (Z.bJ (Z.aM (i:=9) bj.nd rfl (by right)) Z.iq)))) (Z.ai (Z.cS (Z.aS (Z.Ct K rfl hu) (Z.ix (Z.az K rfl hu) (Z.v 7) Z.int) (Z.tup (Z.consts rfl))) (Z.ai (Z.cS (Z.aS (Z.Am K rfl hu) (Z.op (Z.aH K rfl) (Z.v 9) (Z.ix (Z.az K rfl hu) (Z.v 7) (Z.un cy Z.int))) (Z.v 4)) (Z.av (Z.ret (Z.tup (Z.cons Z.str (Z.cons (Z.v 8) Z.nil))))) Z.ba)
   (Z.av (Z.se (i:=7) bj.nd (Z.op (Z.aH K rfl) (Z.slice (Z.wI K rfl) (Z.v 7) Z.p9 (Z.gU (Z.un cy Z.int))) (Z.tup (Z.cons (Z.bm K rfl PySem.F.plainAttrs_list PySem.F.slot_list_index PySem.F.type_list_index Y.Cm (Z.v 4) (Z.cons (Z.op (Z.aH K rfl) (Z.v 9) (Z.ix (Z.az K rfl hu) (Z.v 7) (Z.un cy Z.int))) Z.nil)) Z.nil)))))) Z.ba)
   (Z.av (Z.expr (Z.app K (Z.v 6) (Z.cons (Z.v 7) Z.nil))))))
   (Z.av (Z.ret (Z.tup (Z.cons Z.str (Z.cons (Z.ct (Z.d4 K rfl) rfl T.cJ (by decide +kernel) (Z.cons (Z.v 6) Z.nil)) Z.nil))))))))))),?_⟩
  refine ar λN hN=>?_;nofun;refine⟨b,bk,rfl,hb,hB,hR.pf,λca H1 hca k1 cdl=>?_⟩;subst hN;generalize gx bk=cd at *;have sl:=fL (cd:=cd) (z:=z);have rl:(aZ cd z).length<=10000:=by
   have:=iG (z:=z) hR (aZ cd z).length (Kp _);lia
  have e0:(aK cd z).take 1=[0]:=rfl;have ra_:=λk (h:k<(aZ cd z).length)=>nq (z:=z) hR h;have rd_:Fd cd z=if (aK cd z).getD (aZ cd z).length 0<z.length then .inl ((aK cd z).getD (aZ cd z).length 0) else lC (aK cd z) (aZ cd z) (aK cd z):=rfl
  have re_:=o_ (z:=z) hR;have su:=λk (h:k<(aZ cd z).length)=>iN (cd:=cd) (z:=z) h;have eb:=λk (h:k<=(aZ cd z).length)=>(iG (z:=z) hR k h).2;generalize aK cd z=en at *;generalize aZ cd z=l at *;refine ar λN hN=>?_;nofun;refine⟨K4 _,λra hra=>?_⟩;obtain⟨k2,s2⟩:=e8 hra (.lst []);generalize upd H1 ra _=H2 at *;subst hN;refine ar λN hN=>?_;nofun;refine⟨by decide,λsa hsa=>?_⟩
  have k3:=KB.new (ex:=[]) (o:=.lst [.int 0]) hsa;have s3:upd H2 sa (.lst [.int 0]) sa=some (.lst (iV (nZ (en.take (0+1))))):=by rw[aa,N2,e0];rfl
  have s23:=k3.n s2;have k13:=k2.trans k3;have hsa1:H1 sa=none:=k2.free (by simp) hsa
  have nrs:ra≠sa:=λz=>by rw[z,hsa] at s2;cases s2
  generalize upd H2 sa (.lst [.int 0])=H3 at *;subst hN;refine ar λN hN=>?_;refine⟨λm σ H'=>∃(k:Nat) (as:List Addr) (o5:Option V),k<=l.length/\m=l.length-k/\KB [] H1 H'/\H' ra=some (.lst (as.map V.ref))/\MA H' as ((l.take k).map λx=>(nY x).rel x.2)/\H' sa=some (.lst (iV (nZ (en.take (k+1)))))/\σ=[some (.str (wd z)),some (.ref b),some (.ref ca),some (.ref ra),some (.ref sa),o5,none,none,none,none],⟨l.length,0,[],none,K4 _,rfl,k13,s23,⟨rfl,λi q r e=>nomatch e⟩,s3,rfl⟩,?_⟩;rintro m σ H' ⟨k,as,o5,hk,rfl,hkb,gr,pm,gs,rfl⟩;have es:bS (iV (nZ (en.take (k+1)))) (-1)=some (.int ((en.getD k 0:Nat):Int)):=by
   rw[jv (show k<en.length by lia),jw]
   exact fS _ _
  exists au gs,es,ay;refine⟨Km hzl (by decide),?_⟩
  by_cases c:((en.getD k 0:Nat):Int)<(z.length:Int)
  ·rw[Ku c];refine⟨λσ' H'=>∃m',m'<l.length-k/\∃(k:Nat) (as:List Addr) (o5:Option V),k<=l.length/\m'=l.length-k/\KB [] H1 H'/\H' ra=some (.lst (as.map V.ref))/\MA H' as ((l.take k).map λx=>(nY x).rel x.2)/\H' sa=some (.lst (iV (nZ (en.take (k+1)))))/\σ'=[some (.str (wd z)),some (.ref b),some (.ref ca),some (.ref ra),some (.ref sa),o5,none,none,none,none],λ_ _ h=>h,?_⟩;refine⟨ca,cd,z,_,rfl,BX.kb cdl hkb,hRl,hz,by lia,by lia,λv H5 k5 o=>?_⟩
   rcases Lm k l.length with hlt|hge
   ·obtain⟨_,x1⟩:=ra_ k hlt;rw[x1] at o;obtain⟨m1,m2,m3,m4,m5⟩:=BR hR x1;obtain⟨t,r,rfl,ht,hr'⟩:=o;rw[m3] at hr';rw[Ko (show ¬ V.ref t=V.aI from V.noConfusion)];have gr5:=k5.n gr;have gs5:=k5.n gs;have pm5:=pm.keep k5 (NT.nil _);have pl:=pm.1;rw[Ki,KD] at pl;refine⟨.inl ⟨rfl,_,a_.of gr5⟩,?_⟩;show B0 K (V.ref t) (.int 0) H5 _;exists aF ht;refine⟨ra,_,_,rfl,rfl,gr5,Lf (show _<=10000 by rw[Ki];lia) (by decide),?_⟩
    have er:as.map V.ref++[V.ref r]=(as++[r]).map V.ref:=by rw[K7];rfl
    rw[er];have gr6:upd H5 ra (.lst ((as++[r]).map V.ref)) ra=_:=aa;have k56:KB [ra] H5 (upd H5 ra (.lst ((as++[r]).map V.ref))):=KB.set (by simp)
    generalize upd H5 ra (.lst ((as++[r]).map V.ref))=H6 at *;have ntr:=fN gr5;have hr6:=k56 _ _ hr' λz=>ntr _ z _ hr';have pm6:=(pm5.keep k56 ntr).snoc hr6;have ht6:=k56 _ _ ht λz=>ntr _ z _ ht;have gs6:=k56 _ _ gs5 (by simpa using nrs.symm)
    have kf:KB [] H1 H6:=λu o e _=>k56 _ _ (k5.n (hkb _ _ e (by simp))) (by simpa using aq e hra)
    refine⟨.inl ⟨rfl,_,a_.of gs6⟩,?_⟩;exists aF ht6;refine⟨sa,_,_,rfl,rfl,gs6,Lf (show _<=10001 by rw[cx,KD];lia) (by decide),?_⟩
    rw[<- su k hlt,<- jw,<- jv (show k+1<en.length by lia)]
    refine⟨l.length-(k+1),by lia,k+1,as++[r],_,hlt,rfl,λu o e _=>?_,?_,?_,aa,rfl⟩
    ·rw[ae (aq e hsa1)];exact kf.n e
    ·rw[ae nrs];exact gr6
    ·rw[show l.take (k+1)=l.take k++[l[k]] by rw[L6,Kg hlt];rfl,K7]
     exact pm6.keep (KB.set (ex:=[sa]) (by simp)) (fN gs6)
   ·have hkn:k=l.length:=by lia
    subst hkn;have c':en.getD l.length 0<z.length:=by lia
    rw[re_ c'] at o;obtain rfl:v=.aI:=o;rw[Ku rfl];exists au (k5.n gs),es;refine⟨by decide,λt ht=>q t _ (k1.trans (hkb.trans (k5.trans (KB.new ht)))) ?_⟩
    rw[rd_,Ku c'];exact aa
  ·have hkn:k=l.length:=by
    rcases Lm k l.length with h|h
    ·exact absurd (by have:=(ra_ k h).1;lia) c
    ·lia
   subst hkn;rw[Ko c];show N _ _;subst hN;rw[Lq] at pm;rw[Lj (show en.length<=l.length+1 by lia)] at gs
   rw[Ko (by lia)] at rd_
   clear es s3 s23 k13 c;have al:=pm.1;rw[Ki] at al;have k0':=k1.trans hkb;refine ar λN hN=>?_;nofun;refine⟨K4 _,λpr hpr=>?_⟩;obtain⟨k4,s4⟩:=e8 hpr (.lst []);have gr4:=k4.n gr;have gs4:=k4.n gs;have pm4:=pm.keep k4 (NT.nil _);generalize upd H' pr _=H4 at *;subst hN;refine ar λN hN=>?_;nofun;rw[pS];exists au gs4;intro ta hta;obtain⟨k5,s5⟩:=e8 hta (.lst (fE (iV (nZ en)) (some 1) none));have gr5:=k5.n gr4;have gs5:=k5.n gs4;have pm5:=pm4.keep k5 (NT.nil _);have s45:=k5.n s4;generalize upd H4 ta _=H5 at *;rw[show (some (1:Int))=some ((1:Nat):Int) from rfl,yY] at s5;have hpr5:H' pr=none:=hpr;have nrp:ra≠pr:=λz=>by rw[z,hpr] at gr;cases gr
   have nsp:sa≠pr:=λz=>by rw[z,hpr] at gs;cases gs
   have ntp:ta≠pr:=λz=>by rw[z,s4] at hta;cases hta
   refine⟨(true,ra),(true,sa),(true,ta),⟨rfl,rfl,rfl⟩,⟨_,a_.of gr5⟩,⟨_,a_.of gs5⟩,⟨_,a_.of s5⟩,λn=>?_⟩;refine rN (xs:=as.map V.ref) (ys:=iV (nZ en)) (zs:=(iV (nZ en)).drop 1) (by rw[Ki,cx];lia) (by rw[Ki,KQ,cx];lia) (λi σ G=>∃(ps:List Addr) (ms:List b6) (o7 o8 o9:Option V),i<=l.length/\KB [pr] H5 G/\KB [] H' G/\G pr=some (.lst (ps.map V.ref))/\(l.take i).map (gM en)=ms.map some/\MA G ps ms/\σ=[some (.str (wd z)),some (.ref b),some (.ref ca),some (.ref ra),some (.ref sa),o5,some (.ref pr),o7,o8,o9]) ⟨[],[],none,none,none,K4 _,KB.refl _ _,k4.trans k5,s45,rfl,⟨rfl,λj p r e=>nomatch e⟩,rfl⟩ (λi σ G h=>by
    obtain⟨_,_,_,_,_,_,kG,_⟩:=h;exact⟨a_.of (kG _ _ gr5 (by simpa using nrp)),a_.of (kG _ _ gs5 (by simpa using nsp)),a_.of (kG _ _ s5 (by simpa using ntp))⟩) ?_ ?_
   ·rintro i x y w σ G p hx hy hw ⟨ps,ms,o7,o8,o9,hi,kG,kG',gp,e3,pa,rfl⟩ hp;obtain⟨u,eu,rfl⟩:∃u,as[i]?=some u/\x=.ref u:=by
     rw[Kn] at hx;obtain⟨u,e,rfl⟩:=K8.mp hx;exact⟨u,e,rfl⟩
    have hlt:i<l.length:=by have:=(Kl.mp eu).1;lia
    have er:=Kg hlt;have een:=Kg (show i<en.length by lia)
    have ey:y=.int ((en[i]:Nat):Int):=by
     unfold iV nZ at hy;rw[Kn,Kn,een] at hy;exact (Option.some.inj hy).symm
    have ew:w=.int ((l[i].2:Nat):Int):=by
     have e2:=su i hlt;rw[Ks,Kg (show i+1<en.length by lia)] at e2
     have e2':en[i+1]=l[i].2:=e2;unfold iV nZ at hw;rw[LR,Kn,Kn,Nat.add_comm 1 i,Kg (show i+1<en.length by lia),e2'] at hw
     exact (Option.some.inj hw).symm
    subst ey;subst ew;have ta_:l.take (i+1)=l.take i++[l[i]]:=by rw[L6,er];rfl
    have hu5:=pm5.2 i u _ eu (by rw[Kn,er];rfl)
    have nup:u≠pr:=λz=>by rw[z,s45] at hu5;cases hu5
    have hu6:=kG _ _ hu5 (by simpa using nup)
    generalize hx0:l[i]=x0 at *;unfold aO;refine⟨p,_,rfl,bu.of aa,rfl,_,_,rfl,_,_,rfl,_,_,rfl,rfl,?_⟩;have kz:=KB.new (ex:=[]) (o:=.tup [.ref u,.int ((en[i]:Nat):Int),.int ((x0.2:Nat):Int)]) hp;have hu7:=kz.n hu6;have gp7:=kz.n gp;have gs7:=kz.n (kG _ _ gs5 (by simpa using nsp))
    have pa7:=pa.keep kz (NT.nil _);generalize upd G p (.tup [.ref u,.int ((en[i]:Nat):Int),.int ((x0.2:Nat):Int)])=G7 at *;have kG7:KB [pr] H5 G7:=kG.trans kz.all;have kG7':=kG'.trans kz;dsimp only;refine ar λM hM=>?_;have pl:=pa.1;have ml:=congrArg List.length e3;rw[List.length_map,List.length_map,List.length_take] at ml;have fin:∀(r':b6),gM en x0=some r'->∀c G8,KB [] G7 G8->G8 c=some (.tup r'.vs)->∀o8,M [some (.str (wd z)),some (.ref b),some (.ref ca),some (.ref ra),some (.ref sa),o5,some (.ref pr),some (.ref c),some (.int ((en[i]:Nat):Int)),o8] G8:=λr' e c G8 k8 hc o8=>by
     subst hM;have gp8:=k8.n gp7;have nc:c≠pr:=λz=>by rw[z,gp8] at hc;cases hc
     refine lh λM hM=>?_;nofun;refine⟨.inl ⟨rfl,_,a_.of gp8⟩,pr,_,_,rfl,rfl,gp8,Lf (show _<=10000 by rw[Ki];lia) (by decide),?_⟩
     rw[hM,show ps.map V.ref++[V.ref c]=(ps++[c]).map V.ref by rw[K7];rfl]
     refine⟨ps++[c],ms++[r'],_,_,_,hlt,λu o e z=>?_,λu o e _=>?_,aa,by rw[ta_,K7,K7,e3,KA,e];rfl,((pa7.keep k8 (NT.nil _)).snoc hc).keep (KB.set (ex:=[pr]) (by simp)) (fN gp8),rfl⟩
     ·rw[ae (by simpa using z)];exact k8.n (kG7 _ _ e z)
     ·rw[ae (aq e hpr5)];exact k8.n (kG7' _ _ e (by simp))
    refine qO λA B hA hB=>?_;obtain⟨zz,ea0,hcase⟩:∃zz:Str,bS ((nY x0).rel x0.2).vs 0=some (.str zz)/\((iW (.str zz) [.str "jump",.str "zero"]=true/\∃g,dF (nY x0)=some g)\/iW (.str zz) [.str "jump",.str "zero"]=false/\dF (nY x0)=none):=by
     cases nY x0 with
     |jump g=>exact⟨_,rfl,.inl ⟨by decide +kernel,g,rfl⟩⟩
     |zero b g=>exact⟨_,rfl,.inl ⟨by decide +kernel,g,rfl⟩⟩
     |put b n=>exact⟨_,rfl,.inr ⟨by decide +kernel,rfl⟩⟩
     |two u b c=>exact⟨_,rfl,.inr ⟨(show ∀u,iW (.str (w2 u)) [.str "jump",.str "zero"]=false by decide +kernel) u,rfl⟩⟩
     |one u b=>exact⟨_,rfl,.inr ⟨(show ∀u,iW (.str (w1 u)) [.str "jump",.str "zero"]=false by decide +kernel) u,rfl⟩⟩
     |halt=>exact⟨_,rfl,.inr ⟨by decide +kernel,rfl⟩⟩
    exists aF hu7,ea0;refine⟨by decide,λtj htj=>⟨rfl,rfl,?_⟩⟩
    have k8:=KB.new (ex:=[]) (o:=.tup [.str "jump",.str "zero"]) htj;have hu8:=k8.n hu7;have gs8:=k8.n gs7;generalize upd G7 tj (.tup [.str "jump",.str "zero"])=G8 at *;rcases hcase with ⟨h1,g,hg⟩|⟨h1,hg⟩
    ·have egr:dF ((nY x0).rel x0.2)=some (g-x0.2):=by rw[yH,hg];rfl
     obtain⟨xs,x1,x2,x3,x4⟩:=b6.gz egr;have eal:bS ((nY x0).rel x0.2).vs (-1)=some (.int (g-x0.2)):=by rw[x3];exact fS _ _
     exists h1;show A _ _;rw[hA];clear hA hB;refine ar λM2 hM2=>?_;refine qO λA B hA hB=>?_;exists aF hu8,eal,au gs8;rw[show ((x0.2:Nat):Int)+(g-((x0.2:Nat):Int))=g by lia]
     refine⟨rfl,Be _,?_⟩;rw[HR];by_cases cm:g∈en.map λn:Nat=>(n:Int)
     ·rw[decide_eq_true cm];show B _ _;rw[hB];show M2 _ _;rw[hM2];clear hM2 M2 hA hB A B;exists aF hu8,eal;have hv8:G8 u=some (.tup (xs++[.int (g-x0.2)])):=by rw[hu8];dsimp only;rw[x3]
      refine⟨u,_,rfl,bu.of hv8,λy=>?_,λp1 hp1=>⟨.inl ⟨rfl,iV (nZ en),a_.of ?_⟩,?_⟩⟩
      ·have h1:=y.2;have e0:HT.bM (xs++[V.int (g-x0.2)]).length (xs++[V.int (g-x0.2)]).length (some (-1))=xs.length:=by
        unfold HT.bM;simp only[show ((-1:Int)<0)=True from eq_true (by decide),MT,Kj,K2,Lo]
        lia
       rw[e0,Kj] at h1;simp at h1
      ·rw[ae (aq gs8 hp1)];exact gs8
      rw[qj];obtain⟨k9,s9⟩:=e8 hp1 (.tup xs);have hu9:=k9.n hu8;have gs9:=k9.n gs8;generalize upd G8 p1 _=G9 at *;have cm':=vC cm;have ec:((x0.2:Nat):Int)+(g-((x0.2:Nat):Int))=g:=by lia
      exists aF hu9,eal,ec;refine⟨sa,en.map (λn:Nat=>(n:Int)),g,(en.map λn:Nat=>(n:Int)).idxOf g,rfl,gs9,rfl,cm'.1,cm'.2,by decide,λp2 hp2=>?_⟩
      obtain⟨k10,s10⟩:=e8 hp2 (.tup [.int (((en.map λn:Nat=>(n:Int)).idxOf g:Nat):Int)]);have s910:=k10.n s9;generalize upd G9 p2 _=G10 at *;simp only[L2.Ap.addRef,s910,s10];refine⟨x1,by simp,Km (show _<=3 by simp;lia) (by decide),λp3 hp3=>?_⟩
      refine fin ((nY x0).setG (((en.map λn:Nat=>(n:Int)).idxOf g:Nat):Int)) (by unfold gM;rw[hg];dsimp only;rw[if_pos cm]) p3 _ (k8.trans (k9.trans (k10.trans (KB.new hp3)))) ?_ _
      rw[aa,<- BS hg,x4]
     ·rw[KJ cm];show A _ _;rw[hA];nofun;refine⟨by decide,λt ht=>q t _ (k0'.trans (kG7'.trans (k8.trans (KB.new ht)))) ?_⟩
      rw[rd_,om (x:=x0) e3 er (by unfold gM;rw[hg];dsimp only;rw[if_neg cm]) een]
      exact aa
    ·exists h1;show B _ _;rw[hB];show M _ _;exact fin (nY x0) (by unfold gM;rw[hg]) u G8 k8 (by rw[hu8];dsimp only;rw[Fz _ hg]) _
   ·rintro σ G ⟨ps,ms,o7,o8,o9,_,kG,kG',gp,e3,pa,rfl⟩;rw[Ki,al,Lq] at e3;show N _ _;subst hN;exists au gp;intro u hu';obtain⟨k6,s6⟩:=e8 hu' (.tup (ps.map V.ref));have pa6:=pa.keep k6 (NT.nil _);generalize upd G u _=G6 at *;refine⟨by decide,λt ht=>q t _ (k0'.trans (kG'.trans (k6.trans (KB.new ht)))) ?_⟩
    rw[rd_,rm (by lia) e3]
    exact⟨u,aa,ps,by rw[ae (aq s6 ht)];exact s6,pa6.keep (KB.new ht) (NT.nil _)⟩
def FD(K:W.Frag)(mg:Str->Option Value)(P:Program)(w:World)(base:Heap):Prop:=∀N,mg "NoBits"=some (.ref N)->ao P w K mg base (oB P w) 7 "read_rows" ["bits","book"] (tV N)
def qk:Sp:=λvs H Q _=>∃(b:Addr) (bk:List (List Int)) (z:List Nat) (p:Nat),vs=[.str (wd z),.ref b]/\sk H b bk/\Bk bk/\cH z/\z.length<=10000/\Fd (gx bk) z=.inl p/\∀H',KB [] H H'->Q (.int (p:Nat)) H'
def u9(T:Txt K mg)(F:HasFn K mg "_law_place" eZ ["bits","book"])(hR:FD K mg P w base):ao P w K mg base aY 8 "_law_place" ["bits","book"] qk:=by
 obtain⟨C_ShortError,C_NoBits,C_NoAsk,C_NoCode,C_NoProgram,C_NoReach,C_NoRow,hC_ShortError,hC_NoBits,hC_NoAsk,hC_NoCode,hC_NoProgram,hC_NoReach,hC_NoRow,kC_ShortError,xC_NoBits,p0,p1,p2,p3,p4,fI,fdI,xI_NoBits,FI,bI_NoBits,hd⟩:=T.xs;have hread_rows:=hR _ hC_NoBits;refine F.fq df (λvs H Q E h=>?_) (λf cdv A outer s H vs Q E hr h=>?_)
 ·obtain⟨b,bk,z,p,rfl,_⟩:=h;rfl
 ·have hu:=aU hr;obtain⟨b,bk,z,p0_,rfl,hb,hB,hz,hl,hrd,q⟩:=h;refine⟨_,(Z.ai (Z.se (i:=2) df.nd Z.aI)
   (Z.ai (Z.HC (i:=3) K hC_NoBits xI_NoBits.wc df.nd (λ_ _ _ hD=>(Z.av (Z.expr (Z.fX hD hread_rows (Z.cons (Z.v 0) (Z.cons (Z.v 1) Z.nil)))))) (λ_=>(Z.av (Z.se (i:=2) df.nd (Z.Ka K (Z.v 3))))))
   (Z.av (Z.ret (Z.v 2))))),?_⟩
  refine ar λN hN=>?_;nofun;subst hN;refine ar λN hN=>?_;intro Dx hW;nofun;refine⟨b,bk,z,rfl,hb,hB,hz,hl,λp hp e dd H' hX=>⟨e,some dd,rfl,hX.2.2.2.1,λ_ _=>hW _ _ _ _ _ ⟨⟨C_NoBits,rfl,xI_NoBits.toAny,p1⟩,hX.2.2.2.1,?_⟩⟩,λms hm t H' k h=>?_⟩
  ·nofun;refine⟨e,dd,C_NoBits,_,rfl,hX.2.2.2.1,hX.2.2.2.2,xC_NoBits,hd,xI_NoBits.ha,?_⟩;show N _ _;rw[hN];clear hN N hW;nofun;rw[hrd] at hp;cases hp;exact q _ hX.1
  ·rw[hrd] at hm;cases hm
def tE:Sp:=λvs H Q _=>∃(b:Addr) (bk:List (List Int)) (z:List Nat),vs=[.str (wd z),.ref b]/\sk H b bk/\Bk bk/\cH z/\z.length<=10000/\∀t H',KB [] H H'->El H' t (Fd (gx bk) z)->Q (.ref t) H'
def zp(T:Txt K mg)(F:HasFn K mg "_law_found" fm ["bits","book"])(hR:FD K mg P w base)(h_law_place:ao P w K mg base aY 8 "_law_place" ["bits","book"] qk):ao P w K mg base aY 9 "_law_found" ["bits","book"] tE:=by
 obtain⟨C_ShortError,C_NoBits,C_NoAsk,C_NoCode,C_NoProgram,C_NoReach,C_NoRow,hC_ShortError,hC_NoBits,hC_NoAsk,hC_NoCode,hC_NoProgram,hC_NoReach,hC_NoRow,kC_ShortError,xC_NoBits,p0,p1,p2,p3,p4,fI,fdI,xI_NoBits,FI,bI_NoBits,hd⟩:=T.xs;have hread_rows:=hR _ hC_NoBits;refine F.fq bE (λvs H Q E h=>?_) (λf cdv A outer s H vs Q E hr h=>?_)
 ·obtain⟨b,bk,z,rfl,_⟩:=h;rfl
 ·have hu:=aU hr;obtain⟨b,bk,z,rfl,hb,hBk,hz,hl,q⟩:=h;refine⟨_,(Z.ai (Z.se (i:=2) bE.nd Z.aI)
   (Z.ai (Z.se (i:=3) bE.nd Z.aI)
   (Z.ai (Z.HC (i:=4) K hC_ShortError kC_ShortError.wc bE.nd (λ_ _ _ hD=>(Z.av (Z.se (i:=2) bE.nd (Z.fX hD hread_rows (Z.cons (Z.v 0) (Z.cons (Z.v 1) Z.nil)))))) (λ_=>(Z.ai (Z.se (i:=5) bE.nd (Z.cb (Z.Dg K [C_NoAsk,C_NoCode,C_NoProgram,C_NoReach,C_NoRow] rfl) rfl T.bf (by decide +kernel) (Z.cons (Z.v 4) (Z.cons (Z.tup (Z.cons (Z.glob rfl hC_NoAsk (show RelV (.ref C_NoAsk) _ from rfl)) (Z.cons (Z.glob rfl hC_NoCode (show RelV (.ref C_NoCode) _ from rfl)) (Z.cons (Z.glob rfl hC_NoProgram (show RelV (.ref C_NoProgram) _ from rfl)) (Z.cons (Z.glob rfl hC_NoReach (show RelV (.ref C_NoReach) _ from rfl)) (Z.cons (Z.glob rfl hC_NoRow (show RelV (.ref C_NoRow) _ from rfl)) Z.nil)))))) Z.nil))))
   (Z.av (Z.se (i:=3) bE.nd (Z.lst (Z.cons (Z.cb (Z.wq K (.ref C_NoBits) (.ref C_NoBits) (λ_ h=>h) rfl) rfl T.bf (by decide +kernel) (Z.cons (Z.v 4) (Z.cons (Z.glob rfl hC_NoBits (show RelV (.ref C_NoBits) _ from rfl)) Z.nil))) (Z.cons (Z.cb (Z.wq K (.ty "ValueError") (.type "ValueError") (λ_ h=>h) rfl) rfl T.bf (by decide +kernel) (Z.cons (Z.v 4) (Z.cons (Z.CB (T:="ValueError") rfl T.m_ (by decide +kernel)) Z.nil))) (Z.cons (Z.v 5) Z.nil)))))))))
   (Z.ai (Z.cS (Z.aS bY (Z.v 3) Z.aI) (Z.av (Z.ret (Z.tup (Z.cons Z.str (Z.cons (Z.v 2) Z.nil))))) Z.ba)
   (Z.ai (Z.cS (Z.aS (Y.E9 K rfl (Ej hr)) (Z.v 3) (Z.lst (Z.consts rfl))) (Z.av (Z.ret (Z.tup (Z.cons Z.str Z.nil)))) Z.ba)
   (Z.av (Z.ret (Z.tup (Z.cons Z.str (Z.cons (Z.fc h_law_place (Z.cons (Z.v 0) (Z.cons (Z.v 1) Z.nil))) Z.nil)))))))))),?_⟩
  refine ar λN hN=>?_;nofun;subst hN;refine ar λN hN=>?_;nofun;subst hN;refine ar λN hN=>?_;intro Dx hW;nofun;refine⟨b,bk,z,rfl,hb,hBk,hz,hl,λp hp e dd H' hX=>⟨e,some dd,rfl,hX.2.2.2.1,λ_ _=>hW _ _ _ _ _ ⟨⟨C_NoBits,rfl,xI_NoBits.toAny,p0⟩,hX.2.2.2.1,?_⟩⟩,λms hm t H' k h=>?_⟩
  ·obtain⟨kX,_,_,he,hdd⟩:=hX;have ty:∀{G:Hp},KB [] H' G->Jb K G (.ref e) (.ref C_NoBits):=λk=>.inr ⟨e,C_NoBits,some dd,rfl,rfl,k.n he,λd hd=>by cases hd;exact⟨_,k.n hdd⟩,xC_NoBits⟩
   refine ar λM hM=>?_;nofun;refine⟨by decide,λtp htp=>?_⟩
   obtain⟨k1,s1⟩:=e8 htp (.tup [.ref C_NoAsk,.ref C_NoCode,.ref C_NoProgram,.ref C_NoReach,.ref C_NoRow]);generalize upd H' tp _=H1 at *;refine⟨_,_,_,tp,rfl,s1,ty k1,p4,?_⟩;subst hM;nofun;refine⟨_,_,_,rfl,ty k1,p2,?_⟩;refine⟨_,_,_,rfl,ty k1,p3,?_⟩;refine⟨by decide,λtl htl=>?_⟩
   obtain⟨k2,s2⟩:=e8 htl (.lst [.bl true,.bl true,.bl false]);generalize upd H1 tl _=H2 at *;show N _ _;rw[hN];clear hN N hW;refine ar λN hN=>?_;exists Ko (show ¬ V.ref tl=V.aI from V.noConfusion);subst hN;refine ar λN hN=>?_;refine qO λA B hA hB=>?_;nofun;refine⟨by decide,λte hte=>?_⟩
   obtain⟨k3,s3⟩:=e8 hte (.lst [.bl true,.bl true,.bl false]);have s23:=k3.n s2;generalize upd H2 te _=H3 at *;have rp:dw K H3 no [.bl true,.bl true,.bl false] [.bl true,.bl true,.bl false]:=.cons (.bl _) (.cons (.bl _) (.cons (.bl _) .nil));have eb:∀b:Bool,uX 4 (L2.T.bl b) (L2.T.bl b) true:=λb=>by
    have:=uX.flat (n:=4) (t:=.bl b) (u:=.bl b) rfl rfl
    rwa [show Y.HJ (.bl b) (.bl b)=true from by cases b<;>rfl] at this
   refine .inr ⟨no,tl,te,_,_,_,_,λ_=>true,rfl,rfl,.inr ⟨a_.of s23,a_.of s3⟩,rp,rp,λj x y h1 h2=>?_,?_⟩
   ·rw[h1] at h2;cases h2;have hm:=Li h1;simp only[Kv,KO,Ma] at hm;rcases hm with rfl|rfl|rfl<;>exact eb _
   rw[all_true];refine⟨false,rfl,?_⟩;rw[Ko Ky,hB];show N _ _;rw[hN];clear hN N hA hB A B;have k03:=kX.trans (k1.trans (k2.trans k3));nofun;refine⟨b,bk,z,p,rfl,hb.kb k03,hBk,hz,hl,hp,λH4 k4=>⟨by decide,λt ht=>q t _ (k03.trans (k4.trans (KB.new ht))) ?_⟩⟩
   rw[hp];exact aa
  ·rw[hN];clear hN N hW;refine ar λN hN=>?_;nofun;refine⟨by decide,λt2 ht2=>q t2 _ (k.trans (KB.new ht2)) ?_⟩
   rw[hm];exact⟨t,aa,h.kb (KB.new ht2)⟩
def Es(z:List Nat)(m:Nat):Y.eW (wd z) none (some (m:Int))=wd (z.take m):=by
 unfold Y.eW wd;congr 2;show Y.gz z none (some (m:Int))=_;unfold Y.gz;rw[HT.dk,HT.cP,LI,NP];exact (List.take_eq_take_min ..).symm
def zD(z:List Nat)(m:Nat):Y.eW (wd z) (some (m:Int)) none=wd (z.drop m):=by
 unfold Y.eW wd;congr 2;show Y.gz z (some (m:Int)) none=_;unfold Y.gz;rw[HT.dk,HT.cP];rcases OF m z.length with c|c
 ·rw[MN c,Lj (by rw[KQ];exact Kp _)]
 ·rw[Ni c,LH,List.take_zero,List.drop_eq_nil_of_le c]
def t9{m:Nat}(h:z.length<=7000)(q:Q (.str (wd (z.take m))) H):Y.Ar (.str (wd z)) none (some (m:Int)) H Q:=⟨_,rfl,by rw[ay];exact Km h (by decide),by rw[Es];exact q⟩
def nU{m:Nat}(h:z.length<=7000)(q:Q (.str (wd (z.drop m))) H):Y.Ar (.str (wd z)) (some (m:Int)) none H Q:=⟨_,rfl,by rw[ay];exact Km h (by decide),by rw[zD];exact q⟩
def De{a b:Nat}(hab:a<=b)(h:z.length<=7000)(q:Q (.str (wd ((z.drop a).take (b-a)))) H):Y.Ar (.str (wd z)) (some (a:Int)) (some (b:Int)) H Q:=⟨_,rfl,by rw[ay];exact Km h (by decide),by rw[i8 z a b hab];exact q⟩
def jU{a:List Nat}(h:a.length+b.length<=8000)(q:Q (.str (wd (a++b))) H):rX K (.str (wd a)) (.str (wd b)) H Q:=⟨by rw[ay,ay];exact Km h (by decide),by rw[d7];exact q⟩
def vS{K:W.Frag}{z:Str}(hn:z.cps.size<=sizeLine)(Pv:Addr->Nat->List V->Hp->Prop)(h0:∀D,H D=none->Pv D 0 [] (upd H D (.lst [])))(hD:∀D i ys H',Pv D i ys H'->H' D=some (.lst ys)/\ys.length=i)
  (hs:∀D i ys H' c (R:VK),z.cps[i]?=some c->Pv D i ys H'->(∀v H5,H5 D=some (.lst ys)->Pv D (i+1) (ys++[v]) (upd H5 D (.lst (ys++[v])))->R v H5)->te (some (.str ⟨#[c]⟩)::σ) H' R) (hd:∀D ys H',Pv D z.cps.size ys H'->Q (.ref D) H') :
  iA (Gd z) 1 (aO 0) dz te Q σ H:=by
 intro D hD0;refine⟨λi m ys σ' H'=>m=z.cps.size-i/\i<=z.cps.size/\Pv D i ys H'/\∃o,σ'=o::σ,⟨z.cps.size,by simp,K4 _,h0 D hD0,none,rfl⟩,?_⟩
 rintro i m ys σ' H' ⟨rfl,hi,p,o,rfl⟩;obtain⟨hDi,hly⟩:=hD _ _ _ _ p;refine⟨hDi,?_⟩;by_cases hlt:i<z.cps.size
 ·refine .inr ⟨hlt,by lia,λx H2 y=>?_⟩
  obtain⟨rfl,c,e,rfl⟩:=y;unfold aO dz;dsimp only;rw[if_pos rfl];exact hs D i ys H2 c _ e p λv H5 q1 q2=>⟨q1,z.cps.size-(i+1),by lia,rfl,hlt,q2,_,rfl⟩
 ·have e:i=z.cps.size:=by lia
  subst e;exact .inl ⟨Kp _,hd D ys H' p⟩
def qH:Sp:=λvs H Q _=>∃(p dq:Addr) (z:List Nat) (n:Nat),vs=[.ref p,.str (wd z)]/\bC H p dq n/\n<2^30/\cH z/\z.length<=7000/\∀(y:List Nat) H',cH y->y.length<=7100->bC H' p dq (n+90)->KB [p,dq] H H'->Q (.str (wd y)) H'
def vX(T:Txt K mg)(F:HasFn K mg "_law_spoilt" cz ["deck","bits"])(h_law_draw:ao P w K mg base aY 2 "_law_draw" ["deck","most"] e9):ao P w K mg base aY 3 "_law_spoilt" ["deck","bits"] qH:=by
 refine F.fq cR (λvs H Q E h=>?_) (λf cdv A outer s H vs Q E hr h=>?_)
 ·obtain⟨p,dq,z,n,rfl,_⟩:=h;rfl
 ·have hu:=aU hr;obtain⟨p,dq,z,n,rfl,hD,hn,hz,hl,q⟩:=h;refine⟨_,(Z.ai (Z.se (i:=2) cR.nd (Z.fc h_law_draw (Z.cons (Z.v 0) (Z.cons Z.int Z.nil))))
   (Z.ai (Z.se (i:=3) cR.nd (Z.fc h_law_draw (Z.cons (Z.v 0) (Z.cons (Z.op (Z.aH K rfl) (Z.cb (Z.bB K rfl) rfl T.b7 (by decide +kernel) (Z.cons (Z.v 1) Z.nil)) Z.int) Z.nil))))
   (Z.ai (Z.se (i:=4) cR.nd (Z.ix (Z.az K rfl hu) Z.str (Z.fc h_law_draw (Z.cons (Z.v 0) (Z.cons Z.int Z.nil)))))
   (Z.ai (Z.cS (Z.aS bz (Z.v 2) Z.int) (Z.av (Z.ret (Z.slice Y.bZ (Z.v 1) Z.p9 (Z.gU (Z.v 3))))) Z.ba)
   (Z.ai (Z.cS (Z.aS bz (Z.v 2) Z.int) (Z.av (Z.ret (Z.op (Z.aH K rfl) (Z.op (Z.aH K rfl) (Z.slice Y.bZ (Z.v 1) Z.p9 (Z.gU (Z.v 3))) (Z.v 4)) (Z.slice Y.bZ (Z.v 1) (Z.gU (Z.v 3)) Z.p9)))) Z.ba)
   (Z.ai (Z.cS (Z.aS bz (Z.v 2) Z.int) (Z.av (Z.ret (Z.op (Z.aH K rfl) (Z.slice Y.bZ (Z.v 1) Z.p9 (Z.gU (Z.v 3))) (Z.slice Y.bZ (Z.v 1) (Z.gU (Z.op (Z.aH K rfl) (Z.v 3) Z.int)) Z.p9)))) Z.ba)
   (Z.ai (Z.cS (Z.aS bz (Z.v 2) Z.int) (Z.av (Z.ret (Z.bm K rfl PySem.F.plainAttrs_str PySem.F.slot_str_join PySem.F.type_str_join (Z.y6 K rfl) Z.str (Z.cons (Z.xU (osc:=af cz) (ON:=["deck","bits","way","at","sign"]) (own:=["k"]) (N:=["k","deck","bits","way","at","sign"]) (aA.of rfl (by decide +kernel)) (Z.lH rfl T.cB (Z.cons (Z.fc h_law_draw (Z.cons (Z.v 0) (Z.cons Z.int Z.nil))) Z.nil)) (λnd _ _ _ _=>(Z.aM (i:=0) nd rfl (by right))) (λ_ _ _ _=>Z.tF) (λ_ _ _ _=>(Z.ix (Z.az K rfl hu) Z.str (Z.fc h_law_draw (Z.cons (Z.v 1) (Z.cons Z.int Z.nil)))))) Z.nil)))) Z.ba)
   (Z.av (Z.ret (Z.op (Z.aH K rfl) (Z.op (Z.aH K rfl) (Z.slice Y.bZ (Z.v 1) Z.p9 (Z.gU (Z.v 3))) (Z.bm K rfl PySem.F.plainAttrs_str PySem.F.slot_str_join PySem.F.type_str_join (Z.y6 K rfl) Z.str (Z.cons (Z.xU (osc:=af cz) (ON:=["deck","bits","way","at","sign"]) (own:=["one"]) (N:=["one","deck","bits","way","at","sign"]) (aA.of rfl (by decide +kernel)) (Z.Jy (Z.slice Y.bZ (Z.v 1) (Z.gU (Z.v 3)) (Z.gU (Z.op (Z.aH K rfl) (Z.v 3) Z.int)))) (λnd _ _ _ _=>(Z.aM (i:=0) nd rfl (by right))) (λ_ _ _ _=>Z.tF) (λ_ _ _ _=>(Z.ix (Z.az K rfl hu) Z.str (Z.bm K rfl PySem.F.plainAttrs_str PySem.F.slot_str_index PySem.F.type_str_index Y.jB Z.str (Z.cons (Z.v 0) Z.nil))))) Z.nil))) (Z.slice Y.bZ (Z.v 1) (Z.gU (Z.op (Z.aH K rfl) (Z.v 3) Z.int)) Z.p9))))))))))),?_⟩
  refine ar λN hN=>?_;nofun;refine⟨p,dq,6,_,rfl,hD,by lia,by decide,by decide,λwy H1 hwy D1 k1=>?_⟩
  subst hN;refine ar λN hN=>?_;exists ay;refine⟨Km hl (by decide),p,dq,_,_,rfl,D1,by lia,by lia,by lia,λat_ H2 hat D2 k2=>?_⟩
  subst hN;refine ar λN hN=>?_;nofun;refine⟨p,dq,2,_,rfl,D2,by lia,by decide,by decide,λv4 H3 hv4 D3 k3=>?_⟩
  obtain⟨bb,hb2,eb⟩:∃b:Nat,(b=48\/b=49)/\bS (Str.ofString "01").cps.toList (v4:Int)=some b:=by
   rcases (show v4=0\/v4=1 by lia) with rfl|rfl
   ·exact⟨48,.inl rfl,by decide +kernel⟩
   ·exact⟨49,.inr rfl,by decide +kernel⟩
  exists eb;have k03:=k1.trans (k2.trans k3);have hz1:cH (z.take at_):=λc hc=>hz c (Ng hc);have hz2:∀m,cH (z.drop m):=λm c hc=>hz c (List.mem_of_mem_drop hc);refine⟨by decide +kernel,?_⟩
  change N [some (.ref p),some (.str (wd z)),some (.int (wy:Nat)),some (.int (at_:Nat)),some (.str (wd [bb]))] H3
  rw[hN];clear hN N eb;have len:=ay z;have sz:z.length<=sizeLine:=Km hl (by decide)
  have sm:∀{m:Nat},m<=8000->m<=sizeLine:=λh=>Km h (by decide)
  have l1:(z.take at_).length<=7000:=by rw[KD];lia
  have l2:∀m,(z.drop m).length<=7000:=λm=>by rw[KQ];lia
  have l3:(z.take at_).length+(z.drop at_).length=z.length:=by rw[KD,KQ];lia
  have l4:(z.take at_).length+(z.drop (at_+1)).length<=z.length:=by rw[KD,KQ];lia
  have hbb:cH [bb]:=λc hc=>by rw[K0.mp hc];exact hb2
  refine ar λN hN=>?_;refine qO λA B hA hB=>?_;nofun;by_cases c0:((wy:Nat):Int)=0
  ·rw[Ku c0,hA];clear hA hB hN;nofun;exact t9 hl (q _ H3 hz1 (by lia) (D3.mono (by lia)) k03)
  rw[Ko c0,hB];show N _ _;rw[hN];clear hN N hA hB A B;refine ar λN hN=>?_;refine qO λA B hA hB=>?_;nofun;by_cases c1:((wy:Nat):Int)=1
  ·rw[Ku c1,hA];clear hA hB hN;nofun;refine t9 hl (jU (by rw[LN];lia) (nU hl (jU (by rw[Kj,LN];lia) ?_)))
   exact q _ H3 ((hz1.app hbb).app (hz2 _)) (by rw[Kj,Kj,LN];lia) (D3.mono (by lia)) k03
  rw[Ko c1,hB];show N _ _;rw[hN];clear hN N hA hB A B;refine ar λN hN=>?_;refine qO λA B hA hB=>?_;nofun;by_cases c2:((wy:Nat):Int)=2
  ·rw[Ku c2,hA];clear hA hB hN;nofun;refine t9 hl ?_;rw[show ((at_:Nat):Int)+1=((at_+1:Nat):Int) from rfl];refine nU hl (jU (by lia) ?_)
   exact q _ H3 (hz1.app (hz2 _)) (by rw[Kj];lia) (D3.mono (by lia)) k03
  rw[Ko c2,hB];show N _ _;rw[hN];clear hN N hA hB A B;refine ar λN hN=>?_;refine qO λA B hA hB=>?_;nofun;by_cases c3:((wy:Nat):Int)=3
  ·rw[Ku c3,hA];clear hA hB hN;nofun;refine⟨rfl,p,dq,81,_,rfl,D3,by lia,by decide,by decide,λv3 H7 hv3 D7 k7=>?_⟩
   nofun;refine⟨by lia,by lia,?_⟩
   rw[KU];refine jj (Km (show v3<=101 by lia) (by decide)) (λL j ys G=>H7 L=none/\G L=some (.lst ys)/\bC G p dq (n+5+j)/\KB [p,dq] H7 G/\j<=v3/\∃cs:List Nat,ys=(cs.map λc=>wd [c]).map V.str/\cs.length=j/\cH cs) (λL hL=>⟨hL,aa,(D7.kb (KB.new hL)).mono (by lia),KB.new hL,K4 _,[],rfl,rfl,λx hx=>absurd hx KO⟩) (λL j ys G h=>⟨h.2.1,by obtain⟨_,_,_,_,_,cs,rfl,e,_⟩:=h;rw[Ki,Ki,e]⟩) ?_ ?_
   ·rintro L j ys G R hj ⟨g0,g1,gD,gk,gj,cs,rfl,gl,gb⟩ kk;have nL:=D7.new g0;nofun;refine⟨p,dq,2,_,rfl,gD,by lia,by decide,by decide,λv5 G2 hv5 D9 k9=>?_⟩
    obtain⟨b5,hb5,eb⟩:∃b:Nat,(b=48\/b=49)/\bS (Str.ofString "01").cps.toList (v5:Int)=some b:=by
     rcases (show v5=0\/v5=1 by lia) with rfl|rfl
     ·exact⟨48,.inl rfl,by decide +kernel⟩
     ·exact⟨49,.inr rfl,by decide +kernel⟩
    exists eb;have pL:p≠L:=λz=>nL (by simp[z])
    have qL:dq≠L:=λz=>nL (by simp[z])
    refine⟨by decide +kernel,kk _ _ (k9 _ _ g1 nL) ⟨g0,aa,(D9.keep (KB.set (ex:=[L]) (by simp)) (by simpa using pL) (by simpa using qL)).mono (by lia),λu o e z=>by rw[ae (aq e g0)];exact k9 _ _ (gk _ _ e z) z,hj,cs++[b5],by rw[K7,K7];rfl,by rw[Kj,gl];rfl,λx hx=>?_⟩⟩
    rcases Ld.mp hx with h|h
    ·exact gb x h
    ·rw[K0.mp h];exact hb5
   ·rintro L ys G ⟨g0,g1,gD,gk,_,cs,rfl,gl,gb⟩;have e1:((cs.map λc=>wd [c]).map λx=>x.length).sum=cs.length:=by
     clear gl gb g1
     induction cs with
     |nil=>rfl
     |cons c cs ih=>rw[KA,KA,List.sum_cons,ih,ay];show 1+cs.length=cs.length+1;lia
    refine⟨_,L,_,rfl,rfl,a_.of g1,?_,?_⟩
    ·rw[e1,show (Str.ofString "").length=0 from by decide +kernel];lia
    rw[mG];exact q cs G gb (by lia) (gD.mono (by lia)) (k03.trans (k7.trans gk))
  rw[Ko c3,hB];show N _ _;rw[hN];clear hN N hA hB A B;nofun;refine t9 hl ⟨rfl,?_⟩;rw[show ((at_:Nat):Int)+1=((at_+1:Nat):Int) from rfl];refine De (LY at_) hl ⟨_,rfl,?_⟩;rw[LC];have hm:cH ((z.drop at_).take 1):=λc hc=>hz2 _ c (Ng hc);have hml:((z.drop at_).take 1).length<=1:=by rw[KD];exact Nat.min_le_left _ _
  generalize (z.drop at_).take 1=u at *;have us:(wd u).cps.size=u.length:=ay u;refine vS (K:=K) (by rw[us];exact Km hml (by decide)) (λD i ys G=>H3 D=none/\G D=some (.lst ys)/\KB [] H3 G/\i<=u.length/\∃cs:List Nat,ys=(cs.map λc=>wd [c]).map V.str/\cs.length=i/\cH cs) (λL hL=>⟨hL,aa,KB.new hL,K4 _,[],rfl,rfl,λx hx=>absurd hx KO⟩) (λD i ys G h=>⟨h.2.1,by obtain⟨_,_,_,_,cs,rfl,e,_⟩:=h;rw[Ki,Ki,e]⟩) ?_ ?_
  ·rintro D i ys G c R hc ⟨g0,g1,gk,gi,cs,rfl,gl,gb⟩ kk;have hc':c=48\/c=49:=hm c (by
    have:(wd u).cps[i]?=u[i]?:=by unfold wd;simp
    rw[this] at hc;exact Li hc)
   have hlt:i<u.length:=by
    have:=(KC.mp hc).1;lia
   obtain⟨d,hd',o1,o2⟩:∃d:Nat,(d=48\/d=49)/\Builtin.Str.occurrences (Str.ofString "01") ⟨#[c]⟩ 0 (Str.ofString "01").length 1=[c-48]/\bS (Str.ofString "10").cps.toList ((c-48:Nat):Int)=some d:=by
    rcases hc' with rfl|rfl
    ·exact⟨49,.inr rfl,zN (.inl rfl),by decide +kernel⟩
    ·exact⟨48,.inl rfl,zN (.inr rfl),by decide +kernel⟩
   nofun;refine⟨rfl,_,_,c-48,[],rfl,rfl,o1,?_⟩;exists o2;refine⟨by decide +kernel,kk _ _ g1 ⟨g0,aa,λu o e z=>by rw[ae (aq e g0)];exact gk _ _ e z,hlt,cs++[d],by rw[K7,K7];rfl,by rw[Kj,gl];rfl,λx hx=>?_⟩⟩
   rcases Ld.mp hx with h|h
   ·exact gb x h
   ·rw[K0.mp h];exact hd'
  ·rintro D ys G ⟨g0,g1,gk,_,cs,rfl,gl,gb⟩;rw[us] at gl;have e1:((cs.map λc=>wd [c]).map λx=>x.length).sum=cs.length:=by
    clear gl gb g1
    induction cs with
    |nil=>rfl
    |cons c cs ih=>rw[KA,KA,List.sum_cons,ih,ay];show 1+cs.length=cs.length+1;lia
   refine⟨_,D,_,rfl,rfl,a_.of g1,?_,?_⟩
   ·rw[e1,show (Str.ofString "").length=0 from by decide +kernel];lia
   rw[mG];refine jU (by lia) (nU hl (jU (by rw[Kj];lia) ?_))
   exact q _ G ((hz1.app gb).app (hz2 _)) (by rw[Kj,Kj];lia) ((D3.kb gk).mono (by lia)) (k03.trans gk.all)
def qg{tc:TT}{b:Addr}{n:Nat}(hxy:xs.length=ys.length)(ha:H a=some (.tup xs))(hb:H b=some (.tup ys))
  (hs:∀(i:Nat) x y H' (R:Bool->Hp->Prop),xs[i]?=some x->ys[i]?=some y->KB [] H H'->(∀H4,KB [] H' H4->R false H4)->tc (some x::some y::σ) H' R) (hd:∀D H',KB [] H H'->H' D=some (.lst [])->Q (.ref D) H') :
  iA (Ae K (eJ n [(false,a),(false,b)])) 2 (rT K 2 (d6 (aO 0) (d6 (aO 1) lL))) tc te Q σ H:=by
 intro D hD0;refine⟨λi m zs σ' H'=>m=xs.length-i/\i<=xs.length/\zs=[]/\H' D=some (.lst [])/\KB [] H H'/\∃o1 o2,σ'=o1::o2::σ,⟨xs.length,by simp,K4 _,rfl,aa,KB.new hD0,none,none,rfl⟩,?_⟩
 rintro i m zs σ' H' ⟨rfl,hi,rfl,g1,g2,o1,o2,rfl⟩;have q1:hJ K false H' a xs:=bu.of (g2.n ha);have q2:hJ K false H' b ys:=bu.of (g2.n hb);refine⟨g1,?_⟩;by_cases hlt:i<xs.length
 ·have hl2:i<ys.length:=by lia
  refine .inr ⟨⟨[xs[i],ys[i]],.cons ⟨xs,q1,by simp[hlt]⟩ (.cons ⟨ys,q2,by simp[hl2]⟩ .nil)⟩,by decide,λx H2 z=>?_⟩
  obtain⟨c,vs,pr,fr,rfl,rfl⟩:=z;obtain⟨y1,vs,rfl,e1,pr⟩:=Paired.dm pr;obtain⟨y2,vs,rfl,e2,pr⟩:=Paired.dm pr;cases pr;refine Br ?_;have k3:KB [] H' (upd H' c (.tup [y1,y2])):=KB.new fr;refine hs i y1 y2 _ _ (e1 xs q1) (e2 ys q2) (g2.trans k3) λH4 k4=>?_;rw[Ko Ky];exact⟨xs.length-(i+1),by lia,rfl,hlt,rfl,k4.n (k3.n g1),g2.trans (k3.trans k4),_,_,rfl⟩
 ·have e:i=xs.length:=by lia
  subst e;exact .inl ⟨⟨[],(false,n,a),_,[],rfl,.nil,xs,q1,rfl⟩,hd D H' g2 g1⟩
def Sm(H:Hp):Nat->V->V->Prop
 |0,x,y=>x=y/\((∃i,x=.int i)\/∃z,x=.str z)
 |n+1,x,y=>(x=y/\((∃i,x=.int i)\/∃z,x=.str z))\/∃a b xs ys,x=.ref a/\y=.ref b/\H a=some (.tup xs)/\H b=some (.tup ys)/\xs.length=ys.length/\∀(i:Nat) (u v:V),xs[i]?=some u->ys[i]?=some v->Sm H n u v
def Sm.kb{n:Nat}{x y:V}(h:Sm H n x y)(k:KB [] H H'):Sm H' n x y:=by
 induction n generalizing x y with
 |zero=>exact (show x=y/\((∃i,x=.int i)\/∃z,x=.str z) from h)
 |succ n ih =>
  rcases h with h|⟨a,b,xs,ys,e1,e2,e3,e4,e5,h⟩
  ·exact .inl h
  ·exact .inr ⟨a,b,xs,ys,e1,e2,k.n e3,k.n e4,e5,λi u v h1 h2=>ih (h i u v h1 h2)⟩
def IM:Sp:=λ_ _ _ _=>False
def HW{x:Str}{st:Stmt}{N ps:List Str}{k:Nat}(F:HasFn K mg x st ps)(S:ax N ps (af st)):ao P w K mg base aY (k+1) x ps IM:=F.fq S (λ_ _ _ _ h=>h.elim) λ_ _ _ _ _ _ _ _ _ _ h=>h.elim
def rj(n:Nat):Sp:=λvs H Q _=>∃x y,vs=[x,y]/\Sm H n x y/\∀H',KB [] H H'->Q (.bl true) H'
section
local macro_rules | `(tactic| decide) => `(tactic| exact Nat.le_refl _)
def gq(T:Txt K mg)(F:HasFn K mg "_law_same" dn ["found","due"])(n j:Nat){sp:Sp}(h_law_same:ao P w K mg base aY j "_law_same" ["found","due"] sp)(hts:∀u v H Q E,(n=0->False)->Sm H (n-1) u v->(∀H',KB [] H H'->Q (.bl true) H')->sp [u,v] H Q E):ao P w K mg base aY (j+1) "_law_same" ["found","due"] (rj n):=by
 refine F.fq hU (λvs H Q E h=>?_) (λf cdv A outer s H vs Q E hr h=>?_)
 ·obtain⟨x,y,rfl,_⟩:=h;rfl
 ·have hu:=aU hr;obtain⟨x,y,rfl,hx,q⟩:=h;refine⟨_,(Z.ai (Z.cS (Z.aS bY (Z.v 1) Z.aI) (Z.av (Z.ret (Z.cmp bY (Z.v 0) Z.aI))) Z.ba)
   (Z.ai (Z.cS (Z.qK K rfl (Z.cb (Z.kD K rfl) rfl T.bf Ls (Z.cons (Z.v 1) (Z.cons (Z.CB (T:="tuple") rfl T.cJ (by decide +kernel)) Z.nil)))) (Z.ai (Z.cS (Z.tw (Z.IH (Z.xP (Z.qK K rfl (Z.cb (Z.kD K rfl) rfl T.bf Ls (Z.cons (Z.v 0) (Z.cons (Z.CB (T:="tuple") rfl T.cJ (by decide +kernel)) Z.nil))))) (Z.FN (Z.aS sQ (Z.cb (Z.bB K rfl) rfl T.b7 (by decide +kernel) (Z.cons (Z.v 0) Z.nil)) (Z.cb (Z.bB K rfl) rfl T.b7 (by decide +kernel) (Z.cons (Z.v 1) Z.nil)))))) (Z.av (Z.ret Z.bl)) Z.ba)
   (Z.av (Z.ret (Z.cmp (Y.Fy K rfl (Nat.lt_of_succ_lt hu)) (Z.xU (osc:=af dn) (ON:=["found","due"]) (own:=["one","other"]) (N:=["one","other","found","due"]) (aA.of rfl (by decide +kernel)) (CC K rfl rfl T.tL (Z.cons (Z.v 0) (Z.cons (Z.v 1) Z.nil))) (λnd _ _ _ _=>(Z.nM (n:=2) K rfl rfl (Z.bJ (Z.aM (i:=0) nd rfl (by right)) (Z.bJ (Z.aM (i:=1) nd rfl (by right)) Z.iq)))) (λ_ _ _ _=>(Z.JX (Z.xP (Z.qK K rfl (Z.fc h_law_same (Z.cons (Z.v 0) (Z.cons (Z.v 1) Z.nil))))))) (λ_ _ _ _=>Z.int)) (Z.lst Z.nil))))) Z.ba)
   (Z.ai (Z.cS (Z.qK K rfl (Z.cb (Z.kD K rfl) rfl T.bf Ls (Z.cons (Z.v 1) (Z.cons (Z.CB (T:="str") rfl T.yT (by decide +kernel)) Z.nil)))) (Z.av (Z.ret (Z.and (Z.cb (Z.kD K rfl) rfl T.bf Ls (Z.cons (Z.v 0) (Z.cons (Z.CB (T:="str") rfl T.yT (by decide +kernel)) Z.nil))) (Z.one (Z.cmp bz (Z.v 0) (Z.v 1)))))) Z.ba)
   (Z.av (Z.ret (Z.and (Z.cb (Z.kD K rfl) rfl T.bf Ls (Z.cons (Z.v 0) (Z.cons (Z.CB (T:="int") rfl T.qI (by decide +kernel)) Z.nil))) (Z.and (Z.not (Z.cb (Z.kD K rfl) rfl T.bf Ls (Z.cons (Z.v 0) (Z.cons (Z.CB (T:="bool") rfl T.Fh (by decide +kernel)) Z.nil)))) (Z.one (Z.cmp bz (Z.v 0) (Z.v 1)))))))))),?_⟩
  have hx2:(x=y/\((∃i,x=.int i)\/∃z,x=.str z))\/∃a b xs ys,x=.ref a/\y=.ref b/\(n=0->False)/\H a=some (.tup xs)/\H b=some (.tup ys)/\xs.length=ys.length/\∀(i:Nat) (u v:V),xs[i]?=some u->ys[i]?=some v->Sm H (n-1) u v:=by
   cases n with
   |zero=>exact .inl hx
   |succ n =>
    rcases hx with h|⟨a,b,xs,ys,e1,e2,h⟩
    ·exact .inl h
    ·exact .inr ⟨a,b,xs,ys,e1,e2,(λz=>by cases z),h⟩
  clear hx;refine ar λN hN=>?_;rcases hx2 with ⟨rfl,h⟩|⟨a,b,xs,ys,rfl,rfl,hn0,ha,hb,hl,hs⟩
  ·rcases h with ⟨i,rfl⟩|⟨z,rfl⟩
   ·exists Ko (show ¬ V.int i=V.aI from V.noConfusion);rw[hN];clear hN N;refine ar λN hN=>?_;exists (show iF "int" "tuple"=false from by decide +kernel)
    refine⟨by simp,?_⟩
    rw[hN];clear hN N;refine ar λN hN=>?_;exists (show iF "int" "str"=false from by decide +kernel)
    refine⟨by simp,?_⟩
    rw[hN];clear hN N;exists (show iF "int" "int"=true from by decide +kernel),(show iF "int" "bool"=false from by decide +kernel)
    exact⟨by simp,by simp,q _ (KB.refl _ _)⟩
   ·exists Ko (show ¬ V.str z=V.aI from V.noConfusion);rw[hN];clear hN N;refine ar λN hN=>?_;exists (show iF "str" "tuple"=false from by decide +kernel)
    refine⟨by simp,?_⟩
    rw[hN];clear hN N;refine ar λN hN=>?_;exists (show iF "str" "str"=true from by decide +kernel)
    exact⟨by simp,by simp,q _ (KB.refl _ _)⟩
  ·exists Ko (show ¬ V.ref b=V.aI from V.noConfusion);rw[hN];clear hN N;refine ar λN hN=>?_;refine qO λA B hA hB=>?_;exists hb,(show iF "tuple" "tuple"=true from by decide +kernel)
   refine⟨by simp,?_⟩
   rw[hA];clear hA hB A B;refine ar λM hM=>?_;refine qO λA B hA hB=>?_;exists ha,(show iF "tuple" "tuple"=true from by decide +kernel),aF ha,aF hb
   refine⟨by simp,?_⟩
   rw[Ko (by simp),Ko (by rw[hl];simp),hB]
   show M _ _;rw[hM];clear hM M hA hB A B;nofun;rw[qy];nofun;refine⟨(false,a),(false,b),⟨rfl,rfl⟩,⟨_,bu.of ha⟩,⟨_,bu.of hb⟩,λn=>?_⟩;refine qg hl ha hb (λi u v H' R h1 h2 k kk=>?_) (λD H' k hD=>?_)
   ·nofun;refine hts u v H' _ _ hn0 ((hs i u v h1 h2).kb k) λH4 k4=>?_;nofun;exact kk H4 k4
   ·refine⟨K4 _,λp hp=>⟨D,p,[],rfl,rfl,a_.of ?_,a_.of aa,q _ (k.trans (KB.new hp))⟩⟩;rw[ae (aq hD hp)];exact hD
end
def AE(T:Txt K mg)(F:HasFn K mg "_law_same" dn ["found","due"]):ao P w K mg base aY 5 "_law_same" ["found","due"] (rj 3):=
 gq T F 3 4 (gq T F 2 3 (gq T F 1 2 (gq T F 0 1 (HW F hU) λu v H Q E h=>(h rfl).elim) λu v H Q E _ h q=>⟨u,v,rfl,h,q⟩) λu v H Q E _ h q=>⟨u,v,rfl,h,q⟩) λu v H Q E _ h q=>⟨u,v,rfl,h,q⟩
def u4:Sp:=λvs H Q _=>∃(a:Addr) (rs:List Row),vs=[.ref a]/\BD H a rs/\rs.length<=64/\∀b H',H b=none->KB [] H H'->H' b=some (.lst ((rs.map bR).map cq))->Q (.ref b) H'
def y0(T:Txt K mg)(F:HasFn K mg "_law_goals" d3 ["program"]):ao P w K mg base aY 1 "_law_goals" ["program"] u4:=by
 refine F.fq lA (λvs H Q E h=>?_) (λf cdv A outer s H vs Q E hr h=>?_)
 ·obtain⟨a,rs,rfl,_⟩:=h;rfl
 ·have hu:=aU hr;obtain⟨a,rs,rfl,⟨as,ha,hp⟩,hl,q⟩:=h;have hp1:=hp.1;refine⟨_,(Z.av (Z.ret (Z.xU (osc:=af d3) (ON:=["program"]) (own:=["row"]) (N:=["row","program"]) (aA.of rfl (by decide +kernel)) (Z.any K rfl (Z.v 0)) (λnd _ _ _ _=>(Z.aM (i:=0) nd rfl (by right))) (λ_ _ _ _=>Z.tF) (λ_ _ _ _=>(Z.Iu (Z.aS (Z.Ct K rfl hu) (Z.ix (Z.az K rfl hu) (Z.v 0) Z.int) (Z.tup (Z.consts rfl))) (Z.ix (Z.az K rfl hu) (Z.v 0) (Z.un cy Z.int)) Z.aI))))),?_⟩
  exists aF ha;refine d5 (xs:=as.map V.ref) (Km (show _<=64 by rw[Ki];lia) (by decide)) (λD i ys H'=>H D=none/\H' D=some (.lst ys)/\KB [] H H'/\ys=((rs.take i).map bR).map cq/\i<=rs.length) (λD hD=>⟨hD,aa,KB.new hD,rfl,K4 _⟩) (λD i ys H' h=>⟨h.2.1,by rw[h.2.2.2.1,Ki,Ki,KD];have:=h.2.2.2.2;lia⟩) (λD i ys H' h=>bu.of (h.2.2.1 _ _ ha (by simp))) ?_ ?_
  ·rintro D i ys H' x R hx ⟨g0,g1,gk,rfl,hi⟩ kk;obtain⟨c,ec,rfl⟩:∃c,as[i]?=some c/\x=.ref c:=by
    rw[Kn] at hx;obtain⟨c,e,rfl⟩:=K8.mp hx;exact⟨c,e,rfl⟩
   have hlt:i<rs.length:=by have:=(Kl.mp ec).1;lia
   have er:=Kg hlt;have hc:=gk.n (hp.2 i c _ ec er);have et:rs.take (i+1)=rs.take i++[rs[i]]:=by rw[L6,er];rfl
   have fin:∀G:Hp,KB [] H' G->R (cq (bR rs[i])) G:=λG kG=>by
    have g1':=kG.n g1;refine kk _ _ g1' ⟨g0,aa,λu o e _=>by rw[ae (aq e g0)];exact kG.n (gk.n e),by rw[et,K7,K7];rfl,hlt⟩
   generalize rs[i]=r at *;have sc:=aF hc;obtain⟨z,e0,h⟩:∃z:Str,bS r.vs 0=some (.str z)/\(iW (.str z) [.str "jump",.str "zero"]=true/\bS r.vs (-1)=some (cq (bR r))\/iW (.str z) [.str "jump",.str "zero"]=false/\cq (bR r)=.aI):=by
    cases r with
    |jump g=>exact⟨_,rfl,.inl ⟨by decide +kernel,rfl⟩⟩
    |zero b g=>exact⟨_,rfl,.inl ⟨by decide +kernel,rfl⟩⟩
    |put b n=>exact⟨_,rfl,.inr ⟨by decide +kernel,rfl⟩⟩
    |two u b c=>exact⟨_,rfl,.inr ⟨(show ∀u,iW (.str (w2 u)) [.str "jump",.str "zero"]=false by decide +kernel) u,rfl⟩⟩
    |one u b=>exact⟨_,rfl,.inr ⟨(show ∀u,iW (.str (w1 u)) [.str "jump",.str "zero"]=false by decide +kernel) u,rfl⟩⟩
    |halt=>exact⟨_,rfl,.inr ⟨by decide +kernel,rfl⟩⟩
   exists sc,e0;refine⟨by decide,λt ht=>⟨rfl,rfl,?_⟩⟩
   have k6:=KB.new (ex:=[]) (o:=.tup [.str "jump",.str "zero"]) ht;rcases h with ⟨h1,h2⟩|⟨h1,h2⟩
   ·exists h1,aF (k6.n hc),h2;exact fin _ k6
   ·exists h1;rw[h2] at fin;exact fin _ k6
  ·rintro D ys H' ⟨g0,g1,gk,rfl,hi⟩;refine q D H' g0 gk ?_;rw[g1,Ki,hp1,Lq]
def Dd{l:List (Option Nat)}{v:V}(h:(l.map cq)[i]?=some v):∃x,l[i]?=some x/\v=cq x:=by
 rw[Kn] at h;obtain⟨x,e,rfl⟩:=K8.mp h;exact⟨x,e,rfl⟩
def Dp{l:List Nat}{v:V}(h:(iV (nZ l))[i]?=some v):∃x:Nat,l[i]?=some x/\v=.int (x:Nat):=by
 unfold iV nZ at h;rw[Mr,Kn] at h;obtain⟨x,e,rfl⟩:=K8.mp h;exact⟨x,e,rfl⟩
def G_{l:List Nat}{x:Nat}(h:l[i]?=some x):bS (iV (nZ l)) (i:Int)=some (.int (x:Nat)):=bw (by unfold iV nZ;rw[Mr,Kn,h];rfl)
def mY(K:W.Frag):Sp:=λvs H Q _=>∃(a b c:Addr) (ss:List Int) (gs:List (Option Nat)) (ws:List Nat),vs=[.ref a,.ref b,.ref c]/\H a=some (.lst (iV ss))/\H b=some (.lst (gs.map cq))/\H c=some (.lst (iV (nZ ws)))/\gs.length=ss.length/\ws.length=ss.length/\ss.length<=64/\(∀w∈ws,w<3)/\∀d H' sp,H d=none->KB [] H H'->sp.length=ss.length+1->H' d=some (.lst (iV sp))->Q (.ref d) H'
def xQ(T:Txt K mg)(F:HasFn K mg "_law_spots" eY ["sizes","goals","widths"]):ao P w K mg base aY 1 "_law_spots" ["sizes","goals","widths"] (mY K):=by
 refine F.fq cA (λvs H Q E h=>?_) (λf cdv A outer s H vs Q E hr h=>?_)
 ·obtain⟨a,b,c,ss,gs,ws,rfl,_⟩:=h;rfl
 ·have hu:=aU hr;obtain⟨a,b,c,ss,gs,ws,rfl,ha,hb,hc,h1,h2,h3,h4,q⟩:=h;refine⟨_,(Z.ai (Z.se (i:=3) cA.nd (Z.lst (Z.cons Z.int Z.nil)))
   (Z.ai (Z.dO KP rfl (CL K rfl rfl T.tL (Z.cons (Z.v 0) (Z.cons (Z.v 1) (Z.cons (Z.v 2) Z.nil)))) (Z.nM (n:=3) K rfl rfl (Z.bJ (Z.aM (i:=4) cA.nd rfl (by right)) (Z.bJ (Z.aM (i:=5) cA.nd rfl (by right)) (Z.bJ (Z.aM (i:=6) cA.nd rfl (by right)) Z.iq)))) (Z.av (Z.expr (Z.app K (Z.v 3) (Z.cons (Z.op (Z.aH K rfl) (Z.op (Z.aH K rfl) (Z.ix (Z.az K rfl hu) (Z.v 3) (Z.un cy Z.int)) (Z.v 4)) (Z.ix (Z.az K rfl hu) (Z.lst (Z.cons Z.int (Z.cons (Z.ix (Z.az K rfl hu) (Z.lst (Z.consts rfl)) (Z.v 6)) Z.nil))) (Z.ct m9 rfl T.qI (by decide +kernel) (Z.cons (Z.cmp nk (Z.v 5) Z.aI) Z.nil)))) Z.nil)))))
   (Z.av (Z.ret (Z.v 3))))),?_⟩
  refine ar λN hN=>?_;nofun;refine⟨by decide,λfd hfd=>?_⟩
  obtain⟨k1,s1⟩:=e8 hfd (.lst [.int 0]);generalize upd H fd _=H1 at *;subst hN;refine ar λN hN=>?_;exists pS;refine⟨(true,a),(true,b),(true,c),⟨rfl,rfl,rfl⟩,⟨_,a_.of (k1.n ha)⟩,⟨_,a_.of (k1.n hb)⟩,⟨_,a_.of (k1.n hc)⟩,λn=>?_⟩;refine v9 (xs:=iV ss) (ys:=gs.map cq) (zs:=iV (nZ ws)) (by rw[bF,Ki,h1]) (by rw[bF,cx,h2]) (λi σ H'=>∃(sp:List Int) (x:Int) (o4 o5 o6:Option V),i<=ss.length/\KB [] H H'/\sp.length=i/\H' fd=some (.lst (iV (sp++[x])))/\σ=[some (.ref a),some (.ref b),some (.ref c),some (.ref fd),o4,o5,o6]) ⟨[],0,none,none,none,K4 _,k1,rfl,s1,rfl⟩ (λi σ H' ⟨_,_,_,_,_,_,k,_⟩=>⟨a_.of (k.n ha),a_.of (k.n hb),a_.of (k.n hc)⟩) ?_ ?_
  ·rintro i x y z σ H' p hx hy hz ⟨sp,x0,o4,o5,o6,hi,hk,el,gf,rfl⟩ hp;obtain⟨hlt,rfl⟩:=jM hx;obtain⟨g,eg,rfl⟩:=Dd hy;obtain⟨w0,ew,rfl⟩:=Dp hz;have lw:=h4 _ (Li ew);generalize ss[i]=s0;unfold aO;refine⟨p,_,rfl,bu.of aa,rfl,_,_,rfl,_,_,rfl,_,_,rfl,rfl,?_⟩;obtain⟨k2,_⟩:=e8 hp (.tup [.int s0,cq g,.int (w0:Nat)]);have gf2:=k2.n gf
   replace k2:=hk.trans k2
   generalize upd H' p _=H2 at *;have lst:bS (iV (sp++[x0])) (-1)=some (.int x0):=by rw[ni];exact fS _ _
   dsimp only;refine lh λM hM=>?_;exists au gf2,lst;have a1:bS [V.int 5,.int 10,.int 18] (w0:Int)=some (.int ((GB w0:Nat):Int)):=by rcases oz lw with rfl|rfl|rfl<;>rfl
   refine⟨.inl ⟨rfl,_,a_.of gf2⟩,by decide,λp1 hp1=>?_⟩
   rw[a1];refine⟨by decide,λp2 hp2=>?_⟩
   have a2:bS [V.int 0,.int ((GB w0:Nat):Int)] (if ¬ cq g=V.aI then 1 else 0)=some (.int ((addW g w0:Nat):Int)):=by cases g<;>rfl
   rw[a2];have k3:=(KB.new (ex:=[]) (o:=.lst [.int 5,.int 10,.int 18]) hp1).trans (KB.new (o:=.lst [.int 0,.int ((GB w0:Nat):Int)]) hp2);generalize upd (upd H2 p1 _) p2 _=H3 at *;have gf3:=k3.n gf2;nofun;refine⟨fd,_,_,rfl,rfl,gf3,Lf (show _<=1000 by rw[bF,Kj,el];simp;lia) (by decide),?_⟩
   rw[hM];exact⟨sp++[x0],_,_,_,_,hlt,λu o e _=>by rw[ae (aq e hfd)];exact k3.n (k2.n e),by rw[Kj,el];rfl,aa.trans (by rw[ni (sp++[x0])];rfl),rfl⟩
  ·rintro σ H' ⟨sp,x0,o4,o5,o6,hi,hk,el,gf,rfl⟩;show N _ _;subst hN;nofun;exact q fd H' _ hfd hk (by rw[Kj,el,bF];rfl) gf
def pI(K:W.Frag):Sp:=λvs H Q _=>∃(a b c:Addr) (ss:List Int) (gs:List (Option Nat)) (ws:List Nat),vs=[.ref a,.ref b,.ref c]/\H a=some (.lst (iV ss))/\H b=some (.lst (gs.map cq))/\H c=some (.lst (iV (nZ ws)))/\gs.length=ss.length/\ws.length=ss.length/\ss.length<=64/\(∀t,some t∈gs->t<=ss.length)/\(∀w∈ws,w<3)/\∀d H' ws',H d=none->KB [] H H'->ws'.length=ws.length->(∀w∈ws',w<3)->H' d=some (.lst (iV (nZ ws')))->Q (.ref d) H'
def EJ(l:List Nat)(i v:Nat):(iV (nZ l)).set i (.int (v:Int))=iV (nZ (l.set i v)):=by
 unfold iV nZ;rw[MW,MW]
def vN(T:Txt K mg)(F:HasFn K mg "_law_least" fk ["sizes","goals","widths"])(h_law_spots:ao P w K mg base aY 1 "_law_spots" ["sizes","goals","widths"] (mY K)):ao P w K mg base aY 2 "_law_least" ["sizes","goals","widths"] (pI K):=by
 refine F.fq bD (λvs H Q E h=>?_) (λf cdv A outer s H vs Q E hr h=>?_)
 ·obtain⟨a,b,c,ss,gs,ws,rfl,_⟩:=h;rfl
 ·have hu:=aU hr;obtain⟨a,b,c,ss,gs,ws,rfl,ha,hb,hc,h1,h2,h3,h5,h6,q⟩:=h;refine⟨_,(Z.ai (Z.se (i:=2) bD.nd (Z.ct (Z.EU K rfl) rfl T.yJ (by decide +kernel) (Z.cons (Z.v 2) Z.nil)))
   (Z.ai (Z.dO KP rfl (Z.lH rfl T.cB (Z.cons (Z.op (Z.aH K rfl) (Z.op bX Z.int (Z.cb (Z.bB K rfl) rfl T.b7 (by decide +kernel) (Z.cons (Z.v 0) Z.nil))) Z.int) Z.nil)) (Z.aM (i:=3) bD.nd rfl (by right)) (Z.ai (Z.se (i:=4) bD.nd (Z.fc h_law_spots (Z.cons (Z.v 0) (Z.cons (Z.v 1) (Z.cons (Z.v 2) Z.nil)))))
   (Z.av (Z.dO KP rfl (Z.lH rfl T.cB (Z.cons (Z.cb (Z.bB K rfl) rfl T.b7 (by decide +kernel) (Z.cons (Z.v 0) Z.nil)) Z.nil)) (Z.aM (i:=5) bD.nd rfl (by right)) (Z.av (Z.cS (Z.aS nk (Z.ix (Z.az K rfl hu) (Z.v 1) (Z.v 5)) Z.aI) (Z.ai (Z.se (i:=6) bD.nd (Z.ix (Z.az K rfl hu) (Z.lst (Z.consts rfl)) (Z.ix (Z.az K rfl hu) (Z.v 2) (Z.v 5))))
   (Z.ai (Z.se (i:=7) bD.nd (Z.op cX (Z.ix (Z.az K rfl hu) (Z.v 4) (Z.ix (Z.az K rfl hu) (Z.v 1) (Z.v 5))) (Z.ix (Z.az K rfl hu) (Z.v 4) (Z.op (Z.aH K rfl) (Z.v 5) Z.int))))
   (Z.av (Z.cS (Z.xP (Z.FJ (GO) (iE) (Z.op cX Z.int (Z.v 6)) (Z.v 7) (Z.v 6))) (Z.av (Z.asg (Z.cb (mO rfl) rfl T.C3 (by decide +kernel) (Z.cons (Z.op (Z.aH K rfl) (Z.ix (Z.az K rfl hu) (Z.v 2) (Z.v 5)) Z.int) (Z.cons Z.int Z.nil))) (Z.q_ (Z.v 2) (Z.v 5)))) Z.ba)))) Z.ba))))))
   (Z.av (Z.ret (Z.v 2))))),?_⟩
  refine ar λN hN=>?_;nofun;refine⟨c,_,rfl,.inl (a_.of hc),λd hd=>?_⟩;obtain⟨k1,s1⟩:=e8 hd (.lst (iV (nZ ws)));generalize upd H d _=H1 at *;subst hN;refine ar λN hN=>?_;exists au (k1.n ha),bF;refine⟨.inl ⟨by decide,by decide⟩,by lia,by lia,?_⟩
  refine bP (λm σ H'=>∃(wm:List Nat) (o3 o4 o5 o6 o7:Option V),KB [] H H'/\wm.length=ss.length/\(∀w∈wm,w<3)/\H' d=some (.lst (iV (nZ wm)))/\σ=[some (.ref a),some (.ref b),some (.ref d),o3,o4,o5,o6,o7]) ⟨ws,none,none,none,none,none,k1,h2,h6,s1,rfl⟩ ?_ ?_
  ·rintro m σ H' hm ⟨wm,o3,o4,o5,o6,o7,hk,wl,wt,gd,rfl⟩;generalize (0:Int)+((m:Nat):Int)=kI;unfold aO;refine ar λM hM=>?_;nofun;refine⟨a,b,d,ss,gs,wm,rfl,hk.n ha,hk.n hb,gd,h1,wl,h3,wt,λsd H2 sp hsd k2 sl g2=>?_⟩;subst hM;have dsd:sd≠d:=λz=>by rw[z,gd] at hsd;cases hsd
   have hk2:=hk.trans k2;have gd2:=k2.n gd;dsimp only;refine lh λM hM=>?_;exists au (hk2.n ha),bF;refine⟨by lia,by lia,?_⟩
   rw[KU];refine bP (λi σ G=>∃(wm:List Nat) (o5 o6 o7:Option V),KB [] H G/\G sd=some (.lst (iV sp))/\wm.length=ss.length/\(∀w∈wm,w<3)/\G d=some (.lst (iV (nZ wm)))/\σ=[some (.ref a),some (.ref b),some (.ref d),some (.int kI),some (.ref sd),o5,o6,o7]) ⟨wm,o5,o6,o7,hk2,g2,wl,wt,gd2,rfl⟩ ?_ ?_
   ·clear wl wt gd gd2 hk2;rintro i σ G hi ⟨wm,o5,o6,o7,hkG,gs3,wl,wt,gd3,rfl⟩;rw[show (0:Int)+((i:Nat):Int)=(i:Int) from P9 _];have eg:=Kg (show i<gs.length by lia)
    have ew:=Kg (show i<wm.length by lia)
    have lw:=wt _ (K9 (show i<wm.length by lia))
    have gm:=K9 (show i<gs.length by lia)
    generalize gs[i]'_=g at eg gm;generalize wm[i]'_=w0 at ew lw;have ag:bS (gs.map cq) (i:Int)=some (cq g):=bw (by rw[Kn,eg];rfl)
    dsimp only;refine lh λM2 hM2=>?_;have BN:∀(G':Hp) (wn:List Nat) (o6 o7:Option V),KB [] H G'->G' sd=some (.lst (iV sp))->wn.length=ss.length->(∀w∈wn,w<3)->G' d=some (.lst (iV (nZ wn)))->M2 [some (.ref a),some (.ref b),some (.ref d),some (.int kI),some (.ref sd),some (.int (i:Int)),o6,o7] G':=λG' wn o6 o7 g1 g2 g3 g4 g5=>by rw[hM2];exact⟨wn,_,o6,o7,g1,g2,g3,g4,g5,rfl⟩
    clear hM2;refine qO λA B hA hB=>?_;exists au (hkG.n hb),ag
    cases g with
    |none =>
     rw[Ko (show ¬ ¬ cq none=V.aI from λz=>z rfl),hB];exact BN G wm _ _ hkG gs3 wl wt gd3
    |some t =>
     have ht:t<=ss.length:=h5 t gm;have as1:=lY (show t<sp.length by lia)
     have as2:bS (iV sp) ((i:Int)+1)=some (.int (sp[i+1]'(by lia))):=lY (show i+1<sp.length by lia)
     rw[Ku (show ¬ cq (some t)=V.aI from λz=>nomatch z),hA];clear hA hB;have ah:bS [V.int 8,.int 128,.int 32768] (w0:Int)=some (.int (cU w0)):=by rcases oz lw with rfl|rfl|rfl<;>rfl
     refine ar λM3 hM3=>?_;nofun;refine⟨by decide,λl hl=>?_⟩
     obtain⟨k4,s4⟩:=e8 hl (.lst [.int 8,.int 128,.int 32768]);have gd4:=k4.n gd3;have gs4:=k4.n gs3;have hkG4:=hkG.trans k4;have aw:=G_ ew;generalize upd G l _=G4 at *;exists au gd4,aw,au s4,ah;rw[hM3];clear hM3 M3;refine ar λM3 hM3=>?_;have ag':bS (gs.map cq) (i:Int)=some (.int (t:Nat)):=ag;exists au (hkG4.n hb),ag',au gs4,as1,as2;rw[hM3];clear hM3 M3;exists au gd4,aw;have ex:jO (iV (nZ wm)).length (i:Int)=some i:=by
      rw[cx];unfold jO;rw[Ku (by lia),Ku (by lia),KU]
     rw[gd4];simp only[ex];have bad:=BN (upd G4 d (.lst ((iV (nZ wm)).set i (.int (if 2<(w0:Int)+1 then 2 else (w0:Int)+1))))) (wm.set i (min (w0+1) 2)) (some (.int (cU w0))) (some (.int (sp[t]-sp[i+1]))) (λu o e _=>by rw[ae (aq e hd)];exact hkG4.n e) (by rw[ae dsd];exact gs4) (by rw[Mt];exact wl) (λw hw=>by
      rcases L5 hw with z|z
      ·exact wt w z
      ·lia) (by rw[aa,show (if 2<(w0:Int)+1 then 2 else (w0:Int)+1)=((min (w0+1) 2:Nat):Int) by split<;>lia,EJ])
     have good:=BN G4 wm (some (.int (cU w0))) (some (.int (sp[t]-sp[i+1]))) hkG4 gs4 wl wt gd4;split
     ·split
      ·exact bad
      ·exact good
     ·exact bad
   ·rintro σ G ⟨wm,o5,o6,o7,hkG,gs3,wl,wt,gd3,rfl⟩;show M _ _;rw[hM];exact⟨wm,_,_,o5,o6,o7,hkG,wl,wt,gd3,rfl⟩
  ·rintro σ H' ⟨wm,o3,o4,o5,o6,o7,hk,wl,wt,gd,rfl⟩;show N _ _;subst hN;nofun;exact q d H' wm hd hk (by lia) wt gd
def JS(H:Hp)(ca:Addr)(cd:List (List (List Nat))):Prop:=∃a0 a1 a2,H ca=some (.lst [.ref a0,.ref a1,.ref a2])/\H a0=some (.lst (wV (cd.getD 0 [])))/\H a1=some (.lst (wV (cd.getD 1 [])))/\H a2=some (.lst (wV (cd.getD 2 [])))
def ql(cd:List (List (List Nat))):Pk->List Nat
 |.box b=>gK cd (2,b)
 |.num n=>gK cd (1,f9 n)++(kx n).tail
 |.goal _=>[]
def Pk.of(w:Str):Pk->Prop
 |.box _=>True
 |.num _=>w=Str.ofString "put"
 |.goal _=>w≠Str.ofString "put"
def EX(r:Row):∀p∈r.iI,p.of r.wd:=by
 cases r with
 |put b n=>intro p hp;simp only[Row.iI,Kv,KO,Ma] at hp;rcases hp with rfl|rfl;exact trivial;exact rfl
 |two u a b=>intro p hp;simp only[Row.iI,Kv,KO,Ma] at hp;rcases hp with rfl|rfl<;>exact trivial
 |one u b=>intro p hp;simp only[Row.iI,Kv,KO,Ma] at hp;subst hp;exact trivial
 |jump g=>intro p hp;simp only[Row.iI,Kv,KO,Ma] at hp;subst hp;show Str.ofString "jump"≠Str.ofString "put";decide +kernel
 |zero b g=>intro p hp;simp only[Row.iI,Kv,KO,Ma] at hp;rcases hp with rfl|rfl;exact trivial;show Str.ofString "zero"≠Str.ofString "put";decide +kernel
 |halt=>intro p hp;cases hp
def rP(cd:List (List (List Nat)))(r:Row):cK cd r=gK cd (0,r.wi)++r.iI.flatMap (ql cd):=by
 cases r<;>simp[cK,ng,Row.iI,Pk.Jk,ql,zH]
def B3(l:List Nat):Y.eW (wd l) (some 1) none=wd l.tail:=by
 unfold Y.eW wd;congr 2;show Y.gz l (some 1) none=l.tail;unfold Y.gz;rw[HT.dk,show (some (1:Int))=some ((1:Nat):Int) from rfl,HT.cP]
 cases l with
 |nil=>rfl
 |cons x l=>simp
def vz(x:V)(xs:List V):fE (x::xs) (some 1) none=xs:=by
 unfold fE;rw[HT.dk,show (some (1:Int))=some ((1:Nat):Int) from rfl,HT.cP];simp
def zu{x:List Nat}(h:ws[i]?=some x):bS (wV ws) (i:Int)=some (.str (wd x)):=bw (by unfold wV;rw[Kn,h];rfl)
def uz(K:W.Frag):Sp:=λvs H Q _=>∃(ra ca:Addr) (r:Row) (k:Nat) (cd:List (List (List Nat))),vs=[.ref ra,.ref ca]/\H ra=some (.tup r.vs)/\JS H ca cd/\r.Ok k/\Cd cd/\∀H',KB [] H H'->Q (.str (wd (cK cd r))) H'
def wN(T:Txt K mg)(F:HasFn K mg "_law_plain" fu ["row","codes"])(h_law_words:ao P w K mg base aY 1 "_law_words" [] nv)(h_law_bits:ao P w K mg base aY 1 "_law_bits" ["number","many"] j0):ao P w K mg base aY 2 "_law_plain" ["row","codes"] (uz K):=by
 refine F.fq bW (λvs H Q E h=>?_) (λf cdv A outer s H vs Q E hr h=>?_)
 ·obtain⟨ra,ca,r,k,cd,rfl,_⟩:=h;rfl
 ·have hu:=aU hr;obtain⟨ra,ca,r,k,cd,rfl,hra,hca,aL,hC,q⟩:=h;obtain⟨a0,a1,a2,g,g0,g1,g2⟩:=hca;rw[Row.Ib] at hra;rw[rP] at q;refine⟨_,(Z.ai (Z.se (i:=2) bW.nd (Z.ix (Z.az K rfl hu) (Z.ix (Z.az K rfl hu) (Z.v 1) Z.int) (Z.bm K rfl PySem.F.plainAttrs_list PySem.F.slot_list_index PySem.F.type_list_index Y.Bi (Z.JL h_law_words (hr.mono (by decide)) rfl zT) (Z.cons (Z.ix (Z.az K rfl hu) (Z.v 0) Z.int) Z.nil))))
   (Z.ai (Z.dO KP rfl (Z.any K rfl (Z.slice (Z.wI K rfl) (Z.v 0) (Z.gU Z.int) Z.p9)) (Z.aM (i:=3) bW.nd rfl (by right)) (Z.av (Z.cS (Z.qK K rfl (Z.cb (Z.kD K rfl) rfl T.bf Ls (Z.cons (Z.v 3) (Z.cons (Z.CB (T:="str") rfl T.yT (by decide +kernel)) Z.nil)))) (Z.av (Z.se (i:=2) bW.nd (Z.op (Z.aH K rfl) (Z.v 2) (Z.ix (Z.az K rfl hu) (Z.ix (Z.az K rfl hu) (Z.v 1) Z.int) (Z.bm K rfl PySem.F.plainAttrs_str PySem.F.slot_str_index PySem.F.type_str_index Y.jB Z.str (Z.cons (Z.v 3) Z.nil)))))) (Z.av (Z.cS (Z.aS bz (Z.ix (Z.az K rfl hu) (Z.v 0) Z.int) Z.str) (Z.ai (Z.se (i:=4) bW.nd (Z.JU K rfl PySem.F.plainAttrs_int PySem.F.slot_int_bit_length PySem.F.type_int_bit_length Y.Cg (Z.v 3)))
   (Z.av (Z.se (i:=2) bW.nd (Z.op (Z.aH K rfl) (Z.op (Z.aH K rfl) (Z.v 2) (Z.ix (Z.az K rfl hu) (Z.ix (Z.az K rfl hu) (Z.v 1) Z.int) (Z.v 4))) (Z.slice Y.bZ (Z.fc h_law_bits (Z.cons (Z.v 3) (Z.cons (Z.v 4) Z.nil))) (Z.gU Z.int) Z.p9))))) Z.ba)))))
   (Z.av (Z.ret (Z.v 2))))),?_⟩
  obtain⟨c0,c1,c2,rfl,l0,l1,l2⟩:=hC.ex;have w0:=hC.at (p:=(0,r.wi)) (.inl ⟨rfl,r.uh⟩);refine ar λN hN=>?_;exists au g;refine⟨rfl,λl hl=>?_⟩;obtain⟨k1,s1⟩:=e8 hl (.lst (b8.map V.str));generalize upd H l _=H1 at *;exists aF (k1.n hra);refine⟨.inl ⟨rfl,_,a_.of s1⟩,l,b8,r.wd,r.wi,rfl,s1,rfl,(CW r).1,(CW r).2,?_⟩;exists au (k1.n g0),zu w0.2.1;subst hN;refine ar λN hN=>?_;have hra1:=k1.n hra;exists aF hra1;refine⟨ra,_,rfl,bu.of hra1,by rw[show (some (1:Int))=some ((1:Nat):Int) from rfl,HT.cP,K2];lia,λt ht=>?_⟩
  rw[vz];obtain⟨k2,s2⟩:=e8 ht (.tup (r.iI.map Pk.v));generalize upd H1 t _=H2 at *;have k02:=k1.trans k2;simp only[aF s2];have G:=k02.n g;have G1:=k02.n g1;have G2:=k02.n g2;have GR:=k02.n hra;refine jE (xs:=r.iI.map Pk.v) (λi σ H'=>H'=H2/\∃(x:List Nat) (o3 o4:Option V),x.length+60*(r.iI.drop i).length<=200/\gK [c0,c1,c2] (0,r.wi)++r.iI.flatMap (ql [c0,c1,c2])=x++(r.iI.drop i).flatMap (ql [c0,c1,c2])/\σ=[some (.ref ra),some (.ref ca),some (.str (wd x)),o3,o4]) ⟨rfl,_,none,none,?_,rfl,rfl⟩ (λi σ H' _ h=>by rw[h.1];exact bu.of s2) ?_ ?_
  ·have h1:r.iI.length<=2:=by cases r<;>simp[Row.iI]
   have h2:=w0.2.2;rw[LI];lia
  ·rintro i x σ H' hx ⟨rfl,y,o3,o4,hy,ea,rfl⟩;have hi:i<r.iI.length:=by have:=(Kl.mp hx).1;rw[Ki] at this;exact this
   obtain rfl:x=(r.iI[i]).v:=by
    rw[Kn,Kg hi] at hx;exact (Option.some.inj hx).symm
   have hp0:=Row.yP aL _ (List.getElem_mem hi);have hp1:=EX r _ (List.getElem_mem hi);rw[List.drop_eq_getElem_cons hi] at hy ea;rw[List.length_cons] at hy;generalize r.iI[i]=pk at *;unfold aO;dsimp only;refine lh λM hM=>?_
   cases pk with
   |box b =>
    have hb:b<8:=hp0;have w2:=hC.at (p:=(2,b)) (.inr (.inr ⟨rfl,hb⟩));show mX _ _ _ _ [_,_,_,some (V.str (d8 b)),_] _;exists (show iF "str" "str"=true from by decide +kernel),au G
    refine⟨by decide,rfl,_,_,b,[],rfl,rfl,IW hb,?_⟩
    exists au G2,zu w2.2.1;rw[ay,ay,d7];refine⟨Km (show _<=240 by have:=w2.2.2;lia) (by decide),?_⟩
    rw[hM];exact⟨rfl,y++gK [c0,c1,c2] (2,b),some _,o4,by rw[Kj];have:=w2.2.2;lia,by rw[ea,MR,KN];rfl,rfl⟩
   |num n =>
    have hn:n<65536:=hp0;have hb:=n4 hn;have w1:=hC.at (p:=(1,f9 n)) (.inr (.inl ⟨rfl,hb⟩));show mX _ _ _ _ [_,_,_,some (V.int (n:Nat)),_] _;exists (show iF "int" "str"=false from by decide +kernel),aF GR,Ku (show r.wd=Str.ofString "put" from hp1)
    refine⟨by decide,rfl,(n:Int),rfl,rfl,?_⟩
    rw[show ((Builtin.Int.intBits (n:Int):Nat):Int)=(f9 n:Int) from rfl];exists au G,au G1,zu w1.2.1;have fl:(kx n).length=f9 n:=BV n;have ft:(kx n).tail.length<=16:=by rw[List.length_tail];lia
    have h3:=w1.2.2;refine⟨by rw[ay,ay];exact Km (show _<=300 by lia) (by decide),(n:Int),f9 n,rfl,by lia,?_⟩
    rw[show cT (n:Int) (f9 n) []=kx n from rfl];refine⟨_,rfl,by rw[ay];exact Km (show _<=20 by lia) (by decide),?_⟩
    rw[B3,d7];exists ay;rw[d7];refine⟨Km (show _<=300 by rw[Kj];lia) (by decide),?_⟩
    rw[hM];exact⟨rfl,y++gK [c0,c1,c2] (1,f9 n)++(kx n).tail,some _,some _,by rw[Kj,Kj];lia,by rw[ea,MR];simp[ql],rfl⟩
   |goal n =>
    show mX _ _ _ _ [_,_,_,some (V.int (n:Nat)),_] _;exists (show iF "int" "str"=false from by decide +kernel),aF GR,Ko (show r.wd≠Str.ofString "put" from hp1)
    refine⟨by decide,?_⟩
    rw[hM];exact⟨rfl,y,some _,o4,by lia,by rw[ea,MR];rfl,rfl⟩
  ·rintro σ H' ⟨rfl,x,o3,o4,_,ea,rfl⟩;rw[Ki,Mn,List.flatMap_nil,Le] at ea;show N _ _;subst hN;nofun;rw[ea] at q;exact q _ k02
def DO(cd:List (List (List Nat)))(rs:List Row):List Int:=rs.map λr=>(((cK cd r).length:Nat):Int)
def hV(cd:List (List (List Nat)))(rs:List Row):List V:=rs.map λr=>.str (wd (cK cd r))
def mw(K:W.Frag):Sp:=λvs H Q _=>∃(a b c:Addr) (bk:List (List Int)) (rs:List Row) (ws:List Nat),vs=[.ref a,.ref b,.ref c]/\BD H a rs/\sk H b bk/\Bk bk/\H c=some (.lst (iV (nZ ws)))/\ws.length=rs.length/\rs.length<=64/\(∀r∈rs,r.Ok rs.length)/\(∀w∈ws,w<3)/\∀t (z:List Nat) v H',cH z->z.length<=160*rs.length->KB [] H H'->H' t=some (.tup [.str (wd z),v])->Q (.ref t) H'
def ur{r:Row}{n:Nat}(h:r.Ok n)(e:bR r=some t):t<=n:=by
 cases r with
 |jump g=>cases e;exact h
 |zero b g=>cases e;exact h.2
 |put=>cases e
 |two=>cases e
 |one=>cases e
 |halt=>cases e
def BU(w:Nat):cH (bG w):=by
 match w with
 |0=>exactλc hc=>.inl (K0.mp hc)
 |1=>exactλc hc=>by simp[bG] at hc;exact hc.symm
 |_+2=>exactλc hc=>by simp[bG] at hc;exact .inr hc
theorem sC(T:Txt K mg)(F:HasFn K mg "_law_packed" bV ["program","book","widths"])(h_law_code:ao P w K mg base aY 2 "_law_code" ["lengths"] (oA K))(h_law_plain:ao P w K mg base aY 2 "_law_plain" ["row","codes"] (uz K))(h_law_goals:ao P w K mg base aY 1 "_law_goals" ["program"] u4)(h_law_least:ao P w K mg base aY 2 "_law_least" ["sizes","goals","widths"] (pI K))(h_law_spots:ao P w K mg base aY 1 "_law_spots" ["sizes","goals","widths"] (mY K))(h_law_bits:ao P w K mg base aY 1 "_law_bits" ["number","many"] j0):ao P w K mg base aY 3 "_law_packed" ["program","book","widths"] (mw K):=by
 refine F.fq aJ (λvs H Q E h=>?_) (λf cdv A outer s H vs Q E hr h=>?_)
 ·obtain⟨a,b,c,bk,rs,ws,rfl,_⟩:=h;rfl
 ·have hu:=aU hr;obtain⟨a,b,c,bk,rs,ws,rfl,hp,hb,hB,hc,h1,h2,h3,h4,q⟩:=h;have hC:=hB.cd;have hCb:=EM bk;obtain⟨as,hb1,hb2,hb3⟩:=hb;have ebk:bk.length=3:=by obtain⟨_,_,_,e,_⟩:=hB;rw[e];rfl
  have hl:∀l∈bk,jq l/\mU l=true:=by obtain⟨_,_,_,e,_,_,_,h⟩:=hB;exact h
  refine⟨_,(Z.ai (Z.asg (Z.xU (osc:=af bV) (ON:=["program","book","widths","codes","plain","goals","sizes","spots","bits","k","span","far"]) (own:=["lengths"]) (N:=["lengths","program","book","widths","codes","plain","goals","sizes","spots","bits","k","span","far"]) (aA.of rfl (by decide +kernel)) (Z.any K rfl (Z.v 1)) (λnd _ _ _ _=>(Z.aM (i:=0) nd rfl (by right))) (λ_ _ _ _=>Z.tF) (λ_ _ _ _=>(Z.fc h_law_code (Z.cons (Z.v 0) Z.nil)))) (Z.aM (i:=3) aJ.nd rfl (by right)))
   (Z.ai (Z.sec (j:=4) aJ.nd (osc:=af bV) (ON:=["program","book","widths","codes","plain","goals","sizes","spots","bits","k","span","far"]) (own:=["row"]) (N:=["row","program","book","widths","codes","plain","goals","sizes","spots","bits","k","span","far"]) (aA.of rfl (by decide +kernel)) (Z.any K rfl (Z.v 0)) (λnd _ _ _ _=>(Z.aM (i:=0) nd rfl (by right))) (λ_ _ _ _=>Z.tF) (λ_ _ _ _=>(Z.fc h_law_plain (Z.cons (Z.v 0) (Z.cons (Z.v 4) Z.nil)))))
   (Z.ai (Z.se (i:=5) aJ.nd (Z.fc h_law_goals (Z.cons (Z.v 0) Z.nil)))
   (Z.ai (Z.sec (j:=6) aJ.nd (osc:=af bV) (ON:=["program","book","widths","codes","plain","goals","sizes","spots","bits","k","span","far"]) (own:=["text"]) (N:=["text","program","book","widths","codes","plain","goals","sizes","spots","bits","k","span","far"]) (aA.of rfl (by decide +kernel)) (Z.any K rfl (Z.v 4)) (λnd _ _ _ _=>(Z.aM (i:=0) nd rfl (by right))) (λ_ _ _ _=>Z.tF) (λ_ _ _ _=>(Z.cb (Z.bB K rfl) rfl T.b7 (by decide +kernel) (Z.cons (Z.v 0) Z.nil))))
   (Z.ai (Z.se (i:=2) aJ.nd (Z.fc h_law_least (Z.cons (Z.v 6) (Z.cons (Z.v 5) (Z.cons (Z.v 2) Z.nil)))))
   (Z.ai (Z.se (i:=7) aJ.nd (Z.fc h_law_spots (Z.cons (Z.v 6) (Z.cons (Z.v 5) (Z.cons (Z.v 2) Z.nil)))))
   (Z.ai (Z.se (i:=8) aJ.nd Z.str)
   (Z.ai (Z.dO KP rfl (Z.lH rfl T.cB (Z.cons (Z.cb (Z.bB K rfl) rfl T.b7 (by decide +kernel) (Z.cons (Z.v 0) Z.nil)) Z.nil)) (Z.aM (i:=9) aJ.nd rfl (by right)) (Z.ai (Z.se (i:=8) aJ.nd (Z.op (Z.aH K rfl) (Z.v 8) (Z.ix (Z.az K rfl hu) (Z.v 4) (Z.v 9))))
   (Z.av (Z.cS (Z.aS nk (Z.ix (Z.az K rfl hu) (Z.v 5) (Z.v 9)) Z.aI) (Z.ai (Z.se (i:=10) aJ.nd (Z.ix (Z.az K rfl hu) (Z.lst (Z.consts rfl)) (Z.ix (Z.az K rfl hu) (Z.v 2) (Z.v 9))))
   (Z.ai (Z.se (i:=11) aJ.nd (Z.op dM (Z.op cX (Z.ix (Z.az K rfl hu) (Z.v 7) (Z.ix (Z.az K rfl hu) (Z.v 5) (Z.v 9))) (Z.ix (Z.az K rfl hu) (Z.v 7) (Z.op (Z.aH K rfl) (Z.v 9) Z.int))) (Z.v 10)))
   (Z.av (Z.se (i:=8) aJ.nd (Z.op (Z.aH K rfl) (Z.op (Z.aH K rfl) (Z.v 8) (Z.ix (Z.az K rfl hu) (Z.lst (Z.consts rfl)) (Z.ix (Z.az K rfl hu) (Z.v 2) (Z.v 9)))) (Z.fc h_law_bits (Z.cons (Z.v 11) (Z.cons (Z.ix (Z.az K rfl hu) (Z.lst (Z.consts rfl)) (Z.ix (Z.az K rfl hu) (Z.v 2) (Z.v 9))) Z.nil)))))))) Z.ba))))
   (Z.av (Z.ret (Z.tup (Z.cons (Z.v 8) (Z.cons (Z.ct (Z.d4 K rfl) rfl T.cJ (by decide +kernel) (Z.cons (Z.slice (Z.wI K rfl) (Z.v 7) Z.p9 (Z.gU (Z.un cy Z.int))) Z.nil)) Z.nil))))))))))))),?_⟩
  refine ar λN hN=>?_;exists aF hb1;refine d5 (xs:=as.map V.ref) (Km (show _<=3 by rw[Ki,hb2,ebk];exact Kp 3) (by decide)) (λD i ys H'=>H D=none/\H' D=some (.lst ys)/\KB [] H H'/\∃cs:List Addr,ys=cs.map V.ref/\cs.length=i/\∀(j:Nat) (c:Addr),cs[j]?=some c->c≠D/\H' c=some (.lst (wV (wordsOf Cw.dG (bk.getD j []))))) (λD hD=>⟨hD,aa,KB.new hD,[],rfl,rfl,λj c e=>nomatch e⟩) (λD i ys H' h=>⟨h.2.1,by obtain⟨_,_,_,cs,rfl,e,_⟩:=h;rw[Ki,e]⟩) (λD i ys H' h=>bu.of (h.2.2.1 _ _ hb1 (by simp))) ?_ ?_
  ·rintro D i ys H' x R hx ⟨g0,g1,g2,cs,rfl,g4,g5⟩ kk;obtain⟨u,eu,rfl⟩:∃u,as[i]?=some u/\x=.ref u:=by
    rw[Kn] at hx;obtain⟨u,e,rfl⟩:=K8.mp hx;exact⟨u,e,rfl⟩
   have hi:i<bk.length:=by have:=(Kl.mp eu).1;lia
   have hm:bk.getD i []∈bk:=by rw[Ks,Kg hi];exact K9 hi
   nofun;refine⟨u,_,rfl,g2.n (hb3 i u eu),(hl _ hm).1,(hl _ hm).2,λc H5 c0 k5 e5=>?_⟩;have gD:=k5.n g1;have cD:c≠D:=λz=>by rw[z,g1] at c0;cases c0
   refine kk _ _ gD ⟨g0,aa,λu o e _=>by rw[ae (aq e g0)];exact k5.n (g2 _ _ e (by simp)),cs++[c],by rw[K7];rfl,by rw[Kj,g4];rfl,λj d e=>?_⟩
   rcases Lm j cs.length with hj|hj
   ·rw[KR hj] at e;obtain⟨q2,q3⟩:=g5 j d e;exact⟨q2,by rw[ae q2];exact k5.n q3⟩
   ·rw[KL hj] at e;obtain⟨hj2,rfl⟩:=Kl.mp e;have:j=i:=by simp at hj2;lia
    subst this;simp only[g4,LH,Mp];exact⟨cD,by rw[ae cD];exact e5⟩
  rintro ca ys H1 ⟨g0,g1,g2,cs,rfl,g4,g5⟩;rw[Ki,hb2,ebk] at g4;obtain⟨c0,c1,c2,rfl⟩:=qF g4;have cdl:JS H1 ca (gx bk):=by
   obtain⟨l0,l1,l2,rfl⟩:=qF ebk;exact⟨c0,c1,c2,g1,(g5 0 c0 rfl).2,(g5 1 c1 rfl).2,(g5 2 c2 rfl).2⟩
  show N _ _;subst hN;clear g5 g4 g1 hb1 hb2 hb3 hl g0 ebk;have hp1:=hp.kb g2;generalize gx bk=cd at *;refine ar λN hN=>?_;obtain⟨ps,hps,hpa⟩:=hp1;have hpl:=hpa.1;exists aF hps;refine d5 (xs:=ps.map V.ref) (Km (show _<=64 by rw[Ki];lia) (by decide)) (λD i ys H'=>H1 D=none/\H' D=some (.lst ys)/\KB [] H1 H'/\ys=hV cd (rs.take i)/\i<=rs.length) (λD hD=>⟨hD,aa,KB.new hD,rfl,K4 _⟩) (λD i ys H' h=>⟨h.2.1,by rw[h.2.2.2.1,hV,Ki,KD];have:=h.2.2.2.2;lia⟩) (λD i ys H' h=>bu.of (h.2.2.1 _ _ hps (by simp))) ?_ ?_
  ·rintro D i ys H' x R hx ⟨g0,g1,gk,rfl,hi⟩ kk;obtain⟨u,eu,rfl⟩:∃u,ps[i]?=some u/\x=.ref u:=by
    rw[Kn] at hx;obtain⟨u,e,rfl⟩:=K8.mp hx;exact⟨u,e,rfl⟩
   have hlt:i<rs.length:=by have:=(Kl.mp eu).1;lia
   have er:=Kg hlt;have et:rs.take (i+1)=rs.take i++[rs[i]]:=by rw[L6,er];rfl
   nofun;refine⟨u,ca,rs[i],rs.length,cd,rfl,gk.n (hpa.2 i u _ eu er),?_,h3 _ (K9 hlt),hC,λH5 k5=>?_⟩
   ·obtain⟨x0,x1,x2,y1,y2,y3,y4⟩:=cdl;exact⟨x0,x1,x2,gk.n y1,gk.n y2,gk.n y3,gk.n y4⟩
   ·exact kk _ _ (k5.n g1) ⟨g0,aa,λu o e _=>by rw[ae (aq e g0)];exact k5.n (gk _ _ e (by simp)),by rw[et];unfold hV;rw[K7];rfl,hlt⟩
  rintro pl ys H2 ⟨_,gp,k2,rfl,_⟩;rw[Ki,hpl,Lq] at gp;show N _ _;subst hN;have k02:=g2.trans k2;clear cdl hps hpa hpl g2 k2;refine ar λN hN=>?_;nofun;refine⟨a,rs,rfl,hp.kb k02,h2,λga H3 hga k3 gg=>?_⟩;subst hN;have k03:=k02.trans k3;have gp3:=k3.n gp;refine ar λN hN=>?_;exists au gp3;refine kK (xs:=hV cd rs) (Km (show _<=64 by rw[hV,Ki];exact h2) (by decide)) (λD i ys H'=>H3 D=none/\H' D=some (.lst ys)/\KB [] H3 H'/\ys=iV (DO cd (rs.take i))/\i<=rs.length) (λD hD=>⟨hD,aa,KB.new hD,rfl,K4 _⟩) (λD i ys H' h=>⟨h.2.1,by rw[h.2.2.2.1,bF,DO,Ki,KD];have:=h.2.2.2.2;lia⟩) (λD i ys H' h=>a_.of (h.2.2.1 _ _ gp3 (by simp))) ?_ ?_
  ·rintro D i ys H' x R hx ⟨g0,g1,gk,rfl,hi⟩ kk;have hlt:i<rs.length:=by have:=(Kl.mp hx).1;rw[hV,Ki] at this;exact this
   have er:=Kg hlt;have et:rs.take (i+1)=rs.take i++[rs[i]]:=by rw[L6,er];rfl
   have ex:x=.str (wd (cK cd rs[i])):=by
    unfold hV at hx;rw[Kn,er] at hx;exact (Option.some.inj hx).symm
   subst ex;have h136:=qd hC (h3 _ (K9 hlt));exists ay;exact⟨Km h136 (by decide),kk _ _ g1 ⟨g0,aa,λu o e _=>by rw[ae (aq e g0)];exact gk.n e,by rw[et];unfold DO iV;rw[K7,K7];rfl,hlt⟩⟩
  rintro sa ys H4 ⟨_,gsz,k4,rfl,_⟩;rw[show (hV cd rs).length=rs.length from Ki ..,Lq] at gsz;show N _ _;subst hN;have k04:=k03.trans k4;have gg4:=k4.n gg;have gp4:=k4.n gp3;have sl1:(DO cd rs).length=rs.length:=Ki ..;have gl1:(rs.map bR).length=rs.length:=Ki ..;have gb:∀t,some t∈rs.map bR->t<=(DO cd rs).length:=λt ht=>by
   obtain⟨r,hr',e⟩:=Ll.mp ht;rw[sl1];exact ur (h3 r hr') e
  clear gp gp3 gg k02 k03 k3 k4;refine ar λN hN=>?_;nofun;refine⟨sa,ga,c,DO cd rs,rs.map bR,ws,rfl,gsz,gg4,k04.n hc,by rw[gl1,sl1],by rw[h1,sl1],by rw[sl1];exact h2,gb,h4,λwa H5 w' _ k5 wl wt g5=>?_⟩
  subst hN;rw[h1] at wl;refine ar λN hN=>?_;nofun;refine⟨sa,ga,wa,DO cd rs,rs.map bR,w',rfl,k5.n gsz,k5.n gg4,g5,by rw[gl1,sl1],by rw[wl,sl1],by rw[sl1];exact h2,wt,λpa H6 sp _ k6 spl g6=>?_⟩
  subst hN;rw[sl1] at spl;have k56:=k5.trans k6;have k06:=k04.trans k56;have gp6:=k56.n gp4;have gg6:=k56.n gg4;have gw6:=k6.n g5;clear k56 gp4 gg4 g5 k5 k6 gsz k04 gb;refine ar λN hN=>?_;nofun;subst hN;refine ar λN hN=>?_;obtain⟨as2,ha2,hpa2⟩:=hp.kb k06;have hpl2:=hpa2.1;exists aF ha2,Ki,hpl2;refine⟨by lia,by lia,?_⟩
  rw[KU];refine bP (λi σ H'=>∃(x:List Nat) (o9 o10 o11:Option V),KB [] H6 H'/\cH x/\x.length<=160*i/\σ=[some (.ref a),some (.ref b),some (.ref wa),some (.ref ca),some (.ref pl),some (.ref ga),some (.ref sa),some (.ref pa),some (.str (wd x)),o9,o10,o11]) ⟨[],none,none,none,KB.refl _ _,(λc hc=>absurd hc KO),K4 _,by rw[<- ny]⟩ ?_ ?_
  ·rintro i σ H' hlt ⟨x,o9,o10,o11,hk,ex,hx,rfl⟩;rw[show (0:Int)+((i:Nat):Int)=(i:Int) from P9 _];have er:=Kg hlt;have ew:=Kg (show i<w'.length by lia)
   have lw:=wt _ (K9 (show i<w'.length by lia))
   have okr:=h3 _ (K9 hlt);generalize rs[i]'_=r at *;generalize w'[i]'_=w0 at *;have ap:bS (hV cd rs) (i:Int)=some (.str (wd (cK cd r))):=bw (by unfold hV;rw[Kn,er];rfl)
   have ag:bS ((rs.map bR).map cq) (i:Int)=some (cq (bR r)):=bw (by rw[Kn,Kn,er];rfl)
   have aw:bS (iV (nZ w')) (i:Int)=some (.int (w0:Nat)):=bw (by unfold iV nZ;rw[Mr,Kn,ew];rfl)
   have h136:=qd hC okr;have gpH:=au (hk.n gp6);have ggH:=au (hk.n gg6);unfold aO;refine ar λM hM=>?_;exists gpH,ap;rw[d7,ay,ay];refine⟨Km (show _<=20000 by lia) (by decide),?_⟩
   subst hM;dsimp only;refine lh λM hM=>?_;have fin:∀(G:Hp) (y:List Nat) (o10 o11:Option V),KB [] H6 G->cH y->y.length<=18->M [some (.ref a),some (.ref b),some (.ref wa),some (.ref ca),some (.ref pl),some (.ref ga),some (.ref sa),some (.ref pa),some (.str (wd (x++cK cd r++y))),some (.int (i:Int)),o10,o11] G:=λG y o10 o11 g1 hy hj=>by
    rw[hM];exact⟨_,_,o10,o11,g1,(ex.app (yh hCb r)).app hy,by rw[Kj,Kj];lia,rfl⟩
   clear hM;refine qO λA B hA hB=>?_;exists ggH,ag
   cases eg:bR r with
   |none =>
    rw[Ko (show ¬ ¬ cq none=V.aI from λz=>z rfl),hB];have:=fin H' [] o10 o11 hk (λc hc=>absurd hc KO) (K4 _);rw[Le] at this;exact this
   |some g =>
    rw[eg] at ag;rw[Ku (show ¬ cq (some g)=V.aI from λz=>nomatch z),hA];clear hA hB;have hg:g<=rs.length:=ur okr eg;have as1:=lY (show g<sp.length by lia)
    have as2:bS (iV sp) ((i:Int)+1)=some (.int (sp[i+1]'(by lia))):=lY (show i+1<sp.length by lia)
    generalize sp[g]'_=x1 at as1;generalize sp[i+1]'_=x2 at as2;have p1:bS [V.int 16,.int 256,.int 65536] (w0:Int)=some (.int (2^aT w0)):=by rcases oz lw with rfl|rfl|rfl<;>rfl
    have p2:=qw lw;have p3:bS [V.int 4,.int 8,.int 16] (w0:Int)=some (.int ((aT w0:Nat):Int)):=by rcases oz lw with rfl|rfl|rfl<;>rfl
    have p4:0<aT w0/\aT w0<=16/\(bG w0).length<=2:=by rcases oz lw with rfl|rfl|rfl<;>decide
    refine ar λM3 hM3=>?_;nofun;refine⟨by decide,λl1 hl1=>?_⟩
    obtain⟨k7,s7⟩:=e8 hl1 (.lst [.int 16,.int 256,.int 65536]);exists au (k7.n (hk _ _ gw6 (by simp))),aw,au s7,p1
    have hk7:=hk.trans k7;clear s7;generalize upd H' l1 _=H7 at *;rw[hM3];clear hM3 M3;refine ar λM3 hM3=>?_;have ag':bS ((rs.map bR).map cq) (i:Int)=some (.int (g:Nat)):=ag;exists au (hk7.n gg6),ag',au (hk7.n g6),as1,as2;refine⟨Int.pow_pos (by decide),?_⟩
    rw[hM3];clear hM3 M3;nofun;refine⟨by decide,λl2 hl2=>?_⟩
    obtain⟨k8,s8⟩:=e8 hl2 (.lst [.str (Str.ofString "0"),.str (Str.ofString "10"),.str (Str.ofString "11")]);exists au (k8.n (hk7 _ _ gw6 (by simp))),aw,au s8,p2
    have hk8:=hk7.trans k8;clear s8;generalize upd H7 l2 _=H8 at *;have hxl:(x++cK cd r).length<=13000:=by rw[Kj];lia
    have ll:(cT (x1-x2) (aT w0) []).length=aT w0:=by rw[eV];rfl
    rw[ay,ay];refine⟨Km (show _<=20000 by lia) (by decide),by decide,λl3 hl3=>?_⟩
    obtain⟨k9,s9⟩:=e8 hl3 (.lst [.int 4,.int 8,.int 16]);exists au (k9.n (hk8 _ _ gw6 (by simp))),aw,au s9,p3
    refine⟨_,aT w0,rfl,by lia,?_⟩
    rw[mf,d7];nofun;rw[d7,ay,ay,KN (x++cK cd r)];exact⟨Km (show _<=20000 by rw[Kj];lia) (by decide),fin _ _ _ _ (hk8.trans k9) ((BU w0).app (gO _ _ _ λc hc=>by cases hc)) (by rw[Kj,ll];lia)⟩
  ·rintro σ H' ⟨x,o9,o10,o11,hk,ex,hx,rfl⟩;show N _ _;subst hN;exists au (hk.n g6);intro q1 hq1 l2 hl2;refine⟨by decide,λt ht=>?_⟩
   exact q t x _ _ ex hx (k06.trans (hk.trans ((KB.new hq1).trans ((KB.new hl2).trans (KB.new ht))))) aa
def Fj{n:Nat}{b:Addr}{r:b6}(ha:H a=some (.tup r.vs))(hb:H b=some (.tup r.vs)):Sm H (n+1) (.ref a) (.ref b):=.inr ⟨a,b,_,_,rfl,rfl,ha,hb,rfl,λi u v h1 h2=>by
 rw[h1] at h2;cases h2;have key:(∃i,u=.int i)\/∃z,u=.str z:=by
  unfold b6.vs at h1;obtain⟨m,_,rfl⟩:=Ll.mp (Li h1)
  cases m with
  |s z=>exact .inr ⟨z,rfl⟩
  |n k=>exact .inl ⟨k,rfl⟩
 cases n with
 |zero=>exact⟨rfl,key⟩
 |succ n=>exact .inl ⟨rfl,key⟩⟩
def AS{b:Addr}{o:Nat ⊕ List b6}(ha:El H a o)(hb:El H b o):Sm H 3 (.ref a) (.ref b):=by
 cases o with
 |inl p =>
  refine .inr ⟨a,b,_,_,rfl,rfl,ha,hb,rfl,λi u v h1 h2=>?_⟩;rw[h1] at h2;cases h2;have hi:i<2:=(Kl.mp h1).1;rcases (show i=0\/i=1 by lia) with rfl|rfl
  ·cases h1;exact .inl ⟨rfl,.inr ⟨_,rfl⟩⟩
  ·cases h1;exact .inl ⟨rfl,.inl ⟨_,rfl⟩⟩
 |inr ms =>
  obtain⟨u,h1,as,h2,l1,h3⟩:=ha;obtain⟨v,g1,bs,g2,l2,g3⟩:=hb;refine .inr ⟨a,b,_,_,rfl,rfl,h1,g1,rfl,λi x y e1 e2=>?_⟩;have hi:i<2:=(Kl.mp e1).1;rcases (show i=0\/i=1 by lia) with rfl|rfl
  ·cases e1;cases e2;exact .inl ⟨rfl,.inr ⟨_,rfl⟩⟩
  ·cases e1;cases e2
   refine .inr ⟨u,v,_,_,rfl,rfl,h2,g2,by rw[Ki,Ki,l1,l2],λj x y e1 e2=>?_⟩
   rw[Kn] at e1 e2;obtain⟨c,ec,rfl⟩:=K8.mp e1;obtain⟨d,ed,rfl⟩:=K8.mp e2;have hj:j<ms.length:=by have:=(Kl.mp ec).1;lia
   have er:=Kg hj;exact Fj (h3 j c _ ec er) (g3 j d _ ed er)
def DQ(T:Txt K mg)(F:wj K "law" "law" i9 f fd)(h_law_deck:ao P w K mg base aY 1 "_law_deck" ["script"] (xK K))(h_law_book:ao P w K mg base aY 4 "_law_book" ["deck"] (yZ K))(h_law_program:ao P w K mg base aY 5 "_law_program" ["deck","most"] zq)(h_law_packed:ao P w K mg base aY 3 "_law_packed" ["program","book","widths"] (mw K))(h_law_spoilt:ao P w K mg base aY 3 "_law_spoilt" ["deck","bits"] qH)(h_law_draw:ao P w K mg base aY 2 "_law_draw" ["deck","most"] e9)(h_law_found:ao P w K mg base aY 9 "_law_found" ["bits","book"] tE)(h_law_read:ao P w K mg base aY 4 "_law_read" ["bits","book"] uq)(h_law_same:ao P w K mg base aY 5 "_law_same" ["found","due"] (rj 3)):dP P w K mg base aY 10 f fd ["script"] (pz K):=by
 refine A_ F gY (λvs H Q E h=>?_) (λcdv A outer s H vs Q E hr h=>?_)
 ·obtain⟨a,ns,rfl,_⟩:=h;rfl
 ·obtain⟨a,ns,rfl,hS,hl,q⟩:=h;have hu:=aU hr;refine⟨_,(Z.ai (Z.se (i:=1) gY.nd (Z.fc h_law_deck (Z.cons (Z.v 0) Z.nil)))
   (Z.ai (Z.dO KP rfl (Z.lH rfl T.cB (Z.cons Z.int Z.nil)) (Z.aM (i:=2) gY.nd rfl (by right)) (Z.ai (Z.se (i:=3) gY.nd (Z.fc h_law_book (Z.cons (Z.v 1) Z.nil)))
   (Z.ai (Z.se (i:=4) gY.nd (Z.fc h_law_program (Z.cons (Z.v 1) (Z.cons (Z.ix (Z.az K rfl hu) (Z.lst (Z.consts rfl)) (Z.fc h_law_draw (Z.cons (Z.v 1) (Z.cons Z.int Z.nil)))) Z.nil))))
   (Z.ai (Z.se (i:=5) gY.nd (Z.fc h_law_spoilt (Z.cons (Z.v 1) (Z.cons (Z.ix (Z.az K rfl hu) (Z.fc h_law_packed (Z.cons (Z.v 4) (Z.cons (Z.v 3) (Z.cons (Z.op bX (Z.lst (Z.cons Z.int Z.nil)) (Z.cb (Z.bB K rfl) rfl T.b7 (by decide +kernel) (Z.cons (Z.v 4) Z.nil))) Z.nil)))) Z.int) Z.nil))))
   (Z.av (Z.dO KP rfl (Z.any K rfl (Z.lst (Z.cons (Z.v 3) (Z.cons (Z.fc h_law_book (Z.cons (Z.v 1) Z.nil)) Z.nil)))) (Z.aM (i:=6) gY.nd rfl (by right)) (Z.av (Z.cS (Z.xP (Z.qK K rfl (Z.fc h_law_same (Z.cons (Z.fc h_law_found (Z.cons (Z.v 5) (Z.cons (Z.v 6) Z.nil))) (Z.cons (Z.fc h_law_read (Z.cons (Z.v 5) (Z.cons (Z.v 6) Z.nil))) Z.nil))))) (Z.av (Z.ret Z.bl)) Z.ba))))))))
   (Z.av (Z.ret Z.bl)))),?_⟩
  refine ar λN hN=>?_;nofun;refine⟨a,ns,rfl,hS,λp dq H1 D1 k1 _ _=>?_⟩;subst hN;refine ar λN hN=>?_;nofun;refine⟨by decide,by decide,?_⟩
  refine bP (n:=4) (λi σ H'=>∃s2 s3 s4 s5 s6:Option V,bC H' p dq (3000*i)/\σ=[some (.ref a),some (.ref p),s2,s3,s4,s5,s6]) ⟨none,none,none,none,none,D1,rfl⟩ ?_ ?_
  ·rintro i σ H' hi ⟨s2,s3,s4,s5,s6,hD,rfl⟩;generalize (0:Int)+((i:Nat):Int)=kI;unfold aO;refine ar λM hM=>?_;nofun;refine⟨p,dq,_,rfl,hD,by lia,λbk b H2 D2 k2 hb hBk=>?_⟩
   subst hM;refine ar λM' hM'=>?_;nofun;refine⟨by decide,λl hl=>?_⟩
   obtain⟨k3,s3'⟩:=e8 hl (.lst [.int 6,.int 6,.int 6,.int 40]);generalize upd H2 l _=H3 at *;have nl:=D2.new hl;refine⟨p,dq,4,_,rfl,D2.kb k3,by lia,by decide,by decide,λv1 H4 hv1 D4 k4=>?_⟩
   obtain⟨m,hm,em⟩:∃m:Nat,m<=40/\bS [V.int 6,.int 6,.int 6,.int 40] (v1:Int)=some (.int (m:Nat)):=by
    rcases (show v1=0\/v1=1\/v1=2\/v1=3 by lia) with rfl|rfl|rfl|rfl
    ·exact⟨6,by decide,rfl⟩
    ·exact⟨6,by decide,rfl⟩
    ·exact⟨6,by decide,rfl⟩
    ·exact⟨40,by decide,rfl⟩
   exists au (k4 _ _ s3' nl),em;have hb4:=(hb.kb k3).keep k4 (D2.kb k3).nt;refine⟨p,dq,m,_,rfl,D4,by lia,by lia,λrs pa H5 hrl hro hpr D5 k5=>?_⟩
   have hb5:=hb4.keep k5 D4.nt;clear k2 k3 k4 k5 s3' nl hl hb hb4 D2 D4 em;rw[hM'];clear hM' M';have hpr5:=hpr;obtain⟨as,ha,hpl,_⟩:=hpr;refine ar λM hM=>?_;exists aF ha,Ki,hpl;refine⟨by decide,λz1 hz1=>?_⟩
   obtain⟨k2,s2⟩:=e8 hz1 (.lst [.int 0]);have ha2:=k2.n ha;generalize upd H5 z1 _=H6 at *;exists aF ha2,Ki,hpl;refine⟨z1,_,_,rfl,rfl,s2,by lia,by lia,Km (show _<=60 by simp;lia) (by decide),λza hza=>?_⟩
   have er:(List.replicate rs.length [V.int 0]).flatten=iV (nZ (List.replicate rs.length 0)):=by
    generalize rs.length=n;unfold iV nZ
    induction n with
    |zero=>rfl
    |succ n ih=>rw[Lc,LU,ih];rfl
   rw[KU,er];obtain⟨k3,s3⟩:=e8 hza (.lst (iV (nZ (List.replicate rs.length 0))));generalize upd H6 za _=H7 at *;have k57:=k2.trans k3;have w3:∀w∈List.replicate rs.length 0,w<3:=λw hw=>by rw[(L9.mp hw).2];decide
   refine⟨pa,b,za,bk,rs,List.replicate rs.length 0,rfl,hpr5.kb k57,hb5.kb k57,hBk,s3,K6 ..,by lia,hro,w3,λt z v H8 zb zl k8 g1=>?_⟩
   have k58:=k57.trans k8;have hb8:=hb5.kb k58;have D8:=D5.kb k58;exists aF g1,Ge;refine⟨p,dq,z,_,rfl,D8,by lia,zb,by lia,λy H9 hy hyl D9 k9=>?_⟩
   have hb9:=hb8.keep k9 D8.nt;subst hM;clear k2 k3 k57 k58 k8 k9 s2 s3 g1 hb5 hb8 D5 D8 ha ha2 hpl hpr5 er zb zl w3 hro;dsimp only;refine lh λM hM=>?_;nofun;refine⟨p,dq,_,rfl,D9,by lia,λbk2 b2 H10 D10 k10 hb2 hB2=>?_⟩
   have hb10:=hb9.keep k10 D9.nt;refine⟨by decide,λl hl=>?_⟩
   obtain⟨k11,s11⟩:=e8 hl (.lst [.ref b,.ref b2]);generalize upd H10 l _=H11 at *;have D11:=D10.kb k11;have bks:∀(j:Nat) (v:V),[V.ref b,.ref b2][j]?=some v->∃(c:Addr) (bc:List (List Int)),v=.ref c/\sk H11 c bc/\Bk bc:=λj v e=>by
    have hj:j<2:=(Kl.mp e).1;rcases (show j=0\/j=1 by lia) with rfl|rfl
    ·cases e;exact⟨_,_,rfl,hb10.kb k11,hBk⟩
    ·cases e;exact⟨_,_,rfl,hb2.kb k11,hB2⟩
   try simp only[au s11]
   refine gn (xs:=[V.ref b,.ref b2]) (λj σ G=>∃s7:Option V,KB [] H11 G/\σ=[some (.ref a),some (.ref p),some (.int kI),some (.ref b),some (.ref pa),some (.str (wd y)),s7]) ⟨_,KB.refl _ _,rfl⟩ (λj σ G _ h=>by obtain⟨_,k,_⟩:=h;exact a_.of (k.n s11)) ?_ ?_
   ·rintro j v σ G hv ⟨s7,kG,rfl⟩;obtain⟨c,bc,rfl,hbc,hBc⟩:=bks j v hv;refine lh λM2 hM2=>?_;refine qO λA B hA hB=>?_;nofun;refine⟨c,bc,y,rfl,hbc.kb kG,hBc,hy,by lia,λt1 G1 kG1 o1=>?_⟩
    refine⟨c,bc,y,rfl,hbc.kb (kG.trans kG1),hBc,hy,by lia,λt2 G2 kG2 o2=>?_⟩
    refine⟨_,_,rfl,AS (o1.kb kG2) o2,λG3 kG3=>?_⟩;exists Bool.not_true;rw[Ko (by simp),hB]
    show M2 _ _;rw[hM2];exact⟨some _,kG.trans (kG1.trans (kG2.trans kG3)),rfl⟩
   ·rintro σ G ⟨s7,kG,rfl⟩;show M _ _;rw[hM];exact⟨some _,some _,some _,some _,s7,(D11.kb kG).mono (by lia),rfl⟩
  ·rintro σ H' ⟨s2,s3,s4,s5,s6,_,rfl⟩;show N _ _;subst hN;nofun;exact q _
def Gh(T:Txt K mg)(f_read_rows:HasFn K mg "read_rows" cE ["bits","book"])(f_goal_numbered:HasFn K mg "goal_numbered" cC ["row","start","numbers"])(hc:ao P w K mg base aY 6 "codes_of" ["book"] (nS K))(hr:ao P w K mg base aY 5 "row_at" ["codes","bits","place"] (nR K))(go:ao P w K mg base aY 1 "goal_of" ["row"] nV)(wg:ao P w K mg base aY 1 "with_goal" ["row","goal"] so):FD K mg P w base:=by
 obtain⟨C_ShortError,C_NoBits,C_NoAsk,C_NoCode,C_NoProgram,C_NoReach,C_NoRow,hC_ShortError,hC_NoBits,hC_NoAsk,hC_NoCode,hC_NoProgram,hC_NoReach,hC_NoRow,kC_ShortError,xC_NoBits,p0,p1,p2,p3,p4,fI,fdI,xI_NoBits,FI,bI_NoBits,hd⟩:=T.xs;intro N hN;obtain rfl:C_NoBits=N:=by rw[hC_NoBits] at hN;cases hN;rfl
 have nI:=Ca (P:=P) (w:=w) (base:=base) xI_NoBits FI hC_ShortError;exact xw T hC_NoBits xI_NoBits nI bI_NoBits f_read_rows hc hr (BO T hC_NoBits xI_NoBits nI bI_NoBits f_goal_numbered go wg)
local macro_rules | `(tactic| walk_at "b1") => `(tactic| (intro _ _ _ _ _ _ us hl; obtain ⟨_, e⟩ := L2.Y.Dt hl; subst e; rfl))
def eQ{x:Str}{st:Stmt}{ps:List Str}{oc:Value}{od an:Option Addr}{osl:Array (Option Value)}{kV doc pm cdv ct:Value}(X:K.In h)(G:h.Ns mainGlobals mg)(a:W.nsIn K mainGlobals x=some (some (.ref f)))
  (l:K.lookup f=some ⟨oc,od,.func (W.fnOf x x (dj st) (bA st) (af st) .none kV doc pm an cdv ct),osl⟩) (c:W.codeIn K cdv x=true) (k:W.keepIn K (.ref f)=true)
  (hb:∀(kV doc pm:Value) (an:Option Addr) (cdv ct:Value) (us:List Value),us.length=ps.length->bindArgs (W.fnOf x x (dj st) (bA st) (af st) .none kV doc pm an cdv ct) ⟨us,[]⟩=pure (ps.zip us)):HasFn K mg x st ps:=
 ⟨f,_,kj l c k,(kj l c k).binds hb,Mj X G a⟩
set_option autoImplicit true in
def all_mk{l:W.OpenLaw}{w:World}{fa:Addr}(X:K.In h)(G:h.Ns mainGlobals mg)(hfa:mg "law"=some (.ref fa))
  (F0:HasFn K mg "can_be" j_ ["lengths"])
  (a1:W.nsIn K mainGlobals "code_of"=some (some (.ref f1))) (l1:K.lookup f1=some ⟨oc1,od1,.func (W.fnOf "code_of" "code_of" (dj c_) (bA c_) (af c_) .none kV1 dc1 pm1 an1 cd1 ct1),sl1⟩) (c1:W.codeIn K cd1 "code_of"=true) (k1:W.keepIn K (.ref f1)=true)
  (F2:HasFn K mg "word_behind" d_ ["ahead","length"])
  (F3:HasFn K mg "thing_at" gQ ["code","bits","place"])
  (F4:HasFn K mg "goal_of" iS ["row"])
  (F5:HasFn K mg "with_goal" fM ["row","goal"])
  (F6:HasFn K mg "codes_of" fe ["book"])
  (F7:HasFn K mg "read_rows" cE ["bits","book"])
  (F8:HasFn K mg "goal_numbered" cC ["row","start","numbers"])
  (F9:HasFn K mg "row_at" jF ["codes","bits","place"])
  (F10:HasFn K mg "coded_at" gS ["code","bits","place"])
  (F11:HasFn K mg "part_at" iM ["kind","codes","bits","place"])
  (F12:HasFn K mg "number_at" fF ["code","bits","place"])
  (F13:HasFn K mg "goal_at" iP ["bits","place"])
  (F14:HasFn K mg "_law_deck" dX ["script"])
  (F15:HasFn K mg "_law_mix" gN ["number","turn"])
  (F16:HasFn K mg "_law_draw" fK ["deck","most"])
  (F17:HasFn K mg "_law_words" e_ [])
  (F18:HasFn K mg "_law_bits" fW ["number","many"])
  (F19:HasFn K mg "_law_code" dY ["lengths"])
  (F20:HasFn K mg "_law_lengths" dJ ["deck","many"])
  (F21:HasFn K mg "_law_book" dR ["deck"])
  (F22:HasFn K mg "_law_number" ee ["deck"])
  (F23:HasFn K mg "_law_row" gP ["deck","goals"])
  (F24:HasFn K mg "_law_program" cM ["deck","most"])
  (F25:HasFn K mg "_law_goals" d3 ["program"])
  (F26:HasFn K mg "_law_plain" fu ["row","codes"])
  (F27:HasFn K mg "_law_spots" eY ["sizes","goals","widths"])
  (F28:HasFn K mg "_law_least" fk ["sizes","goals","widths"])
  (F29:HasFn K mg "_law_packed" bV ["program","book","widths"])
  (F30:HasFn K mg "_law_tables" eE ["book"])
  (F31:HasFn K mg "_law_thing_at" dy ["table","bits","at"])
  (F32:HasFn K mg "_law_value" ff ["text"])
  (F33:HasFn K mg "_law_way_at" eB ["bits","at"])
  (F34:HasFn K mg "_law_number_at" cZ ["table","bits","at"])
  (F35:HasFn K mg "_law_row_at" e7 ["tables","bits","at"])
  (F36:HasFn K mg "_law_read" fU ["bits","book"])
  (F37:HasFn K mg "_law_same" dn ["found","due"])
  (F38:HasFn K mg "_law_found" fm ["bits","book"])
  (F39:HasFn K mg "_law_place" eZ ["bits","book"])
  (F40:HasFn K mg "_law_spoilt" cz ["deck","bits"])
  (a41:W.nsIn K mainGlobals "law"=some (some (.ref f41))) (l41:K.lookup f41=some ⟨oc41,od41,.func (W.fnOf "law" "law" (dj i9) (bA i9) (af i9) .none kV41 dc41 pm41 an41 cd41 ct41),sl41⟩) (c41:W.codeIn K cd41 "law"=true) (k41:W.keepIn K (.ref f41)=true)
  (z0:W.nsIn K mainGlobals "ValueError"=some none)
  (z1:W.nsIn K mainGlobals "abs"=some none)
  (z2:W.nsIn K mainGlobals "bool"=some none)
  (z3:W.nsIn K mainGlobals "dict"=some none)
  (z4:W.nsIn K mainGlobals "enumerate"=some none)
  (z5:W.nsIn K mainGlobals "int"=some none)
  (z6:W.nsIn K mainGlobals "isinstance"=some none)
  (z7:W.nsIn K mainGlobals "len"=some none)
  (z8:W.nsIn K mainGlobals "list"=some none)
  (z9:W.nsIn K mainGlobals "min"=some none)
  (z10:W.nsIn K mainGlobals "range"=some none)
  (z11:W.nsIn K mainGlobals "sorted"=some none)
  (z12:W.nsIn K mainGlobals "str"=some none)
  (z13:W.nsIn K mainGlobals "sum"=some none)
  (z14:W.nsIn K mainGlobals "tuple"=some none)
  (z15:W.nsIn K mainGlobals "zip"=some none)
  (g0:W.nsIn K mainGlobals "BOXES"=some (some (.ref q0))) (m0:K.lookup q0=some ⟨.type "tuple",qd0,.seq #[.str "a" w0_0,.str "b" w0_1,.str "c" w0_2,.str "d" w0_3,.str "e" w0_4,.str "f" w0_5,.str "g" w0_6,.str "h" w0_7] qn0,qs0⟩)
  (g1:W.nsIn K mainGlobals "HALVES"=some (some (.ref q1))) (m1:K.lookup q1=some ⟨.type "tuple",qd1,.seq #[.int 8 w1_0,.int 128 w1_1,.int 32768 w1_2] qn1,qs1⟩)
  (g2:W.nsIn K mainGlobals "HEADS"=some (some (.ref q2))) (m2:K.lookup q2=some ⟨.type "tuple",qd2,.seq #[.str "0" w2_0,.str "10" w2_1,.str "11" w2_2] qn2,qs2⟩)
  (g3:W.nsIn K mainGlobals "OF_BOXES"=some (some (.int 2 w3_0)))
  (g4:W.nsIn K mainGlobals "OF_CLASSES"=some (some (.int 1 w4_0)))
  (g5:W.nsIn K mainGlobals "OF_WORDS"=some (some (.int 0 w5_0)))
  (g6:W.nsIn K mainGlobals "WIDTHS"=some (some (.ref q6))) (m6:K.lookup q6=some ⟨.type "tuple",qd6,.seq #[.int 4 w6_0,.int 8 w6_1,.int 16 w6_2] qn6,qs6⟩)
  (dg0:W.nsIn K mainGlobals "SHAPES"=some (some (.ref dd0))) (dz0:(dd0 == sysModules)=false) (dl0:K.lookup dd0=some ⟨.type "dict",none,.dict #[⟨dh0_0,.str "put" dt0_0,.ref dp0_0⟩,⟨dh0_1,.str "add" dt0_1,.ref dp0_1⟩,⟨dh0_2,.str "sub" dt0_2,.ref dp0_2⟩,⟨dh0_3,.str "copy" dt0_3,.ref dp0_3⟩,⟨dh0_4,.str "tell" dt0_4,.ref dp0_4⟩,⟨dh0_5,.str "hear" dt0_5,.ref dp0_5⟩,⟨dh0_6,.str "jump" dt0_6,.ref dp0_6⟩,⟨dh0_7,.str "zero" dt0_7,.ref dp0_7⟩,⟨dh0_8,.str "halt" dt0_8,.ref dp0_8⟩] dh0_ep,#[]⟩)
  (dm0_0:K.lookup dp0_0=some ⟨.type "tuple",do0_0,.seq #[.str "box" dw0_0_0,.str "number" dw0_0_1] dn0_0,ds0_0⟩)
  (dm0_1:K.lookup dp0_1=some ⟨.type "tuple",do0_1,.seq #[.str "box" dw0_1_0,.str "box" dw0_1_1] dn0_1,ds0_1⟩)
  (dm0_2:K.lookup dp0_2=some ⟨.type "tuple",do0_2,.seq #[.str "box" dw0_2_0,.str "box" dw0_2_1] dn0_2,ds0_2⟩)
  (dm0_3:K.lookup dp0_3=some ⟨.type "tuple",do0_3,.seq #[.str "box" dw0_3_0,.str "box" dw0_3_1] dn0_3,ds0_3⟩)
  (dm0_4:K.lookup dp0_4=some ⟨.type "tuple",do0_4,.seq #[.str "box" dw0_4_0] dn0_4,ds0_4⟩)
  (dm0_5:K.lookup dp0_5=some ⟨.type "tuple",do0_5,.seq #[.str "box" dw0_5_0] dn0_5,ds0_5⟩)
  (dm0_6:K.lookup dp0_6=some ⟨.type "tuple",do0_6,.seq #[.str "goal" dw0_6_0] dn0_6,ds0_6⟩)
  (dm0_7:K.lookup dp0_7=some ⟨.type "tuple",do0_7,.seq #[.str "box" dw0_7_0,.str "goal" dw0_7_1] dn0_7,ds0_7⟩)
  (dm0_8:K.lookup dp0_8=some ⟨.type "tuple",do0_8,.seq #[] dn0_8,ds0_8⟩)
  (xf0:W.nsIn K mainGlobals "ShortError"=some (some (.ref xd_ShortError)))
  (xf1:W.nsIn K mainGlobals "NoBits"=some (some (.ref xd_NoBits)))
  (xf2:W.nsIn K mainGlobals "NoAsk"=some (some (.ref xd_NoAsk)))
  (xf3:W.nsIn K mainGlobals "NoCode"=some (some (.ref xd_NoCode)))
  (xf4:W.nsIn K mainGlobals "NoProgram"=some (some (.ref xd_NoProgram)))
  (xf5:W.nsIn K mainGlobals "NoReach"=some (some (.ref xd_NoReach)))
  (xf6:W.nsIn K mainGlobals "NoRow"=some (some (.ref xd_NoRow)))
  (xf7:W.excIn K xd_ShortError [.type "ValueError",.type "Exception",.type "BaseException",.type "object"] "ValueError.__new__"=true)
  (xf8:W.findIn K (.ref xd_NoBits) "__getattribute__"=some (some (.builtin "BaseException.__getattribute__")))
  (xf9:W.findIn K (.ref xd_NoBits) "__getattr__"=some none)
  (xf10:W.findIn K (.ref xd_NoBits) "__class__"=some (some (.builtin "object.__class__")))
  (xf11:W.specialIn K (.builtin "object.__class__") "__get__"=some (some (.builtin "getset_descriptor.__get__")))
  (xf12:W.takesIn K (.builtin "object.__class__")=some true)
  (xf13:W.mroIn K xd_NoBits (.type "object")=some true)
  (xf14:W.mroIn K xd_NoBits (.type "BaseException")=some true)
  (xf15:W.mroIn K xd_NoBits (.ref xd_ShortError)=some true)
  (xf16:W.mroIn K xd_NoBits (.ref xd_NoBits)=some true)
  (xf17:W.kitOne K (.ref xd_NoBits) (.ref xd_NoBits)=some true)
  (xf18:W.kitOne K (.ref xd_NoBits) (.type "ValueError")=some true)
  (xf19:W.kitAny K (.ref xd_NoBits) [(.ref xd_NoAsk),(.ref xd_NoCode),(.ref xd_NoProgram),(.ref xd_NoReach),(.ref xd_NoRow)]=some false)
  (xf20:K.lookup xd_NoBits=some (excClassObj iq_nm iq_qn xd_NoBits iq_N iq_bs (.ref xd_ShortError::uC) true iq_sn iq_sub iq_ab iq_col iq_dd iq_k0 iq_k1 iq_k2 iq_k3 iq_k5 "ValueError.__new__"))
  (xf21:W.findIn K (.ref xd_NoBits) "__init__"=some (some (.ref iq_f)))
  (xf22:W.typeIn K (.ref iq_f)=some (.type "function"))
  (xf23:W.findIn K (.ref xd_NoBits) "__setattr__"=some (some (.builtin "object.__setattr__")))
  (xf24:W.findIn K (.ref xd_NoBits) "place"=some none)
  (xf25:W.keepIn K (.ref xd_NoBits)=true)
  (xf26:W.findCls K (.ref xd_ShortError) (.type "type") "__init__"=some (.val (.builtin "ValueError.__init__")))
  (xf27:W.readsIn K xd_ShortError (.type "type")=true)
  (xf28:W.specialIn K (.ref xd_ShortError) "__getattribute__"=some (some (.builtin "type.__getattribute__")))
  (xf29:K.lookup iq_f=some ⟨iq_oc,iq_od,.func (W.fnOf "__init__" "NoBits.__init__" (dj aR) (bA aR) (af aR) .none iq_kV iq_dc iq_pm iq_an iq_cd iq_ct),iq_sl⟩)
  (xf30:W.codeIn K iq_cd "NoBits.__init__"=true)
  (xf31:W.keepIn K (.ref iq_f)=true)
  (xf32:W.hasDictIn K xd_NoBits=true)
  (le_code_of:cd1=.ref lc_code_of) (lk_code_of:K.lookup lc_code_of=some ⟨lO_code_of,lD_code_of,.fields lv_code_of,lS_code_of⟩) (lw_code_of:lv_code_of[11]?=some (.ref lp_code_of))
  : ∃fd:FuncData,(∀(s:Shared) (v:Value),BindsTo s fd ⟨[v],[]⟩ [("script",v)])/\∀base:Heap,K.In base->base.Ns mainGlobals mg->dP l.prog w K mg base aY 30 fa fd ["script"] (pz K):=by
 have e:=hfa.symm.trans (Mj X G a41);cases e
 have T:Txt K mg:=⟨Lv X G z0,Lv X G z1,Lv X G z2,Lv X G z3,Lv X G z4,Lv X G z5,Lv X G z6,Lv X G z7,Lv X G z8,Lv X G z9,Lv X G z10,Lv X G z11,Lv X G z12,Lv X G z13,Lv X G z14,Lv X G z15,⟨q0,Mj X G g0,λH=>.inr ⟨_,_,_,m0,rfl,rfl,(by show 8<=sizeLine;decide),(.cons ⟨w0_0,rfl⟩ (.cons ⟨w0_1,rfl⟩ (.cons ⟨w0_2,rfl⟩ (.cons ⟨w0_3,rfl⟩ (.cons ⟨w0_4,rfl⟩ (.cons ⟨w0_5,rfl⟩ (.cons ⟨w0_6,rfl⟩ (.cons ⟨w0_7,rfl⟩ .nil))))))))⟩⟩,⟨q1,Mj X G g1,λH=>.inr ⟨_,_,_,m1,rfl,rfl,(by show 3<=sizeLine;decide),(.cons ⟨w1_0,rfl⟩ (.cons ⟨w1_1,rfl⟩ (.cons ⟨w1_2,rfl⟩ .nil)))⟩⟩,⟨q2,Mj X G g2,λH=>.inr ⟨_,_,_,m2,rfl,rfl,(by show 3<=sizeLine;decide),(.cons ⟨w2_0,rfl⟩ (.cons ⟨w2_1,rfl⟩ (.cons ⟨w2_2,rfl⟩ .nil)))⟩⟩,⟨_,Mj X G g3,⟨_,rfl⟩⟩,⟨_,Mj X G g4,⟨_,rfl⟩⟩,⟨_,Mj X G g5,⟨_,rfl⟩⟩,⟨q6,Mj X G g6,λH=>.inr ⟨_,_,_,m6,rfl,rfl,(by show 3<=sizeLine;decide),(.cons ⟨w6_0,rfl⟩ (.cons ⟨w6_1,rfl⟩ (.cons ⟨w6_2,rfl⟩ .nil)))⟩⟩,⟨dd0,Mj X G dg0,dz0,_,_,_,dl0,⟨rfl,rfl,rfl⟩,rfl,(.cons rfl ⟨dp0_0,rfl,⟨_,_,_,dm0_0,rfl,rfl,(by show 2<=sizeLine;decide),(.cons ⟨dw0_0_0,rfl⟩ (.cons ⟨dw0_0_1,rfl⟩ .nil))⟩⟩ (.cons rfl ⟨dp0_1,rfl,⟨_,_,_,dm0_1,rfl,rfl,(by show 2<=sizeLine;decide),(.cons ⟨dw0_1_0,rfl⟩ (.cons ⟨dw0_1_1,rfl⟩ .nil))⟩⟩ (.cons rfl ⟨dp0_2,rfl,⟨_,_,_,dm0_2,rfl,rfl,(by show 2<=sizeLine;decide),(.cons ⟨dw0_2_0,rfl⟩ (.cons ⟨dw0_2_1,rfl⟩ .nil))⟩⟩ (.cons rfl ⟨dp0_3,rfl,⟨_,_,_,dm0_3,rfl,rfl,(by show 2<=sizeLine;decide),(.cons ⟨dw0_3_0,rfl⟩ (.cons ⟨dw0_3_1,rfl⟩ .nil))⟩⟩ (.cons rfl ⟨dp0_4,rfl,⟨_,_,_,dm0_4,rfl,rfl,(by show 1<=sizeLine;decide),(.cons ⟨dw0_4_0,rfl⟩ .nil)⟩⟩ (.cons rfl ⟨dp0_5,rfl,⟨_,_,_,dm0_5,rfl,rfl,(by show 1<=sizeLine;decide),(.cons ⟨dw0_5_0,rfl⟩ .nil)⟩⟩ (.cons rfl ⟨dp0_6,rfl,⟨_,_,_,dm0_6,rfl,rfl,(by show 1<=sizeLine;decide),(.cons ⟨dw0_6_0,rfl⟩ .nil)⟩⟩ (.cons rfl ⟨dp0_7,rfl,⟨_,_,_,dm0_7,rfl,rfl,(by show 2<=sizeLine;decide),(.cons ⟨dw0_7_0,rfl⟩ (.cons ⟨dw0_7_1,rfl⟩ .nil))⟩⟩ (.cons rfl ⟨dp0_8,rfl,⟨_,_,_,dm0_8,rfl,rfl,(by show 0<=sizeLine;decide),.nil⟩⟩ .nil)))))))))⟩,⟨_,_,_,_,_,_,_,Mj X G xf0,Mj X G xf1,Mj X G xf2,Mj X G xf3,Mj X G xf4,Mj X G xf5,Mj X G xf6,⟨xf7⟩,⟨xf8,xf9,xf10,xf11,xf12,xf13,xf14⟩,xf15,xf16,xf17,xf18,xf19,⟨_,_,⟨⟨_,_,_,_,_,_,_,_,_,_,_,_,_,_,xf20⟩,⟨xf7⟩,⟨xf8,xf9,xf10,xf11,xf12,xf13,xf14⟩,xf21,xf22,xf23,xf24,xf25,xf26,xf27,xf28⟩,kj (st:=aR) xf29 xf30 xf31,(kj (st:=aR) xf29 xf30 xf31).binds (ps:=["self","place"]) (λ_ _ _ _ _ _ us hl=>by obtain⟨_,_,rfl⟩:=Y.FT hl;rfl),xf32⟩⟩,sZ.mk' X G (pK a1 l1 le_code_of lk_code_of lw_code_of)⟩
 have F1:HasFn K mg "code_of" c_ ["lengths"]:=eQ X G a1 l1 c1 k1 (by walk_at "b1")
 refine⟨W.fnOf "law" "law" (dj i9) (bA i9) (af i9) .none kV41 dc41 pm41 an41 cd41 ct41,λs v=>.of_eq rfl,λbase _ _=>(show dP l.prog w K mg base aY 10 _ _ ["script"] (pz K) from ?_).mono (by decide)⟩
 have dr:=Az (P:=l.prog) (w:=w) (base:=base) T F16 (Eh F15);have lb:=xh (P:=l.prog) (w:=w) (base:=base) T F18;have ca:=zO (P:=l.prog) (w:=w) (base:=base) T F10 (xf T F3);have lc:=zr (P:=l.prog) (w:=w) (base:=base) T F19 lb;have wo:=vE (P:=l.prog) (w:=w) (base:=base) F17;have va:=yg (P:=l.prog) (w:=w) (base:=base) T F32;have lt:=vj (P:=l.prog) (w:=w) (base:=base) T F31;have co:=Bt (P:=l.prog) (w:=w) (base:=base) T F1 (Ex T F0) (vY T F2);have go:=wH (P:=l.prog) (w:=w) (base:=base) T F4;have ra:=zd T F9 ca (vg T F11 ca (xO T F12 ca) (vy T F13 ca));have wg:=AM (P:=l.prog) (w:=w) (base:=base) T F5;have rx:=Gh (P:=l.prog) (w:=w) (base:=base) T F7 F8 (xn T F6 co) ra go wg;have sp:=xQ (P:=l.prog) (w:=w) (base:=base) T F27;have lp:=sC T F29 lc (wN T F26 wo lb) (y0 T F25) (vN T F28 sp) sp lb;have lr:=FL (P:=l.prog) (w:=w) (base:=base) T F23 dr (wb T F22 dr);exact DQ T (kj (st:=i9) l41 c41 k41) (AB T F14) (B4 T F21 dr (wL T F20 dr)) (Ao T F24 dr lr) lp (vX T F40 dr) dr (zp T F38 rx (u9 T F39 rx)) (xp T F36 (vP T F30 lc) (Bg T F35 lt (Bf T F34 lt va) (Bn T F33 va) wo)) (AE T F37)
def walk{l:W.OpenLaw}{loose:List Str}{XP:(Str->Option Value)->Heap->Prop}{YP:World->Heap->Prop}{d:DefRec}{K:Params->W.Frag}(hn:l.most=some 63)(hdf:d.params.defaults=[])
  (hY:∀(w:World) (h:Heap),YP w h->(K w.params).In h)
  (F:∀(w:World) (mg:Str->Option Value) (fa:Addr) (h:Heap),(K w.params).In h->h.Ns mainGlobals mg->mg d.name=some (.ref fa)->∃fd:FuncData,(∀(s:Shared) (u:Value),BindsTo s fd ⟨[u],[]⟩ [("script",u)])/\∀base:Heap,(K w.params).In base->base.Ns mainGlobals mg->dP l.prog w (K w.params) mg base aY 30 fa fd ["script"] (pz (K w.params))) (hL:∀(w:World) (h:Heap),(K w.params).In h->i6 q (K w.params)) :
  W.WalkO q loose XP YP l.row.toRowW d [] (λf vs=>PySem.call f vs):=
 L2.BB (n:=63) (k:=30) (x:="script") (CX:=λ_=>aY) (sp:=λw=>pz (K w.params)) hn (by decide) hdf ⟨rfl,by decide,by decide,rfl⟩ hY F (λ_ _ a ns hl _ hS=>⟨a,ns,rfl,hS,hl,λ_=>rfl⟩) (λ_ _ _ _ _ z=>z) hL
def DN(_:K.In h){la_code_of lc_code_of lp_code_of:Addr}{lo_code_of lO_code_of:Value}{ld_code_of lD_code_of:Option Addr}{lfd_code_of:FuncData}{lv_code_of:Array Value}{ls_code_of lS_code_of:Array (Option Value)}(nt:W.noTabs K=true)
  (ma_by_worth:W.nsIn K mainGlobals "by_worth"=some none)
  (ma_by_weight:W.nsIn K mainGlobals "by_weight"=some none)
  (ma_code_of:W.nsIn K mainGlobals "code_of"=some (some (.ref la_code_of))) (ml_code_of:K.lookup la_code_of=some ⟨lo_code_of,ld_code_of,.func lfd_code_of,ls_code_of⟩) (mc_code_of:lfd_code_of.code=.ref lc_code_of) (mk_code_of:K.lookup lc_code_of=some ⟨lO_code_of,lD_code_of,.fields lv_code_of,lS_code_of⟩) (mw_code_of:lv_code_of[11]?=some (.ref lp_code_of)) (mr_code_of:((recsOf q).find? (λe=>e.name ==("code_of":Str))).isSome=true)
  : i6 q K:=i6.of nt (jP ma_by_worth) (jP ma_by_weight) (pK ma_code_of ml_code_of mc_code_of mk_code_of mw_code_of) (by first|exact mn|simp) (.inl rfl) (.inl rfl) (.inr mr_code_of)
end
end G
open PySem PySem.W PyProof.Rows
local macro_rules | `(tactic| walk_at "b0") => `(tactic| (intro _ _ _ _ _ _ us hl; match us, hl with | [], _ => rfl))
local macro_rules | `(tactic| walk_at "b1") => `(tactic| (intro _ _ _ _ _ _ us hl; obtain ⟨_, e⟩ := L2.Y.Dt hl; subst e; rfl))
local macro_rules | `(tactic| walk_at "b2") => `(tactic| (intro _ _ _ _ _ _ us hl; obtain ⟨_, _, e⟩ := L2.Y.FT hl; subst e; rfl))
local macro_rules | `(tactic| walk_at "b3") => `(tactic| (intro _ _ _ _ _ _ us hl; obtain ⟨_, _, _, e⟩ := L2.Y.qF hl; subst e; rfl))
local macro_rules | `(tactic| walk_at "b4") => `(tactic| (intro _ _ _ _ _ _ us hl; obtain ⟨_, _, _, _, e⟩ := L2.Y.Ju hl; subst e; rfl))
set_option maxRecDepth 100000 in
set_option maxHeartbeats 0 in
theorem PySem.Challenge.cw_shortrows_k31_bits_spoilt_holds : PySem.Challenge.rw_shortrows_k31_bits_spoilt.Holds := by
 w_on;o_law;k_head;(case hw=>w_witness2)
 k_fill
 refine G.walk (l:=PySem.Challenge.rw_shortrows_k31_bits_spoilt) rfl rfl (λw h Y=>by first|exact W.kIn_of Y|exact W.km_in_of Y) ?F ?L
 case F =>
  intro w mg fa h KX GN hmg
  refine' G.all_mk KX GN hmg (G.eQ KX GN ?a0 ?l0 ?c0 ?k0 (by walk_at "b1")) ?a1 ?l1 ?c1 ?k1 (G.eQ KX GN ?a2 ?l2 ?c2 ?k2 (by walk_at "b2")) (G.eQ KX GN ?a3 ?l3 ?c3 ?k3 (by walk_at "b3")) (G.eQ KX GN ?a4 ?l4 ?c4 ?k4 (by walk_at "b1")) (G.eQ KX GN ?a5 ?l5 ?c5 ?k5 (by walk_at "b2")) (G.eQ KX GN ?a6 ?l6 ?c6 ?k6 (by walk_at "b1")) (G.eQ KX GN ?a7 ?l7 ?c7 ?k7 (by walk_at "b2")) (G.eQ KX GN ?a8 ?l8 ?c8 ?k8 (by walk_at "b3")) (G.eQ KX GN ?a9 ?l9 ?c9 ?k9 (by walk_at "b3")) (G.eQ KX GN ?a10 ?l10 ?c10 ?k10 (by walk_at "b3")) (G.eQ KX GN ?a11 ?l11 ?c11 ?k11 (by walk_at "b4")) (G.eQ KX GN ?a12 ?l12 ?c12 ?k12 (by walk_at "b3")) (G.eQ KX GN ?a13 ?l13 ?c13 ?k13 (by walk_at "b2")) (G.eQ KX GN ?a14 ?l14 ?c14 ?k14 (by walk_at "b1")) (G.eQ KX GN ?a15 ?l15 ?c15 ?k15 (by walk_at "b2")) (G.eQ KX GN ?a16 ?l16 ?c16 ?k16 (by walk_at "b2")) (G.eQ KX GN ?a17 ?l17 ?c17 ?k17 (by walk_at "b0")) (G.eQ KX GN ?a18 ?l18 ?c18 ?k18 (by walk_at "b2")) (G.eQ KX GN ?a19 ?l19 ?c19 ?k19 (by walk_at "b1")) (G.eQ KX GN ?a20 ?l20 ?c20 ?k20 (by walk_at "b2")) (G.eQ KX GN ?a21 ?l21 ?c21 ?k21 (by walk_at "b1")) (G.eQ KX GN ?a22 ?l22 ?c22 ?k22 (by walk_at "b1")) (G.eQ KX GN ?a23 ?l23 ?c23 ?k23 (by walk_at "b2")) (G.eQ KX GN ?a24 ?l24 ?c24 ?k24 (by walk_at "b2")) (G.eQ KX GN ?a25 ?l25 ?c25 ?k25 (by walk_at "b1")) (G.eQ KX GN ?a26 ?l26 ?c26 ?k26 (by walk_at "b2")) (G.eQ KX GN ?a27 ?l27 ?c27 ?k27 (by walk_at "b3")) (G.eQ KX GN ?a28 ?l28 ?c28 ?k28 (by walk_at "b3")) (G.eQ KX GN ?a29 ?l29 ?c29 ?k29 (by walk_at "b3")) (G.eQ KX GN ?a30 ?l30 ?c30 ?k30 (by walk_at "b1")) (G.eQ KX GN ?a31 ?l31 ?c31 ?k31 (by walk_at "b3")) (G.eQ KX GN ?a32 ?l32 ?c32 ?k32 (by walk_at "b1")) (G.eQ KX GN ?a33 ?l33 ?c33 ?k33 (by walk_at "b2")) (G.eQ KX GN ?a34 ?l34 ?c34 ?k34 (by walk_at "b3")) (G.eQ KX GN ?a35 ?l35 ?c35 ?k35 (by walk_at "b3")) (G.eQ KX GN ?a36 ?l36 ?c36 ?k36 (by walk_at "b2")) (G.eQ KX GN ?a37 ?l37 ?c37 ?k37 (by walk_at "b2")) (G.eQ KX GN ?a38 ?l38 ?c38 ?k38 (by walk_at "b2")) (G.eQ KX GN ?a39 ?l39 ?c39 ?k39 (by walk_at "b2")) (G.eQ KX GN ?a40 ?l40 ?c40 ?k40 (by walk_at "b2")) ?a41 ?l41 ?c41 ?k41 ?z0 ?z1 ?z2 ?z3 ?z4 ?z5 ?z6 ?z7 ?z8 ?z9 ?z10 ?z11 ?z12 ?z13 ?z14 ?z15 ?gq0 ?mq0 ?gq1 ?mq1 ?gq2 ?mq2 ?gq3 ?gq4 ?gq5 ?gq6 ?mq6 ?dg0 ?dz0 ?dl0 ?dm0_0 ?dm0_1 ?dm0_2 ?dm0_3 ?dm0_4 ?dm0_5 ?dm0_6 ?dm0_7 ?dm0_8 ?xf0 ?xf1 ?xf2 ?xf3 ?xf4 ?xf5 ?xf6 ?xf7 ?xf8 ?xf9 ?xf10 ?xf11 ?xf12 ?xf13 ?xf14 ?xf15 ?xf16 ?xf17 ?xf18 ?xf19 ?xf20 ?xf21 ?xf22 ?xf23 ?xf24 ?xf25 ?xf26 ?xf27 ?xf28 ?xf29 ?xf30 ?xf31 ?xf32 ?le_code_of ?lk_code_of ?lw_code_of
  (case a0|l0|c0|k0|a1|l1|c1|k1|a2|l2|c2|k2|a3|l3|c3|k3|a4|l4|c4|k4|a5|l5|c5|k5|a6|l6|c6|k6|a7|l7|c7|k7|a8|l8|c8|k8|a9|l9|c9|k9|a10|l10|c10|k10|a11|l11|c11|k11|a12|l12|c12|k12|a13|l13|c13|k13|a14|l14|c14|k14|a15|l15|c15|k15|a16|l16|c16|k16|a17|l17|c17|k17|a18|l18|c18|k18|a19|l19|c19|k19|a20|l20|c20|k20|a21|l21|c21|k21|a22|l22|c22|k22|a23|l23|c23|k23|a24|l24|c24|k24|a25|l25|c25|k25|a26|l26|c26|k26|a27|l27|c27|k27|a28|l28|c28|k28|a29|l29|c29|k29|a30|l30|c30|k30|a31|l31|c31|k31|a32|l32|c32|k32|a33|l33|c33|k33|a34|l34|c34|k34|a35|l35|c35|k35|a36|l36|c36|k36|a37|l37|c37|k37|a38|l38|c38|k38|a39|l39|c39|k39|a40|l40|c40|k40|a41|l41|c41|k41|z0|z1|z2|z3|z4|z5|z6|z7|z8|z9|z10|z11|z12|z13|z14|z15|gq0|mq0|gq1|mq1|gq2|mq2|gq3|gq4|gq5|gq6|mq6|dg0|dl0|dm0_0|dm0_1|dm0_2|dm0_3|dm0_4|dm0_5|dm0_6|dm0_7|dm0_8=>k_is)
  (case dz0=>rfl)
  (case xf0|xf1|xf2|xf3|xf4|xf5|xf6=>k_is)
  (case xf7=>k_exc)
  (case xf8|xf9|xf10|xf11|xf12|xf13|xf14|xf15|xf16=>k_is)
  (case xf17=>kit_is)
  (case xf18=>kit_is)
  (case xf19=>kit_is)
  (case xf20|xf21|xf22|xf23|xf24|xf25|xf26|xf27|xf28|xf29|xf30|xf31|xf32=>k_is)
  (case le_code_of=>exact rfl)
  (case lk_code_of=>k_is)
  (case lw_code_of=>exact rfl)
 case L =>
  intro w h KX
  refine' G.DN KX (by kernel_rfl) ?ma_by_worth ?ma_by_weight ?ma_code_of ?ml_code_of ?mc_code_of ?mk_code_of ?mw_code_of ?mr_code_of
  (case ma_by_worth|ma_by_weight|ma_code_of|ml_code_of=>k_is)
  (case mc_code_of=>exact rfl)
  (case mk_code_of=>k_is)
  (case mw_code_of=>exact rfl)
  (case mr_code_of=>exact rfl)
end
